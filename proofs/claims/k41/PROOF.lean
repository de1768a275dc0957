import PyProof.Rows.All
import Wide.All
import OpenK.AllK
import Wide.FinOn
import PyProof.EqAt
import PyProof.EqKinds
import PyProof.TupleCall
import PyProof.ZipIter
import PyProof.EnumMake
import PyProof.EnumFor
import PyProof.Rows.EnumRows
import PyProof.CompMap
import PyProof.CompUse
import KE.KRevSl
import KE.KRevIter
import PyProof.ListRange
import PyProof.AutoRange
import PyProof.FactsAll.range_2
import PyProof.MaxThree
import KE.RegKTryMore
import PyProof.Rows.SumAny
import KE.KMinBuiltin
import PyProof.Rows.CallKwBuiltin
import Lean
import PySem.Challenge.RW_roundglass_k41_papers_of_never_judged
noncomputable section
open PySem renaming wpAny_bind→c6u,wpAny_pure→c6E
open PySem.W renaming Frag→c6v
open Int renaming natAbs_natCast→c6w,natCast_inj→c6V,natAbs_mul→c6W,natCast_mul→c7t,mul_ne_zero→c7u,toNat_natCast→c7A,natAbs_neg→c7T,natCast_nonneg→c75,emod_lt_of_pos→c8j,sign_eq_one_of_pos→c8m,emod_nonneg→c8I,sign_eq_neg_one_of_neg→c8M,natAbs_ediv_le_natAbs→c8Q,mul_ediv_cancel_left→c8U,gcd→c9b,natAbs_pos→c9j,one_mul→c9m,neg_ediv_of_dvd→c9p,toNat→c9y,natAbs_add_le→c9A,mul_one→c9P
open List renaming length_map→c6x,getElem?_eq_some_iff→c6F,length_append→c6H,mem_of_getElem?→c6J,getElem?_map→c6K,size_toArray→c6L,mem_cons→c6M,mem_singleton→c6N,map_append→c6P,not_mem_nil→c6Q,mem_append→c6R,take_length→c6X,mem_cons_of_mem→c6Y,mem_append_right→c7a,replicate→c7b,getElem?_eq_getElem→c7c,length_reverse→c7d,length_cons→c7f,map→c7i,mem_cons_self→c7j,mem_map→c7k,length_nil→c7o,length_take→c7p,filter_append→c7r,length_zipIdx→c7s,map_map→c7w,take_succ_eq_append_getElem→c7x,take_of_length_le→c7y,replicate_succ→c7B,map_cons→c7C,append_nil→c7G,length_drop→c7K,filter_cons→c7L,getElem?_of_mem→c7M,getElem?_replicate→c7N,mem_reverse→c7Q,getElem?_zipWith→c7S,range→c7U,flatten_cons→c7V,take_add_one→c7X,mem_range→c7Z,getElem?_append_right→c77,getD_eq_getElem?_getD→c78,mem_of_mem_take→c8a,getElem?_append_left→c8b,lookup_cons→c8d,map_reverse→c8f,map_nil→c8g,find?_eq_none→c8l,drop_eq_nil_of_le→c8n,reverse_cons→c8o,length_replicate→c8r,length_filter_le→c8s,take_append_drop→c8t,ext_getElem→c8v,getElem?_append→c8x,map_take→c8y,mem_zipIdx_iff_getElem?→c8z,mem_filter→c8B,filterMap_cons→c8C,nodup_cons→c8E,of_mem_zip→c8F,length_set→c8G,zip_eq_zipWith→c8K,length_zip→c8L,map_inj_right→c8O,mem_or_eq_of_mem_set→c8R,getElem?_zip_eq_some→c8S,any_eq_false→c8T,getElem?_set→c8V,find?_range_eq_some→c8W,filter→c80,map_zipWith→c85,getElem?_set_self→c86,forIn_cons→c9c,mem_append_left→c9f,getElem?_set_ne→c9g,getElem_reverse→c9h,mem_of_mem_drop→c9i,length→c9k,filter_reverse→c9r,length_zipWith→c9s,mem_filterMap→c9t,map_drop→c9x,append_assoc→c9z,zipIdx_cons→c9N,zipWith_map→c9O,foldl→c9R
open PySem.Heap renaming get?_push_of_some→c6y,get?_push_size→c6G,lt_size→c6I,get?_update_other→c7l,get?_update_self→c7n,size_push→c7D,get?_push_ne→c9C
open PySem.Builtin.Range renaming rangeFitsLong→c6z
open Nat renaming lt_of_lt_of_le→c6A,le_trans→c6D,lt_of_le_of_lt→c6O,pow_le_pow_right→c6T,le_refl→c6U,gcd→c7e,ne_of_lt→c7h,zero_le→c7m,ne_of_gt→c7F,mul_ne_zero→c7H,two_pow_pos→c7O,lt_irrefl→c7R,gcd_pos_of_pos_right→c7W,mul_le_mul→c74,pow_lt_pow_right→c79,le_add_right→c8e,lt_or_ge→c8h,eq_zero_or_pos→c8i,le_of_lt→c8q,max_le→c8A,div_le_self→c8H,le_mul_self→c8J,pow_succ→c8N,one_lt_two_pow→c8P,log2_lt→c8X,pow_add→c8Y,mul_pos→c81,min_le_right→c82,le_max_right→c83,gcd_le_right→c84,le_mul_of_pos_left→c87,mul_comm→c89,le_max_left→c9a,pos_iff_ne_zero→c9l,mul_le_mul_left→c9q,mul_assoc→c9v,le_of_dvd→c9w,lt_trichotomy→c9E,le_succ_of_le→c9F,mul_left_comm→c9G,dvd_add_right→c9H,add_comm→c9I,le_of_eq→c9J,succ_pos→c9K,gcd_comm→c9L,add_mul→c9Q
open Rat renaming intCast_mul→c6B,intCast_natCast→c6C,natCast_mul→c6Z,divInt→c7g,divInt_eq_div→c7q,mul_eq_zero→c7I,intCast_add→c7P,mul_le_mul_of_nonneg_right→c7Y,num_divInt_den→c76,mul_nonneg→c8c,intCast_sub→c8k,mul_pos→c8p,mul_le_mul_of_nonneg_left→c8w,intCast_lt_intCast→c88,le_of_lt→c9d,le_total→c9e,neg_num→c9n,neg_den→c9o,sub_eq_add_neg→c9u,lt_iff→c9B
open Bool renaming false_ne_true→c6S,false_eq_true→c7J,and_eq_true→c8u,eq_iff_iff→c8D,true_and→c8Z,not_eq_true'→c9D
open Classical renaming propDecidable→c7v,byContradiction→c7E
open Option renaming map_eq_some_iff→c7z,getD_none→c9M
set_option compiler.extract_closed false
set_option Elab.async false
set_option linter.all false
set_option maxRecDepth 100000
section
namespace L2
open PySem PySem.Spec PyProof.Rows
noncomputable abbrev Key:=Sum Int Str
noncomputable def b8z:Key→Value→Bool
 | .inl k,v=>Value.isInt k v
 | .inr x,v=>Value.isStrOf x v
noncomputable def c3h(w:World):Key→Int
 | .inl k=>hashInt k
 | .inr x=>hashStr w x
theorem B3:∀{k:Key} {v:Value},b8z k v=true→(∃ i t,k=Sum.inl i∧v=Value.int i t)∨(∃ x t,k=Sum.inr x∧v=Value.str x t)
 | .inl i,v,h=>by
  obtain⟨t,e⟩:=Value.isInt_shape (k:=i) (v:=v) h
  exact .inl ⟨i,t,rfl,e⟩
 | .inr x,v,h=>by
  obtain⟨t,e⟩:=Value.isStrOf_shape (x:=x) (v:=v) h
  exact .inr ⟨x,t,rfl,e⟩
theorem c0d(a b:Int):decide ((Sum.inl a:Key)=Sum.inl b)=(a == b):=by
 by_cases e:a=b
 ·subst e;simp
 ·have h:¬ (Sum.inl a:Key)=Sum.inl b:=fun q=>e (Sum.inl.inj q)
  rw[decide_eq_false h]
  exact(beq_eq_false_iff_ne.mpr e).symm
theorem c0a(a b:Str):decide ((Sum.inr a:Key)=Sum.inr b)=decide (a=b):=by
 by_cases e:a=b
 ·subst e;simp
 ·have h:¬ (Sum.inr a:Key)=Sum.inr b:=fun q=>e (Sum.inr.inj q)
  rw[decide_eq_false h,decide_eq_false e]
theorem c0c(a:Int)(b:Str):decide ((Sum.inl a:Key)=Sum.inr b)=false:=decide_eq_false (fun q=>nomatch q)
theorem c0b(a:Str)(b:Int):decide ((Sum.inr a:Key)=Sum.inl b)=false:=decide_eq_false (fun q=>nomatch q)
noncomputable def b00(prog:Program)(w:World):PySem.KeyKind prog w Key where
 is:=b8z
 hash:=c3h w
 inj:=fun v a b ha hb=>by
  rcases B3 ha with⟨i,t,rfl,rfl⟩|⟨x,t,rfl,rfl⟩
  ·rcases B3 hb with⟨j,u,rfl,e⟩|⟨y,u,rfl,e⟩
   ·injection e with e1 _;rw[e1]
   ·exact nomatch e
  ·rcases B3 hb with⟨j,u,rfl,e⟩|⟨y,u,rfl,e⟩
   ·exact nomatch e
   ·injection e with e1 _;rw[e1]
 byValue:=fun k v h=>by
  rcases B3 h with⟨i,t,rfl,rfl⟩|⟨x,t,rfl,rfl⟩<;>rfl
 pyHash:=fun hv h=>by
  rcases B3 hv with⟨i,t,rfl,rfl⟩|⟨x,t,rfl,rfl⟩
  ·exact wpAny_pyHash_int h
  ·exact wpAny_pyHash_str h
 eqBool:=fun hu hv h=>by
  rcases B3 hu with⟨i,t,rfl,rfl⟩|⟨x,t,rfl,rfl⟩
  ·rcases B3 hv with⟨j,u,rfl,rfl⟩|⟨y,u,rfl,rfl⟩
   ·rw[c0d]at h;exact wpAny_eqBool_int h
   ·rw[c0c]at h;exact SeqAt.EqAt.int_str i t y u _ _ _ _ h
  ·rcases B3 hv with⟨j,u,rfl,rfl⟩|⟨y,u,rfl,rfl⟩
   ·rw[c0b]at h;exact SeqAt.EqAt.str_int x t j u _ _ _ _ h
   ·rw[c0a]at h;exact wpAny_eqBool_str h
 «strs»:=fun k x t v h=>by
  rcases B3 h with⟨i,u,rfl,e⟩|⟨y,u,rfl,e⟩
  ·exact nomatch e
  ·injection e with e1 _
   subst e1
   cases v<;>rfl
end L2
namespace L2
open PySem PySem.Spec PyProof.Rows
inductive V where
 | non|bl (b:Bool)|int (i:Int)|str (x:Str)|byt (b:Array UInt8)|flt (b:UInt64)|ref (a:Addr)|ty (n:String)
 deriving DecidableEq
noncomputable def u0:V→Value→Prop
 | .non,u=>u=Value.none
 | .bl b,u=>u=Value.bool b
 | .int i,u=>∃ t,u=Value.int i t
 | .str x,u=>∃ t,u=Value.str x t
 | .byt b,u=>∃ t,u=Value.bytes b t
 | .flt b,u=>∃ t,u=Value.float b t
 | .ref a,u=>u=Value.ref a
 | .ty n,u=>u=Value.type n
noncomputable abbrev o8:List V→List Value→Prop:=Paired u0
theorem o8.length{xs:List V}{us:List Value}(r:o8 xs us):xs.length=us.length:=Paired.length r
theorem o8.get:∀{xs:List V} {us:List Value} {i:Nat} {x:V},o8 xs us→xs[i]? = some x→∃ u,us[i]? = some u∧u0 x u
 | _,_,_,_,.nil,e=>by simp at e
 | _,_,0,_,.cons r _,e=>by simp at e;subst e;exact⟨_,rfl,r⟩
 | _,_,i+1,x,.cons _ t,e=>by
  obtain⟨u,h1,h2⟩:=o8.get (i:=i) (x:=x) t (by simpa using e)
  exact⟨u,by simpa using h1,h2⟩
theorem o8.set{x:V}{u:Value}(r:u0 x u):∀{xs:List V} {us:List Value} (i:Nat),o8 xs us→o8 (xs.set i x) (us.set i u)
 | _,_,_,.nil=>.nil
 | _,_,0,.cons _ t=>.cons r t
 | _,_,i+1,.cons q t=>.cons q (o8.set r i t)
theorem o8.append:∀{xs ys:List V} {us ws:List Value},o8 xs us→o8 ys ws→o8 (xs++ys) (us++ws)
 | _,_,_,_,.nil,s=>s
 | _,_,_,_,.cons r t,s=>.cons r (o8.append t s)
theorem o8.take:∀{xs:List V} {us:List Value} (n:Nat),o8 xs us→o8 (xs.take n) (us.take n)
 | _,_,0,_=>.nil
 | _,_,_+1,.nil=>.nil
 | _,_,n+1,.cons r t=>.cons r (o8.take n t)
theorem o8.drop:∀{xs:List V} {us:List Value} (n:Nat),o8 xs us→o8 (xs.drop n) (us.drop n)
 | _,_,0,r=>r
 | _,_,_+1,.nil=>.nil
 | _,_,n+1,.cons _ t=>o8.drop n t
noncomputable def c0E:Option V→Option Value→Prop
 | some v,some u=>u0 v u
 | none,none=>True
 | _,_=>False
noncomputable def KV{κ:Type}:List (κ × V)→List (κ × Value)→Prop:=Paired fun(p:κ × V) (q:κ × Value)=>p.1=q.1∧u0 p.2 q.2
noncomputable def kV:Key→V
 | .inl i=>.int i
 | .inr x=>.str x
inductive HO where
 | lst (xs:List V)
 | tup (xs:List V)
 | dK (kvs:List (Key × V))|dT (kvs:List (List Key × V))
 | set (S:Int→Bool) (n:Nat)
 | ins (C dx:Addr) (fs:List (Str × V))
 | own (x:Addr)
 | xd (fs:List (Str × V))
 | met (f x:Addr)
 | rng (lo hi:Int)
 | frz (o:Obj) (u:HO)
 | tbl (ps:Array Value)
 | ext (φ:Heap→Prop)
noncomputable abbrev Hp:=Addr→Option HO
noncomputable def upd(H:Hp)(a:Addr)(o:HO):Hp:=fun b=>if b=a then some o else H b
theorem i9{H:Hp}{a:Addr}{o:HO}:upd H a o a=some o:=by unfold upd;rw[if_pos rfl]
theorem j4{H:Hp}{a b:Addr}{o:HO}(h:b≠a):upd H a o b=H b:=by unfold upd;rw[if_neg h]
theorem a0W{H:Hp}{a:Addr}{o u:HO}:upd (upd H a o) a u=upd H a u:=by
 funext b;unfold upd;split<;>rfl
theorem F7{H:Hp}{a b:Addr}{o:HO}(h:H a=some o)(h':H b=none):a≠b:=by
 intro e;subst e;rw[h]at h';cases h'
section
variable (P:Program) (w:World)
noncomputable def D4(H:Hp)(h:Heap)(a:Addr):HO→Prop
 | .lst xs=>xs.length≤sizeLine∧∃(its:List Value) (n:Nat),o8 xs its∧h.get? a=some { cls:=.type "list",data:=.seq its.toArray n }
 | .tup xs=>xs.length≤sizeLine∧∃ its:List Value,o8 xs its∧IsTup h a its.toArray
 | .dK kvs=>kvs.length≤sizeLine∧(a == sysModules)=false∧∃ vs,KV kvs vs∧h.DictOf (b00 P w) a vs
 | .dT kvs=>kvs.length≤sizeLine∧(a == sysModules)=false∧∃ xs:List (List Key × Addr × Value),
   Paired (fun(p:List Key × V) (q:List Key × Addr × Value)=>p.1=q.1∧H q.2.1=some (.tup (p.1.map kV))∧u0 p.2 q.2.2) kvs xs ∧
   ∃ o es ep,h.get? a=some o∧o.ExactDict∧o.data = .dict es ep∧es.toList=xs.map (entryOfKey (tupleKind (b00 P w)))∧(xs.map (·.1)).Nodup
 | .set S n=>h.SetOf (intKind P w) a S n
 | .ins C dx fs=>H dx=some (.own a)∧fs.length≤1000∧dx≠a∧h.get? a=some (PySem.W.instObj C dx) ∧
   ∃ mA,h.Ns1 dx mA∧(∀ f,c0E (fs.lookup f) (mA f))∧PySem.Within mA (fs.map (·.1))
 | .own _=>∃ o,h.get? a=some o
 | .xd fs=>∃ mA,h.Ns1 a mA∧∀ f,c0E (fs.lookup f) (mA f)
 | .rng lo hi=>∃ t u v,h.get? a=some { cls:=.type "range",data:=.fields #[.int lo t,.int hi u,.int 1 v] }
 | .frz o u=>h.get? a=some o∧D4 H h a u
 | .tbl ps=>h.get? a=some { cls:=.none,data:=.fields ps }
 | .met f x=>h.get? a=some (PySem.W.methodObj (.ref f) (.ref x))
 | .ext φ=>φ h∧(∃ o,h.get? a=some o)∧∀ h1 h2:Heap,φ h1→(∀ o,h1.get? a=some o→h2.get? a=some o)→φ h2
noncomputable def HOk(H:Hp)(h:Heap):Prop:=∀ a o,H a=some o→D4 P w H h a o
end
section
variable {P:Program} {w:World} {H H':Hp} {h h':Heap} {a:Addr} {o:HO}
theorem D4.lt(x:D4 P w H h a o):a<h.objs.size:=by
 cases o with
 | lst xs=>obtain⟨_,_,_,_,e⟩:=x;exact c6I e
 | tup xs=>obtain⟨_,_,_,p⟩:=x;exact p.lt
 | dK kvs=>obtain⟨_,_,_,_,o,_,_,e,_⟩:=x;exact c6I e
 | dT kvs=>obtain⟨_,_,_,_,o,_,_,e,_⟩:=x;exact c6I e
 | set S n=>obtain⟨o,_,_,_,e,_⟩:=x;exact c6I e
 | ins C dx fs=>obtain⟨_,_,_,e,_⟩:=x;exact c6I e
 | own y=>obtain⟨_,e⟩:=x;exact c6I e
 | xd fs=>obtain⟨_,⟨_,_,_,e,_⟩,_⟩:=x;exact c6I e
 | rng lo hi=>obtain⟨_,_,_,e⟩:=x;exact c6I e
 | frz ob u=>obtain⟨e,_⟩:=x;exact c6I e
 | tbl ps=>exact c6I (show h.get? a=some _ from x)
 | met f y=>exact c6I (show h.get? a=some _ from x)
 | ext φ=>obtain⟨_,⟨_,e⟩,_⟩:=x;exact c6I e
theorem Paired.mapP{α β:Type}{F G:α→β→Prop}:∀{l₁:List α} {l₂:List β},Paired F l₁ l₂→(∀ a b,F a b→G a b)→Paired G l₁ l₂
 | _,_,.nil,_=>.nil
 | _,_,.cons r t,f=>.cons (f _ _ r) (Paired.mapP t f)
theorem D4.stay(x:D4 P w H h a o)(k:∀ b u,(b=a∨H b=some (.own a))→h.get? b=some u→h'.get? b=some u)
  (ho:∀ b,H b=some (.own a)→H' b=some (.own a)) (ht:∀ b xs,H b=some (.tup xs)→H' b=some (.tup xs)):D4 P w H' h' a o:=by
 induction o with
 | lst xs=>obtain⟨z,its,n,r,e⟩:=x;exact⟨z,its,n,r,k _ _ (.inl rfl) e⟩
 | tup xs=>obtain⟨z,its,r,ob,e,c⟩:=x;exact⟨z,its,r,ob,k _ _ (.inl rfl) e,c⟩
 | dK kvs=>obtain⟨z,y,vs,r,ob,es,ep,e,c⟩:=x;exact⟨z,y,vs,r,ob,es,ep,k _ _ (.inl rfl) e,c⟩
 | dT kvs =>
  obtain⟨z,y,xs,r,ob,es,ep,e,c⟩:=x
  exact⟨z,y,xs,Paired.mapP r fun p q z=>⟨z.1,ht _ _ z.2.1,z.2.2⟩,ob,es,ep,k _ _ (.inl rfl) e,c⟩
 | set S n=>obtain⟨ob,es,ep,t,e,c⟩:=x;exact⟨ob,es,ep,t,k _ _ (.inl rfl) e,c⟩
 | ins C dx fs =>
  obtain⟨d,z,ne,e,mA,⟨od,es,ep,e2,c⟩,r⟩:=x
  exact⟨ho _ d,z,ne,k _ _ (.inl rfl) e,mA,⟨od,es,ep,k _ _ (.inr d) e2,c⟩,r⟩
 | own y=>obtain⟨ob,e⟩:=x;exact⟨ob,k _ _ (.inl rfl) e⟩
 | xd fs=>obtain⟨mA,⟨od,es,ep,e,c⟩,r⟩:=x;exact⟨mA,⟨od,es,ep,k _ _ (.inl rfl) e,c⟩,r⟩
 | rng lo hi=>obtain⟨t,u,v,e⟩:=x;exact⟨t,u,v,k _ _ (.inl rfl) e⟩
 | frz ob u ih=>obtain⟨e,q⟩:=x;exact⟨k _ _ (.inl rfl) e,ih q⟩
 | tbl ps =>
  have e:h.get? a=some { cls:=.none,data:=.fields ps }:=x
  show h'.get? a=some { cls:=.none,data:=.fields ps }
  exact k a _ (.inl rfl) e
 | met f y =>
  have e:h.get? a=some (PySem.W.methodObj (.ref f) (.ref y)):=x
  show h'.get? a=some (PySem.W.methodObj (.ref f) (.ref y))
  exact k a _ (.inl rfl) e
 | ext φ=>obtain⟨p,⟨o,e⟩,st⟩:=x;exact⟨st _ _ p fun o q=>k _ _ (.inl rfl) q,⟨o,k _ _ (.inl rfl) e⟩,st⟩
theorem HOk.lt(x:HOk P w H h)(e:H a=some o):a<h.objs.size:=(x a o e).lt
theorem HOk.fresh(x:HOk P w H h)(e:h.objs.size≤a):H a=none:=by
 cases q:H a with
 | none=>rfl
 | some u=>exact absurd (c6A (x.lt q) e) (c7R _)
theorem HOk.kept(x:HOk P w H h)(k:∀ b u,h.get? b=some u→h'.get? b=some u):HOk P w H h':=fun a o e =>
 (x a o e).stay (fun b u _ q=>k b u q) (fun _ q=>q) fun _ _ q=>q
theorem HOk.laid(x:HOk P w H h)(k:∀ b u,h.get? b=some u→h'.get? b=some u)(hp:h.objs.size≤a)(new:D4 P w (upd H a o) h' a o):HOk P w (upd H a o) h':=fun b u e=>by
 have hn:=x.fresh hp
 by_cases hb:b=a
 ·subst hb;rw[i9]at e;cases e;exact new
 ·rw[j4 hb]at e
  exact(x b u e).stay (fun c v _ q=>k c v q) (fun c q=>by rw[j4 (F7 q hn)];exact q) fun c xs q=>by rw[j4 (F7 q hn)];exact q
end
noncomputable def Rd(H:Hp)(a:Addr)(u:HO):Prop:=H a=some u ∨ ∃ o,H a=some (.frz o u)
theorem Rd.of{H:Hp}{a:Addr}{u:HO}(h:H a=some u):Rd H a u:=.inl h
theorem Rd.ok{P:Program}{w:World}{H:Hp}{h:Heap}{a:Addr}{u:HO}(r:Rd H a u)(x:HOk P w H h):D4 P w H h a u:=by
 rcases r with r|⟨o,r⟩
 ·exact x a u r
 ·obtain⟨_,q⟩:=x a _ r
  exact q
noncomputable def Mut:Option HO→Prop
 | some (.lst _)=>True
 | some (.dK _)=>True
 | some (.dT _)=>True
 | some (.set _ _)=>True
 | some (.ins _ _ _)=>True
 | some (.ext _)=>True
 | _=>False
section
variable {P:Program} {w:World} {H:Hp} {h h':Heap} {x e:Addr} {o':HO}
theorem HOk.write(ok:HOk P w H h)(mu:Mut (H x))(he:e=x∨H e=some (.own x))(k:∀ b u,b≠e→h.get? b=some u→h'.get? b=some u)(heo:∃ u,h'.get? e=some u)
  (new:D4 P w (upd H x o') h' x o'):HOk P w (upd H x o') h':=fun b u q=>by
 have nown:∀ c y,H c=some (.own y)→c≠x:=fun c y r z=>by subst z;rw[r]at mu;exact mu
 have ntup:∀ c xs,H c=some (.tup xs)→c≠x:=fun c xs r z=>by subst z;rw[r]at mu;exact mu
 by_cases hb:b=x
 ·subst hb;rw[i9]at q;cases q;exact new
 ·rw[j4 hb]at q
  by_cases hbe:b=e
  ·have q':H b=some (.own x):=by
    rcases he with z|z
    ·exact absurd (hbe.trans z) hb
    ·rw[hbe];exact z
   rw[q]at q';cases q'
   obtain⟨v,hv⟩:=heo
   exact⟨v,by rw[hbe];exact hv⟩
  ·refine(ok b u q).stay (fun c v hc r=>k c v ?_ r) (fun c r=>by rw[j4 (nown c b r)];exact r) fun c xs r=>by rw[j4 (ntup c xs r)];exact r
   rcases hc with rfl|hc
   ·exact hbe
   ·rintro rfl
    rcases he with z|z
    ·exact nown c b hc z
    ·rw[hc]at z;cases z;exact hb rfl
end
structure Un(fs ex:List Addr)(H H':Hp)(h h':Heap):Prop where
 keep:∀ b o,h.get? b=some o→H b=none→b∉fs→b∉ex→h'.get? b=some o
 slot:∀ b o,h.get? b=some o→H b=none→b∈fs→b∉ex→∃ sl,h'.get? b=some { o with slots:=sl }
 free:∀ b o,h.get? b=some o→H b=none→b∉ex→H' b=none
 there:∀ b o,h.get? b=some o→b∉ex→∃ o',h'.get? b=some o'
 tups:∀ b xs,H b=some (.tup xs)→H' b=some (.tup xs)
 frzs:∀ b o u,H b=some (.frz o u)→H' b=some (.frz o u)
 tbls:∀ b ps,H b=some (.tbl ps)→∃ more,H' b=some (.tbl (ps++more))
section
variable {fs fs' ex ex':List Addr} {H H1 H2:Hp} {h h1 h2 h':Heap} {a x e:Addr} {o:HO}
theorem Un.any(u:Un fs ex H H1 h h1){b:Addr}{ob:Obj}(q:h.get? b=some ob)(n:H b=none)(hx:b∉ex):∃ sl,h1.get? b=some { ob with slots:=sl }:=by
 by_cases hb:b∈fs
 ·exact u.slot b ob q n hb hx
 ·exact⟨ob.slots,u.keep b ob q n hb hx⟩
theorem Un.trans(a:Un fs ex H H1 h h1)(b:Un fs ex H1 H2 h1 h2):Un fs ex H H2 h h2 where
 keep:=fun c ob q n hc hx=>b.keep c ob (a.keep c ob q n hc hx) (a.free c ob q n hx) hc hx
 slot:=fun c ob q n hc hx=>by
  obtain⟨sl,e1⟩:=a.slot c ob q n hc hx
  obtain⟨sl',e2⟩:=b.slot c _ e1 (a.free c ob q n hx) hc hx
  exact⟨sl',e2⟩
 free:=fun c ob q n hx=>by
  obtain⟨o',e1⟩:=a.there c ob q hx
  exact b.free c o' e1 (a.free c ob q n hx) hx
 there:=fun c ob q hx=>by
  obtain⟨o',e1⟩:=a.there c ob q hx
  exact b.there c o' e1 hx
 tups:=fun c xs q=>b.tups c xs (a.tups c xs q)
 frzs:=fun c ob xs q=>b.frzs c ob xs (a.frzs c ob xs q)
 tbls:=fun c ps q=>by
  obtain⟨m1,e1⟩:=a.tbls c ps q
  obtain⟨m2,e2⟩:=b.tbls c _ e1
  exact⟨m1++m2,by rw[e2,Array.append_assoc]⟩
theorem Un.kept(k:∀ b u,h.get? b=some u→h'.get? b=some u):Un fs ex H H h h' :=
 ⟨fun b ob q _ _ _=>k b ob q,fun b ob q _ _ _=>⟨ob.slots,k b ob q⟩,fun _ _ _ n _=>n,fun b ob q _=>⟨ob,k b ob q⟩,fun _ _ q=>q,fun _ _ _ q=>q,fun _ ps q=>⟨#[],by rw[q];simp⟩⟩
theorem Un.refl:Un fs ex H H h h:=Un.kept fun _ _ q=>q
theorem Un.laid(k:∀ b u,h.get? b=some u→h'.get? b=some u)(hp:h.objs.size≤a)(hn:H a=none):Un fs ex H (upd H a o) h h' where
 keep:=fun b u q _ _ _=>k b u q
 slot:=fun b u q _ _ _=>⟨u.slots,k b u q⟩
 free:=fun b u q n _=>by rw[j4 (c7h (c6A (c6I q) hp))];exact n
 there:=fun b u q _=>⟨u,k b u q⟩
 tups:=fun b xs q=>by rw[j4 (F7 q hn)];exact q
 frzs:=fun b u xs q=>by rw[j4 (F7 q hn)];exact q
 tbls:=fun b ps q=>⟨#[],by rw[j4 (F7 q hn),q];simp⟩
theorem Un.write(mu:Mut (H x))(he:e=x∨H e=some (.own x))(k:∀ b u,b≠e→h.get? b=some u→h'.get? b=some u)(heo:∃ u,h'.get? e=some u):Un fs ex H (upd H x o) h h':=by
 have hx:∀ b,H b=none→b≠x:=fun b n z=>by subst z;rw[n]at mu;exact mu
 have hb:∀ b,H b=none→b≠e:=fun b n z=>by
  subst z
  rcases he with r|r
  ·exact hx b n r
  ·rw[n]at r;cases r
 have hm:∀ b u,H b=some u→¬ Mut (some u)→b≠x:=fun b u q nm z=>by subst z;rw[q]at mu;exact nm mu
 refine⟨fun b u q n _ _=>k b u (hb b n) q,fun b u q n _ _=>⟨u.slots,k b u (hb b n) q⟩,fun b u q n _=>by rw[j4 (hx b n)];exact n,fun b u q _=>?_,
  fun b xs q=>by rw[j4 (hm b _ q fun z=>z)];exact q,fun b u xs q=>by rw[j4 (hm b _ q fun z=>z)];exact q,fun b ps q=>⟨#[],by rw[j4 (hm b _ q fun z=>z),q];simp⟩⟩
 by_cases hbe:b=e
 ·subst hbe;exact heo
 ·exact⟨u,k b u hbe q⟩
theorem Un.mono(u:Un fs ex H H1 h h1)(hs:∀ b∈fs,b∈fs')(hx:∀ b∈ex,b∈ex'):Un fs' ex' H H1 h h1 :=
 ⟨fun b ob q n hb he=>u.keep b ob q n (fun z=>hb (hs b z)) fun z=>he (hx b z),fun _ _ q n _ he=>u.any q n fun z=>he (hx _ z),fun b ob q n he=>u.free b ob q n fun z=>he (hx b z),fun b ob q he=>u.there b ob q fun z=>he (hx b z),u.tups,u.frzs,u.tbls⟩
end
noncomputable def trk(h:Heap)(H:Hp):List Addr:=(c7U h.objs.size).filter fun a=>(H a).isSome
noncomputable def a6U(h:Heap)(H:Hp):Heap:=PySem.W.hideAll h (trk h H)
theorem b1T(h:Heap)(H:Hp):(a6U h H).objs.size=h.objs.size:=PySem.W.hideAll_size _ _
theorem b4v{h:Heap}{H:Hp}{b:Addr}{o:Obj}(e:h.get? b=some o)(n:H b=none):(a6U h H).get? b=some o :=
 PySem.W.hideAll_get _ e fun hm=>by
  have q:(H b).isSome=true:=(c8B.mp hm).2
  rw[n]at q;simp at q
theorem b7f{h:Heap}{H:Hp}{b:Addr}{o:Obj}(e:(a6U h H).get? b=some o):h.get? b=some o∧H b=none:=by
 have e':h.get? b=some o:=PySem.W.of_hideAll (trk h H) e
 refine⟨e',?_⟩
 cases q:H b with
 | none=>rfl
 | some x =>
  have hm:b∈trk h H:=c8B.mpr ⟨c7Z.mpr (c6I e'),by simp[q]⟩
  have z:(a6U h H).get? b=none:=PySem.W.hideAll_none (trk h H) hm
  rw[z]at e;cases e
noncomputable def b7E(g h:Heap)(L:Addr):List (Addr × Obj):=(c7U h.objs.size).filterMap fun a=>if a=L∨(g.get? a).isSome=true then none else(h.get? a).map fun o=>(a,o)
noncomputable def J4(g h:Heap)(L d:Addr):List (Addr × Obj):=(b7E g h L).filter fun p=>decide (p.1≠d)
end L2
namespace L2
open PySem PySem.Spec PyProof.Rows
structure Mod(K:c6v)(mg:Str→Option Value)(base:Heap):Prop where
 kin:K.In base
 glob:base.Ns mainGlobals mg
 blt:∃ mb,base.Ns builtinsNs mb∧∀ x:Str,x ≠ "__name__" → mb x=bootBuiltins x
 nolimit:base.NoLimit
structure Cx where
 prog:Program
 w:World
 K:c6v
 mg:Str→Option Value
 base:Heap
 A:Around
 N:List Str
 s₀:Shared
 H₀:Hp
 env:Env
 outer:List Env
 stack:List Env
 ex:List Addr
 fn:Str→Bool
 calm:Bool
 pn:List (Addr × Obj)
 xe:Value→Shared→Prop
noncomputable def frs(l:List Env):List Addr:=l.filterMap (·.frame)
noncomputable abbrev Cx.fs(X:Cx):List Addr:=frs X.outer
noncomputable def Vis(sc:Scope)(x:Str):Prop:=sc.names.lookup x=some .local∨sc.names.lookup x=some .cell∨sc.names.lookup x=some .free
noncomputable def Loc(sc:Scope)(x:Str):Prop:=sc.names.lookup x=some .local∨sc.names.lookup x=some .cell
noncomputable def c3t(env:Env)(h:Heap)(m:Str→Option Value)(x:Str)(u:Value):Prop :=
 (env.kindOf x=some .local∧m x=some u)∨((env.kindOf x=some .cell∨env.kindOf x=some .free)∧∃ c,env.cells.lookup x=some c∧h.IsCell c (some u))
structure Cx.Ok(X:Cx):Prop where
 mod:Mod X.K X.mg X.base
 kind:X.env.scope.kind = .function
 glob:X.env.globals=mainGlobals
 blt:X.env.builtins=builtinsNs
 above:X.s₀.heap.objs.size≤X.env.locals
 inj:∀ x y c,X.env.cells.lookup x=some c→X.env.cells.lookup y=some c→x=y
 has:∀ x,(X.env.kindOf x=some .cell∨X.env.kindOf x=some .free)→∃ c,X.env.cells.lookup x=some c
 cab:∀ x c,X.fn x=true→X.env.cells.lookup x=some c→X.s₀.heap.objs.size≤c
 hd:X.calm=true→X.A.handled=none
 frames:X.A.frames=some X.stack
 stk:X.stack=X.outer∨(X.stack=X.env :: X.outer∧X.env.frame=some X.env.locals)
 exf:∀ b∈X.ex,b≠X.env.locals∧∀ x c,X.env.cells.lookup x=some c→c≠b
 bs:∀ b o,X.base.get? b=some o→X.s₀.heap.get? b=some o∧X.H₀ b=none
 bsz:X.base.objs.size≤X.s₀.heap.objs.size
 noex:∀ b o,X.base.get? b=some o→b∉X.ex
 exfs:∀ b∈X.ex,b∉X.fs
 funs:X.s₀.heap.FunFrames X.base X.outer
 frf:∀ b∈X.fs,X.H₀ b=none
structure Inv(X:Cx)(pins:List (Addr × Obj))(σ:List (Option V))(H:Hp)(s:Shared):Prop where
 ok:X.Ok
 os:s.os=X.s₀.os
 bare:AllBare s.gens
 base:Un X.fs X.ex X.H₀ H X.s₀.heap s.heap
 loc:∃ m,s.heap.Ns X.env.locals m∧∀(i:Nat) (x:Str) (v:V),X.N[i]? = some x→σ[i]? = some (some v)→Vis X.env.scope x→∃ u,u0 v u∧c3t X.env s.heap m x u
 cell:∀ x c,X.env.cells.lookup x=some c→∃ v,s.heap.IsCell c v
 free:H X.env.locals=none
 freeC:∀ x c,X.env.cells.lookup x=some c→H c=none
 pin:∀ p∈X.pn++pins,s.heap.get? p.1=some p.2∧H p.1=none∧p.1≠X.env.locals∧p.1∉X.fs∧∀ v,p.2.data ≠ .cell v
 hok:HOk X.prog X.w H s.heap
 len:σ.length=X.N.length
section
variable {X:Cx} {pins:List (Addr × Obj)} {σ:List (Option V)} {H H':Hp} {s:Shared} {h':Heap}
theorem Cx.Ok.nofr(ok:X.Ok){b:Addr}{o:Obj}(e:X.base.get? b=some o):b∉X.fs:=fun hb=>by
 have:=(ok.funs.mem hb).1
 rw[e]at this;cases this
theorem Inv.bs(I:Inv X pins σ H s):∀ b o,X.base.get? b=some o→s.heap.get? b=some o∧H b=none:=fun b o e =>
 ⟨I.base.keep b o (I.ok.bs b o e).1 (I.ok.bs b o e).2 (I.ok.nofr e) (I.ok.noex b o e),I.base.free b o (I.ok.bs b o e).1 (I.ok.bs b o e).2 (I.ok.noex b o e)⟩
theorem Inv.bk(I:Inv X pins σ H s):∀ b o,X.base.get? b=some o→s.heap.get? b=some o:=fun b o e=>(I.bs b o e).1
theorem Inv.mod(I:Inv X pins σ H s):Mod X.K X.mg X.base:=I.ok.mod
theorem Inv.kIn(I:Inv X pins σ H s):X.K.In s.heap:=I.ok.mod.kin.keeps I.bk
theorem Inv.nolimit(I:Inv X pins σ H s):s.heap.NoLimit:=I.ok.mod.nolimit.keeps I.bk
theorem Inv.fr(I:Inv X pins σ H s):∃ m,Fr X.base X.env.locals s.heap m :=
 let ⟨m,hn,_⟩:=I.loc
 ⟨m,hn,I.bk,c6D I.ok.bsz I.ok.above⟩
theorem Inv.lt(I:Inv X pins σ H s):X.env.locals<s.heap.objs.size:=let ⟨_,hn,_⟩:=I.loc;hn.lt
theorem Inv.sz(I:Inv X pins σ H s):X.s₀.heap.objs.size≤s.heap.objs.size:=c6D I.ok.above (c8q I.lt)
theorem Inv.nofs(I:Inv X pins σ H s){a:Addr}(h:s.heap.objs.size≤a):a∉X.fs:=fun hb=>by
 obtain⟨_,o,ho,_⟩:=I.ok.funs.mem hb
 exact absurd (c6A (c6I ho) (c6D I.sz h)) (c7R _)
theorem Inv.cne(I:Inv X pins σ H s):∀ x c,X.env.cells.lookup x=some c→c≠X.env.locals:=fun x c e z=>by
 obtain⟨v,o,ho,hd⟩:=I.cell x c e
 obtain⟨m,⟨o',es,ep,ho',hd',_⟩,_⟩:=I.loc
 rw[z,ho']at ho;cases ho;rw[hd']at hd;cases hd
theorem Inv.funs(I:Inv X pins σ H s):s.heap.FunFrames X.base X.outer:=by
 have all:∀(l:List Env),(∀ b∈frs l,b∈X.fs)→X.s₀.heap.FunFrames X.base l→s.heap.FunFrames X.base l:=by
  intro l
  induction l with
  | nil=>intro _ _;trivial
  | cons env r ih =>
   intro hs hl
   obtain⟨hk,⟨L,o,hf,hn,ho,hd⟩,hr⟩:=hl
   have hL:L∈X.fs:=hs L (by unfold frs;rw[c8C,hf];exact c7j)
   obtain⟨sl,e⟩:=I.base.slot L o ho (I.ok.frf L hL) hL fun z=>I.ok.exfs L z hL
   exact⟨hk,⟨L,_,hf,hn,e,hd⟩,ih (fun b hb=>hs b (by unfold frs;rw[c8C,hf];exact c6Y _ hb)) hr⟩
 exact all X.outer (fun _ hb=>hb) I.ok.funs
theorem Inv.stack(I:Inv X pins σ H s):s.heap.FunFrames X.base X.stack:=by
 rcases I.ok.stk with e|⟨e,hf⟩
 ·rw[e];exact I.funs
 ·rw[e]
  obtain⟨m,hn,_⟩:=I.loc
  refine .cons (by rw[I.ok.kind];decide) hf hn ?_ I.funs
  exact Heap.get?_none_of_le (c6D I.ok.bsz I.ok.above)
theorem Inv.stkSub(I:Inv X pins σ H s):∀ b∈frs X.stack,b∈X.env.locals :: X.fs:=fun b hb=>by
 rcases I.ok.stk with e|⟨e,hf⟩
 ·rw[e]at hb;exact c6Y _ hb
 ·rw[e]at hb
  unfold frs at hb
  rw[c8C,hf]at hb
  exact hb
theorem Inv.stkFree(I:Inv X pins σ H s):∀ b∈frs X.stack,H b=none:=fun b hb=>by
 rcases c6M.mp (I.stkSub b hb)with e|hb
 ·rw[e];exact I.free
 ·obtain⟨_,o,ho,_⟩:=I.ok.funs.mem hb
  exact I.base.free b o ho (I.ok.frf b hb) fun z=>I.ok.exfs b z hb
theorem Inv.step{g':Array GenState}{t':Nat}{d':Drawn}{ch:List Addr}(I:Inv X pins σ H s)
  (hch:∀ b∈ch,(b∈X.ex∨X.s₀.heap.objs.size≤b)∧b≠X.env.locals∧(∀ x c,X.env.cells.lookup x=some c→c≠b)∧∀ p∈X.pn++pins,p.1≠b)
  (keep:∀ b o,b≠X.env.locals→b∉X.fs→b∉ch→s.heap.get? b=some o→H b=none→h'.get? b=some o)
  (slot:∀ b o,b≠X.env.locals→b∈X.fs→b∉ch→s.heap.get? b=some o→H b=none→∃ sl,h'.get? b=some { o with slots:=sl }) (free:∀ b o,b∉ch→s.heap.get? b=some o→H b=none→H' b=none)
  (there:∀ b o,b∉ch→s.heap.get? b=some o→∃ o',h'.get? b=some o')
  (tups:∀ b xs,H b=some (.tup xs)→H' b=some (.tup xs)) (frzs:∀ b o u,H b=some (.frz o u)→H' b=some (.frz o u)) (tbls:∀ b ps,H b=some (.tbl ps)→∃ more,H' b=some (.tbl (ps++more)))
  (ns:∀ m,s.heap.Ns X.env.locals m→h'.Ns X.env.locals m) (hok:HOk X.prog X.w H' h') (hg:AllBare g') :
  Inv X pins σ H' { s with heap:=h',gens:=g',drawn:=d',toks:=t' }:=by
 have neL:∀ b o,X.s₀.heap.get? b=some o→b≠X.env.locals:=fun b o e=>c7h (c6A (c6I e) I.ok.above)
 have neC:∀ b o,X.s₀.heap.get? b=some o→b∉X.ex→b∉ch:=fun b o e hx hb=>by
  rcases(hch b hb).1 with z|z
  ·exact hx z
  ·exact absurd (c6A (c6I e) z) (c7R _)
 have cellK:∀ x c,X.env.cells.lookup x=some c→∀ v,s.heap.IsCell c v→h'.IsCell c v:=fun x c e v zz=>by
  obtain⟨o,ho,hd⟩:=zz
  have nch:c∉ch:=fun z=>(hch c z).2.2.1 x c e rfl
  by_cases hc:c∈X.fs
  ·obtain⟨sl,q⟩:=slot c o (I.cne x c e) hc nch ho (I.freeC x c e)
   exact⟨_,q,hd⟩
  ·exact⟨o,keep c o (I.cne x c e) hc nch ho (I.freeC x c e),hd⟩
 refine⟨I.ok,I.os,hg,⟨fun b o e n hb hx=>?_,fun b o e n hb hx=>?_,fun b o e n hx=>?_,fun b o e hx=>?_,fun b xs e=>tups b xs (I.base.tups b xs e),fun b o xs e=>frzs b o xs (I.base.frzs b o xs e),fun b ps e=>?_⟩,?_,fun x c e=>?_,?_,fun x c e=>?_,fun p hp=>?_,hok,I.len⟩
 ·exact keep b o (neL b o e) hb (neC b o e hx) (I.base.keep b o e n hb hx) (I.base.free b o e n hx)
 ·obtain⟨sl,e1⟩:=I.base.slot b o e n hb hx
  obtain⟨sl',e2⟩:=slot b _ (neL b o e) hb (neC b o e hx) e1 (I.base.free b o e n hx)
  exact⟨sl',e2⟩
 ·obtain⟨o',e1⟩:=I.base.there b o e hx
  exact free b o' (neC b o e hx) e1 (I.base.free b o e n hx)
 ·obtain⟨o',e1⟩:=I.base.there b o e hx
  exact there b o' (neC b o e hx) e1
 ·obtain⟨m1,e1⟩:=I.base.tbls b ps e
  obtain⟨m2,e2⟩:=tbls b _ e1
  exact⟨m1++m2,by rw[e2,Array.append_assoc]⟩
 ·obtain⟨m,hn,hl⟩:=I.loc
  refine⟨m,ns m hn,fun i x v e1 e2 e3=>?_⟩
  obtain⟨u,r,l⟩:=hl i x v e1 e2 e3
  refine⟨u,r,?_⟩
  rcases l with l|⟨k,c,e,z⟩
  ·exact .inl l
  ·exact .inr ⟨k,c,e,cellK x c e _ z⟩
 ·obtain⟨v,z⟩:=I.cell x c e
  exact⟨v,cellK x c e v z⟩
 ·obtain⟨m,⟨o,_,_,ho,_⟩,_⟩:=I.loc
  exact free _ o (fun z=>(hch _ z).2.1 rfl) ho I.free
 ·obtain⟨v,o,ho,hd⟩:=I.cell x c e
  exact free c o (fun z=>(hch c z).2.2.1 x c e rfl) ho (I.freeC x c e)
 ·obtain⟨e,n,ne,nf,d⟩:=I.pin p hp
  have nch:p.1∉ch:=fun z=>(hch p.1 z).2.2.2 p hp rfl
  exact⟨keep p.1 p.2 ne nf nch e n,free p.1 p.2 nch e n,ne,nf,d⟩
theorem Inv.un{t':Nat}(I:Inv X pins σ H s)(u:Un X.fs [] H H' s.heap h')(hok:HOk X.prog X.w H' h'):Inv X pins σ H' { s with heap:=h',toks:=t' }:=by
 obtain⟨m,⟨o,es,ep,ho,r⟩,_⟩:=id I.loc
 obtain⟨sl,hL⟩:=u.any ho I.free (by simp)
 exact I.step (g':=s.gens) (d':=s.drawn) (ch:=[]) (fun _ z=>nomatch z) (fun b o _ hb _ e n=>u.keep b o e n hb (by simp)) (fun b o _ hb _ e n=>u.slot b o e n hb (by simp)) (fun b o _ e n=>u.free b o e n (by simp)) (fun b o _ e=>u.there b o e (by simp)) u.tups u.frzs u.tbls (fun m' hm=>by
  obtain⟨o',es',ep',ho',r'⟩:=hm
  rw[ho]at ho';cases ho'
  exact⟨_,es',ep',hL,r'⟩) hok I.bare
theorem Inv.call{g':Array GenState}{t':Nat}{d':Drawn}{ch:List Addr}(I:Inv X pins σ H s)(u:Un (frs X.stack) ch H H' s.heap h')(hok:HOk X.prog X.w H' h')(hg:AllBare g')
  (hch:∀ b∈ch,(b∈X.ex∨X.s₀.heap.objs.size≤b)∧b≠X.env.locals∧(∀ x c,X.env.cells.lookup x=some c→c≠b)∧∀ p∈X.pn++pins,p.1≠b) :
  Inv X pins σ H' { s with heap:=h',gens:=g',drawn:=d',toks:=t' }:=by
 obtain⟨m,⟨o,es,ep,ho,r⟩,_⟩:=id I.loc
 obtain⟨sl,hL⟩:=u.any ho I.free fun z=>(hch _ z).2.1 rfl
 exact I.step (ch:=ch) hch (fun b o hL hb hc e n=>u.keep b o e n (fun z=>(c6M.mp (I.stkSub b z)).elim hL hb) hc) (fun b o _ _ hc e n=>u.any e n hc) (fun b o hc e n=>u.free b o e n hc) (fun b o hc e=>u.there b o e hc) u.tups u.frzs u.tbls (fun m' hm=>by
  obtain⟨o',es',ep',ho',r'⟩:=hm
  rw[ho]at ho';cases ho'
  exact⟨_,es',ep',hL,r'⟩) hok hg
theorem Inv.turned{t':Nat}{it:Addr}(I:Inv X pins σ H s)(k:∀ b o,b≠it→s.heap.get? b=some o→h'.get? b=some o)(hn:H it=none)(hL:it≠X.env.locals)
  (h1:it∈X.ex∨X.s₀.heap.objs.size≤it) (h2:∀ x c,X.env.cells.lookup x=some c→c≠it) (h3:∀ p∈X.pn++pins,p.1≠it):Inv X pins σ H { s with heap:=h',toks:=t' }:=by
 have nit:∀ b u,H b=some u→b≠it:=fun b u e z=>by rw[z,hn]at e;cases e
 refine I.step (g':=s.gens) (d':=s.drawn) (ch:=[it]) (fun b hb=>?_) (fun b o _ _ hc e _=>k b o (fun z=>hc (by simp[z])) e) (fun b o _ _ hc e _=>⟨o.slots,k b o (fun z=>hc (by simp[z])) e⟩) (fun _ _ _ _ n=>n)
  (fun b o hc e=>⟨o,k b o (fun z=>hc (by simp[z])) e⟩) (fun _ _ e=>e) (fun _ _ _ e=>e) (fun b ps e=>⟨#[],by rw[e];simp⟩) (fun m hm=>?_) (fun b u e=>?_) I.bare
 ·have e:b=it:=by simpa using hb
  subst e
  exact⟨h1,hL,h2,h3⟩
 ·obtain⟨o,es,ep,ho,r⟩:=hm
  exact⟨o,es,ep,k _ o (Ne.symm hL) ho,r⟩
 ·refine(I.hok b u e).stay (fun c v hc q=>k c v ?_ q) (fun _ q=>q) fun _ _ q=>q
  rcases hc with z|z
  ·rw[z];exact nit b u e
  ·exact nit c _ z
theorem Inv.tok(I:Inv X pins σ H s)(t:Nat):Inv X pins σ H { s with toks:=t }:=I.un (h':=s.heap) (t':=t) Un.refl I.hok
theorem Inv.kept{t':Nat}(I:Inv X pins σ H s)(k:∀ b u,s.heap.get? b=some u→h'.get? b=some u):Inv X pins σ H { s with heap:=h',toks:=t' }:=I.un (Un.kept k) (I.hok.kept k)
theorem Inv.laid{a:Addr}{o:HO}{t':Nat}(I:Inv X pins σ H s)(k:∀ b u,s.heap.get? b=some u→h'.get? b=some u)(hp:s.heap.objs.size≤a)(new:D4 X.prog X.w (upd H a o) h' a o) :
  Inv X pins σ (upd H a o) { s with heap:=h',toks:=t' }:=I.un (Un.laid k hp (I.hok.fresh hp)) (I.hok.laid k hp new)
theorem Inv.write{x e:Addr}{o:HO}{t':Nat}(I:Inv X pins σ H s)(mu:Mut (H x))(he:e=x∨H e=some (.own x))(k:∀ b u,b≠e→s.heap.get? b=some u→h'.get? b=some u)(heo:∃ u,h'.get? e=some u)
  (new:D4 X.prog X.w (upd H x o) h' x o):Inv X pins σ (upd H x o) { s with heap:=h',toks:=t' }:=I.un (Un.write mu he k heo) (I.hok.write mu he k heo new)
theorem Inv.pins_of{pins':List (Addr × Obj)}(I:Inv X pins σ H s)(h:∀ p∈pins',s.heap.get? p.1=some p.2∧H p.1=none∧p.1≠X.env.locals∧p.1∉X.fs∧∀ v,p.2.data ≠ .cell v):Inv X pins' σ H s :=
 ⟨I.ok,I.os,I.bare,I.base,I.loc,I.cell,I.free,I.freeC,fun p hp=>(c6R.mp hp).elim (fun z=>I.pin p (c9f _ z)) (h p),I.hok,I.len⟩
theorem a8m{N:List Str}(hN:N.Nodup){i j:Nat}{x:Str}(a:N[i]? = some x)(b:N[j]? = some x):i=j:=by
 obtain⟨h1,e1⟩:=c6F.mp a
 obtain⟨h2,e2⟩:=c6F.mp b
 exact(List.getElem_inj hN).mp (e1.trans e2.symm)
theorem a5v{M:Model}{A:Around}{E:Value→Shared→Prop}{i:Nat}{x:Str}{v:V}{u:Value}{Q:Unit→Shared→Prop}(I:Inv X pins σ H s)(hN:X.N.Nodup)(hi:X.N[i]? = some x)(hx:Loc X.env.scope x)(r:u0 v u)
  (h:∀ s',Inv X pins (σ.set i (some v)) H s'→(∃ a,Heap.SameBut a s.heap s'.heap∧(a=X.env.locals∨X.env.cells.lookup x=some a))→Q () s') (hf:X.fn x=true∨X.env.scope.names.lookup x=some .local:=by first|exact .inl rfl|exact .inr rfl|assumption):wpAny M A (storeName X.env x u) Q E s:=by
 obtain⟨m,hn,hl⟩:=id I.loc
 have hcls:(X.env.scope.kind == .class || (X.env.scope.kind == .module && X.env.locals != X.env.globals))=false:=by rw[I.ok.kind];rfl
 have hiσ:i<σ.length:=by rw[I.len];exact(c6F.mp hi).1
 have cne:=I.cne
 have tracked:∀{a:Addr} {h':Heap},(∃ o,s.heap.get? a=some o∧H a=none)→Heap.SameBut a s.heap h'→HOk X.prog X.w H h':=fun{a h'} ha hs b ob e=>by
  obtain⟨_,_,hfree⟩:=ha
  refine(I.hok b ob e).stay (fun c w' hc q=>(hs.2 c ?_).trans q) (fun _ q=>q) fun _ _ q=>q
  rintro rfl
  rcases hc with rfl|hc
  ·rw[hfree]at e;cases e
  ·rw[hfree]at hc;cases hc
 rcases hx with hk|hk
 ·refine wpAny_storeName_local hk hn (fun h' hn' hs=>?_) hcls
  obtain⟨oL,_,_,hoL,_⟩:=id hn
  refine h _ ⟨I.ok,I.os,I.bare,⟨fun b o e n hb hx=>?_,fun b o e n hb hx=>?_,I.base.free,fun b o e hx=>?_,I.base.tups,I.base.frzs,I.base.tbls⟩,⟨_,hn',fun j y v' e1 e2 e3=>?_⟩,fun y c e=>?_,I.free,I.freeC,fun p hp=>?_,tracked ⟨oL,hoL,I.free⟩ hs,by simpa using I.len⟩ ⟨_,hs,.inl rfl⟩
  ·exact(hs.2 b (c7h (c6A (c6I e) I.ok.above))).trans (I.base.keep b o e n hb hx)
  ·obtain⟨sl,e1⟩:=I.base.slot b o e n hb hx
   exact⟨sl,(hs.2 b (c7h (c6A (c6I e) I.ok.above))).trans e1⟩
  ·obtain⟨o',e1⟩:=I.base.there b o e hx
   exact⟨o',(hs.2 b (c7h (c6A (c6I e) I.ok.above))).trans e1⟩
  ·by_cases hj:j=i
   ·subst hj
    rw[hi]at e1;cases e1
    rw[c86 hiσ]at e2
    cases e2
    exact⟨u,r,.inl ⟨hk,by simp⟩⟩
   ·rw[c9g (Ne.symm hj)]at e2
    obtain⟨u',r',q⟩:=hl j y v' e1 e2 e3
    refine⟨u',r',?_⟩
    rcases q with⟨k,e⟩|⟨k,c,e,z⟩
    ·refine .inl ⟨k,?_⟩
     have:y≠x:=fun e=>hj (a8m hN e1 (e▸hi))
     simp[this,e]
    ·exact .inr ⟨k,c,e,z.sameBut hs (cne y c e)⟩
  ·obtain⟨w',z⟩:=I.cell y c e
   exact⟨w',z.sameBut hs (cne y c e)⟩
  ·obtain⟨e,n,ne,nf,d⟩:=I.pin p hp
   exact⟨(hs.2 p.1 ne).trans e,n,ne,nf,d⟩
 ·have hfn:X.fn x=true:=by
   rcases hf with z|z
   ·exact z
   ·rw[z]at hk;cases hk
  obtain⟨c,hc⟩:=I.ok.has x (.inl hk)
  obtain⟨w',z⟩:=I.cell x c hc
  refine wpAny_storeName_cell I.ok.kind hk hc z (fun h' hc' hs=>?_)
  obtain⟨oc,hoc,hocd⟩:=id z
  refine h { s with heap:=h' } ⟨I.ok,I.os,I.bare,⟨fun b o e n hb hx=>?_,fun b o e n hb hx=>?_,I.base.free,fun b o e hx=>?_,I.base.tups,I.base.frzs,I.base.tbls⟩,⟨m,hn.sameBut hs (Ne.symm (cne x c hc)),fun j y v' e1 e2 e3=>?_⟩,fun y c' e=>?_,I.free,I.freeC,fun p hp=>?_,tracked ⟨oc,hoc,I.freeC x c hc⟩ hs,by simpa using I.len⟩ ⟨c,hs,.inr hc⟩
  ·exact(hs.2 b (c7h (c6A (c6I e) (I.ok.cab x c hfn hc)))).trans (I.base.keep b o e n hb hx)
  ·obtain⟨sl,e1⟩:=I.base.slot b o e n hb hx
   exact⟨sl,(hs.2 b (c7h (c6A (c6I e) (I.ok.cab x c hfn hc)))).trans e1⟩
  ·obtain⟨o',e1⟩:=I.base.there b o e hx
   exact⟨o',(hs.2 b (c7h (c6A (c6I e) (I.ok.cab x c hfn hc)))).trans e1⟩
  ·by_cases hj:j=i
   ·subst hj
    rw[hi]at e1;cases e1
    rw[c86 hiσ]at e2
    cases e2
    exact⟨u,r,.inr ⟨.inl hk,c,hc,hc'⟩⟩
   ·rw[c9g (Ne.symm hj)]at e2
    obtain⟨u',r',q⟩:=hl j y v' e1 e2 e3
    refine⟨u',r',?_⟩
    rcases q with q|⟨k,c',e,z'⟩
    ·exact .inl q
    ·refine .inr ⟨k,c',e,z'.sameBut hs ?_⟩
     rintro rfl
     exact hj (a8m hN e1 (I.ok.inj _ _ _ e hc▸hi))
  ·by_cases hcc:c'=c
   ·subst hcc;exact⟨_,hc'⟩
   ·obtain⟨w2,z2⟩:=I.cell y c' e
    exact⟨w2,z2.sameBut hs hcc⟩
  ·obtain⟨e,n,ne,nf,d⟩:=I.pin p hp
   refine⟨(hs.2 p.1 ?_).trans e,n,ne,nf,d⟩
   intro q
   rw[q,hoc]at e
   have q':oc=p.2:=Option.some.inj e
   exact d w' (by rw[← q'];exact hocd)
theorem a0Y{M:Model}{A:Around}{E:Value→Shared→Prop}{i:Nat}{x:Str}{v:V}{u:Value}{Q:Unit→Shared→Prop}(I:Inv X pins σ H s)(hN:X.N.Nodup)(hi:X.N[i]? = some x)(hx:Loc X.env.scope x)(r:u0 v u)
  (h:∀ s',Inv X pins (σ.set i (some v)) H s'→Q () s') (hf:X.fn x=true∨X.env.scope.names.lookup x=some .local:=by first|exact .inl rfl|exact .inr rfl|assumption):wpAny M A (storeName X.env x u) Q E s :=
 a5v I hN hi hx r (fun s' I' _=>h s' I') hf
theorem Inv.call'{s':Shared}{ch:List Addr}(I:Inv X pins σ H s)(ho:s'.os=s.os)(u:Un (frs X.stack) ch H H' s.heap s'.heap)(hok:HOk X.prog X.w H' s'.heap)(hg:AllBare s'.gens)
  (hch:∀ b∈ch,(b∈X.ex∨X.s₀.heap.objs.size≤b)∧b≠X.env.locals∧(∀ x c,X.env.cells.lookup x=some c→c≠b)∧∀ p∈X.pn++pins,p.1≠b):Inv X pins σ H' s':=by
 obtain⟨h',g',d',t',o'⟩:=s'
 have e:o'=s.os:=ho
 subst e
 exact I.call (g':=g') (t':=t') (d':=d') u hok hg hch
end
noncomputable abbrev XK:=Value→Option Addr→Hp→Prop
noncomputable abbrev St:=List (Option V)
noncomputable abbrev VK:=V→Hp→Prop
noncomputable abbrev TE:=St→Hp→VK→Prop
noncomputable abbrev TT:=St→Hp→(Bool→Hp→Prop)→Prop
noncomputable abbrev TA:=St→Hp→(List V→Hp→Prop)→Prop
structure a8T where
 nx:St→Hp→Prop
 rt:VK
 bk:St→Hp→Prop:=fun _ _=>False
 ct:St→Hp→Prop:=fun _ _=>False
noncomputable abbrev TS:=a8T→St→Hp→Prop
noncomputable def EP(X:Cx)(pins:List (Addr × Obj))(σ:St)(Q:VK)(u:Value)(s':Shared):Prop:=∃ v H',Inv X pins σ H' s'∧u0 v u∧Q v H'
noncomputable def TP(X:Cx)(pins:List (Addr × Obj))(σ:St)(Q:Bool→Hp→Prop)(b:Bool)(s':Shared):Prop:=∃ H',Inv X pins σ H' s'∧Q b H'
noncomputable def AP(X:Cx)(pins:List (Addr × Obj))(σ:St)(Q:List V→Hp→Prop)(us:List Value)(s':Shared):Prop:=∃ vs H',Inv X pins σ H' s'∧o8 vs us∧Q vs H'
noncomputable def SP(X:Cx)(pins:List (Addr × Obj))(D:a8T)(f:Flow)(s':Shared):Prop :=
 match f with
 | .next=>∃ σ' H',Inv X pins σ' H' s'∧D.nx σ' H'
 | .brk=>∃ σ' H',Inv X pins σ' H' s'∧D.bk σ' H'
 | .cont=>∃ σ' H',Inv X pins σ' H' s'∧D.ct σ' H'
 | .ret u=>∃ v σ' H',Inv X pins σ' H' s'∧u0 v u∧D.rt v H'
noncomputable def PE(X:Cx)(e:Expr)(t:TE):Prop :=
 ∀(pins:List (Addr × Obj)) (s:Shared) (σ:St) (H:Hp) (Q:VK),Inv X pins σ H s→t σ H Q→wpAny (model X.prog X.w) X.A (eval e X.env) (EP X pins σ Q) X.xe s
noncomputable def PT(X:Cx)(e:Expr)(t:TT):Prop :=
 ∀(pins:List (Addr × Obj)) (s:Shared) (σ:St) (H:Hp) (Q:Bool→Hp→Prop),Inv X pins σ H s→t σ H Q→wpAny (model X.prog X.w) X.A (isTrue e X.env (eval e X.env)) (TP X pins σ Q) X.xe s
noncomputable def PW(X:Cx)(e:Expr)(t:TT):Prop :=
 ∀(whole:Sem Value) (pins:List (Addr × Obj)) (s:Shared) (σ:St) (H:Hp) (Q:Bool→Hp→Prop),Inv X pins σ H s→t σ H Q→wpAny (model X.prog X.w) X.A (isTrue e X.env whole) (TP X pins σ Q) X.xe s
theorem PW.pt{X:Cx}{e:Expr}{t:TT}(h:PW X e t):PT X e t:=h _
noncomputable def PA(X:Cx)(es:List Expr)(t:TA):Prop :=
 ∀(pos:Pos) (pins:List (Addr × Obj)) (s:Shared) (σ:St) (H:Hp) (Q:List V→Hp→Prop),Inv X pins σ H s→t σ H Q→wpAny (model X.prog X.w) X.A (spliced (backTo pos (starEach es X.env))) (AP X pins σ Q) X.xe s
noncomputable def PS(X:Cx)(st:Stmt)(t:TS):Prop :=
 ∀(pins:List (Addr × Obj)) (s:Shared) (σ:St) (H:Hp) (D:a8T),Inv X pins σ H s→t D σ H→wpAny (model X.prog X.w) X.A (exec st X.env) (SP X pins D) X.xe s
noncomputable def PSs(X:Cx)(st:List Stmt)(t:TS):Prop :=
 ∀(pins:List (Addr × Obj)) (s:Shared) (σ:St) (H:Hp) (D:a8T),Inv X pins σ H s→t D σ H→wpAny (model X.prog X.w) X.A (execs st X.env) (SP X pins D) X.xe s
theorem thn{α:Type}{t:Sem α}{Q Q':α→Shared→Prop}{M:Model}{A:Around}{E:Value→Shared→Prop}{s:Shared}(h:wpAny M A t Q E s)(hQ:∀ a s,Q a s→Q' a s):wpAny M A t Q' E s:=wpAny_mono h hQ fun _ _ x=>x
end L2
namespace L2
open PySem PySem.Spec PyProof.Rows
section
variable {X:Cx}
noncomputable def c2J(i:Nat):TE:=fun σ H Q=>∃ v,σ[i]? = some (some v)∧Q v H
noncomputable def tC(v:V):TE:=fun _ H Q=>Q v H
theorem b9N{i:Nat}{x:Str}{pos:Pos}(hN:X.N[i]? = some x)(hv:Vis X.env.scope x)(hd:(x == ("__debug__" : Str))=false:=by decide)(hcd:(x == ("__classdict__" : Str))=false:=by decide):PE X (.Name x pos) (c2J i):=by
 intro pins s σ H Q I h
 obtain⟨v,e,h⟩:=h
 obtain⟨m,hn,hl⟩:=I.loc
 obtain⟨u,r,l⟩:=hl i x v hN e hv
 have fin:EP X pins σ Q u s:=⟨v,H,I,r,h⟩
 rcases l with⟨hk,hm⟩|⟨hk,c,hc,hcell⟩
 ·exact wpAny_Name (wpAny_loadName_local I.ok.kind hk hn hm fin) hd
 ·rcases hk with hk|hk
  ·exact wpAny_Name (wpAny_loadName_cell I.ok.kind hk hc hcell fin) hd
  ·exact wpAny_Name (wpAny_loadName_free I.ok.kind hk hc hcell fin hcd) hd
theorem b9T{i j pos}:PE X (.Constant (.int i) j pos) (tC (.int i)):=fun _ _ _ H _ I h=>wpAny_Constant_int ⟨.int i,H,I.tok _,⟨_,rfl⟩,h⟩
theorem c1D{b j pos}:PE X (.Constant (.bool b) j pos) (tC (.bl b)):=fun _ _ _ H _ I h=>Constant_bool ⟨.bl b,H,I,rfl,h⟩
theorem b9S{j pos}:PE X (.Constant .none j pos) (tC .non):=fun _ _ _ H _ I h=>Constant_none ⟨.non,H,I,rfl,h⟩
theorem b9P{x j pos}:PE X (.Constant (.str x) j pos) (tC (.str x)):=fun _ _ _ H _ I h=>Calls.Constant_str ⟨.str x,H,I.tok _,⟨_,rfl⟩,h⟩
noncomputable def Gl(X:Cx)(x:Str):Prop:=X.env.kindOf x=some .globalImplicit
theorem b02{E:Value→Shared→Prop}{pins:List (Addr × Obj)}{s:Shared}{σ:St}{H:Hp}{x:Str}{u:Value}{pos:Pos}{Q:Value→Shared→Prop}(I:Inv X pins σ H s)(hg:Gl X x)(hm:X.mg x=some u)(h:Q u s)
  (hd:(x == ("__debug__" : Str))=false:=by decide):wpAny (model X.prog X.w) X.A (eval (.Name x pos) X.env) Q E s :=
 Calls.Name_function_global I.ok.kind hg (Calls.loadGlobal_global (by rw[I.ok.glob];exact I.mod.glob.keeps I.bk) hm h) hd
theorem S6{E:Value→Shared→Prop}{pins:List (Addr × Obj)}{s:Shared}{σ:St}{H:Hp}{x:Str}{u:Value}{pos:Pos}{Q:Value→Shared→Prop}(I:Inv X pins σ H s)(hg:Gl X x)(hm:X.mg x=none)(hv:bootBuiltins x=some u)(h:Q u s)
  (hn:x ≠ "__name__" := by decide) (hd:(x == ("__debug__" : Str))=false:=by decide):wpAny (model X.prog X.w) X.A (eval (.Name x pos) X.env) Q E s:=by
 obtain⟨mb,h1,h2⟩:=I.mod.blt
 exact Calls.Name_function_global I.ok.kind hg (Calls.loadGlobal_builtin (by rw[I.ok.glob];exact I.mod.glob.keeps I.bk) hm (by rw[I.ok.blt];exact h1.keeps I.bk) ((h2 x hn).trans hv) h) hd
theorem b6Q{x:Str}{v:V}{u:Value}{pos:Pos}(hg:Gl X x)(hm:X.mg x=some u)(r:u0 v u)(hd:(x == ("__debug__" : Str))=false:=by decide):PE X (.Name x pos) (tC v) :=
 fun _ _ _ H _ I h=>b02 I hg hm ⟨v,H,I,r,h⟩ hd
theorem b6U{x:Str}{v:V}{u:Value}{pos:Pos}(hg:Gl X x)(hm:X.mg x=none)(hv:bootBuiltins x=some u)(r:u0 v u)(hn:x ≠ "__name__" := by decide)(hd:(x == ("__debug__" : Str))=false:=by decide):PE X (.Name x pos) (tC v) :=
 fun _ _ _ H _ I h=>S6 I hg hm hv ⟨v,H,I,r,h⟩ hn hd
variable {a b:Expr} {ta tb:TE} {pos:Pos}
theorem u0.none_iff{x:V}{v:Value}(r:u0 x v):(v == Value.none)=decide (x = .non):=by
 cases x with
 | non=>cases r;rfl
 | bl _=>cases r;rfl
 | int _=>obtain⟨t,rfl⟩:=r;rfl
 | str _=>obtain⟨t,rfl⟩:=r;rfl
 | byt _=>obtain⟨t,rfl⟩:=r;rfl
 | flt _=>obtain⟨t,rfl⟩:=r;rfl
 | ref _=>cases r;rfl
 | ty _=>cases r;rfl
noncomputable def tB(t:TE):TT:=fun σ H Q=>t σ H fun x H1=>∃ c,x = .bl c∧Q c H1
theorem b9B{e:Expr}{t:TE}(h:PE X e t)(he:∀ whole,isTrue e X.env whole=(do let v ← whole;standAt e.pos;holding [v] (truthy v)):=by intro _;rfl):PT X e (tB t):=by
 intro pins s σ H Q I hw
 refine isTrue_plain (thn (h pins s σ H _ I hw) fun v s1 ⟨x,H1,I1,r1,q1⟩=>?_) (he _)
 obtain⟨d,rfl,q⟩:=q1
 cases r1
 exact wpAny_truthy_bool ⟨H1,I1,q⟩
variable {tA tB':TT} {J4:List Expr}
noncomputable def c2U(t u:TT):TT:=fun σ H Q=>t σ H fun c H1=>if c=true then u σ H1 Q else Q false H1
noncomputable def tOr(t u:TT):TT:=fun σ H Q=>t σ H fun c H1=>if c=true then Q true H1 else u σ H1 Q
noncomputable def c2O(t:TT):TT:=fun σ H Q=>t σ H fun c H1=>Q (!c) H1
theorem b6E(ha:PT X a tA):PW X (.BoolOp .And [a] pos) tA:=by
 intro wh pins s σ H Q I h
 refine isTrue_and (thn (ha pins s σ H Q I h) fun c s1 e=>?_)
 cases c with
 | true=>exact isTrue_and_nil e
 | false=>exact e
theorem b9y(ha:PT X a tA):PW X (.BoolOp .Or [a] pos) tA:=by
 intro wh pins s σ H Q I h
 refine isTrue_or (thn (ha pins s σ H Q I h) fun c s1 e=>?_)
 cases c with
 | false=>exact isTrue_or_nil e
 | true=>exact e
theorem b9z(ha:PT X a tA)(hb:PW X (.BoolOp .And (b :: J4) pos) tB'):PW X (.BoolOp .And (a :: b :: J4) pos) (c2U tA tB'):=by
 intro wh pins s σ H Q I h
 refine isTrue_and (thn (ha pins s σ H _ I h) fun c s1 zz=>?_)
 obtain⟨H1,I1,q1⟩:=zz
 cases c with
 | true=>exact hb wh pins s1 σ H1 Q I1 q1
 | false=>exact⟨H1,I1,q1⟩
theorem c1y(ha:PT X a tA)(hb:PW X (.BoolOp .Or (b :: J4) pos) tB'):PW X (.BoolOp .Or (a :: b :: J4) pos) (tOr tA tB'):=by
 intro wh pins s σ H Q I h
 refine isTrue_or (thn (ha pins s σ H _ I h) fun c s1 zz=>?_)
 obtain⟨H1,I1,q1⟩:=zz
 cases c with
 | true=>exact⟨H1,I1,q1⟩
 | false=>exact hb wh pins s1 σ H1 Q I1 q1
theorem b9C(ha:PT X a tA):PT X (.UnaryOp .Not a pos) (c2O tA):=by
 intro pins s σ H Q I h
 exact isTrue_not (ha pins s σ H (fun c H1=>Q (!c) H1) I h)
noncomputable def c1r(ta tb:TE):TE:=fun σ H Q=>ta σ H fun x H1=>∃ c,x = .bl c∧if c=true then tb σ H1 Q else Q (.bl false) H1
noncomputable def c1k(ta:TE):TE:=fun σ H Q=>ta σ H fun x H1=>∃ c,x = .bl c∧Q (.bl (!c)) H1
theorem b9Q{op}{t:TE}(h:PE X a t):PE X (.BoolOp op [a] pos) t:=fun pins s σ H Q I hw=>BoolOp_one (h pins s σ H Q I hw)
theorem b9V(ha:PE X a ta)(hb:PE X (.BoolOp .And (b :: J4) pos) tb):PE X (.BoolOp .And (a :: b :: J4) pos) (c1r ta tb):=by
 intro pins s σ H Q I h
 refine BoolOp_and (thn (ha pins s σ H _ I h) fun v s1 zz=>?_)
 obtain⟨x,H1,I1,r1,q1⟩:=zz
 obtain⟨c,rfl,q1⟩:=q1
 cases r1
 refine wpAny_truthy_bool ?_
 cases c with
 | true=>exact hb pins s1 σ H1 Q I1 q1
 | false=>exact⟨.bl false,H1,I1,rfl,q1⟩
theorem b9R(ha:PE X a ta):PE X (.UnaryOp .Not a pos) (c1k ta):=by
 intro pins s σ H Q I h
 refine UnaryOp_ (thn (ha pins s σ H _ I h) fun v s1 zz=>?_)
 obtain⟨x,H1,I1,r1,q1⟩:=zz
 obtain⟨c,rfl,q1⟩:=q1
 cases r1
 exact not_of (wpAny_truthy_bool ⟨.bl (!c),H1,I1,rfl,q1⟩)
noncomputable def tIf(t:TT)(ta tb:TE):TE:=fun σ H Q=>t σ H fun c H1=>if c=true then ta σ H1 Q else tb σ H1 Q
theorem b3S{c:Expr}(hc:PT X c tA)(ha:PE X a ta)(hb:PE X b tb):PE X (.IfExp c a b pos) (tIf tA ta tb):=by
 intro pins s σ H Q I h
 refine wpAny_IfExp (thn (hc pins s σ H _ I h) fun d s1 zz=>?_)
 obtain⟨H1,I1,q1⟩:=zz
 cases d with
 | true=>exact ha pins s1 σ H1 Q I1 q1
 | false=>exact hb pins s1 σ H1 Q I1 q1
end
end L2
namespace L2
open PySem PySem.Spec PyProof.Rows
noncomputable def SqL(K:c6v)(H:Hp)(a:Addr)(xs:List V):Prop :=
 Rd H a (.lst xs) ∨
  ∃(o:Obj) (its:Array Value) (n:Nat),K.lookup a=some o∧o.cls = .type "list" ∧ o.dict=none∧o.data = .seq its n∧its.size≤sizeLine∧o8 xs its.toList
noncomputable def SqT(K:c6v)(H:Hp)(a:Addr)(xs:List V):Prop :=
 Rd H a (.tup xs) ∨
  ∃(o:Obj) (its:Array Value) (n:Nat),K.lookup a=some o∧o.cls = .type "tuple" ∧ o.data = .seq its n∧its.size≤sizeLine∧o8 xs its.toList
noncomputable def c3s:Value→Option V
 | .none=>some .non
 | .bool b=>some (.bl b)
 | .int i _=>some (.int i)
 | .str x _=>some (.str x)
 | .bytes b _=>some (.byt b)
 | .float b _=>some (.flt b)
 | .ref a=>some (.ref a)
 | .type n=>some (.ty n)
 | _=>none
theorem u0.abs{x:V}{u:Value}(r:u0 x u):c3s u=some x:=by
 cases x with
 | non=>cases r;rfl
 | bl _=>cases r;rfl
 | int _=>obtain⟨t,rfl⟩:=r;rfl
 | str _=>obtain⟨t,rfl⟩:=r;rfl
 | byt _=>obtain⟨t,rfl⟩:=r;rfl
 | flt _=>obtain⟨t,rfl⟩:=r;rfl
 | ref _=>cases r;rfl
 | ty _=>cases r;rfl
theorem u0.inj{x y:V}{u:Value}(r:u0 x u)(q:u0 y u):x=y:=Option.some.inj (r.abs.symm.trans q.abs)
theorem o8.inj:∀{xs ys:List V} {us:List Value},o8 xs us→o8 ys us→xs=ys
 | _,_,_,.nil,.nil=>rfl
 | _,_,_,.cons r t,.cons r' t'=>by rw[r.inj r',o8.inj t t']
section
variable {X:Cx} {pins:List (Addr × Obj)} {σ:St} {H:Hp} {s:Shared} {a:Addr} {xs ys:List V}
theorem SqL.of{K:c6v}(h:H a=some (.lst xs)):SqL K H a xs:=.inl (.inl h)
theorem SqT.of{K:c6v}(h:H a=some (.tup xs)):SqT K H a xs:=.inl (.inl h)
theorem Inv.list(I:Inv X pins σ H s)(h:SqL X.K H a xs):∃ its:List Value,o8 xs its∧PlainL s.heap a its.toArray∧xs.length≤sizeLine:=by
 rcases h with h|⟨o,its,n,hk,hc,hd,hs,hz,r⟩
 ·obtain⟨z,its,n,r,e⟩:=h.ok I.hok
  exact⟨its,r,⟨_,n,e,rfl,rfl,rfl⟩,z⟩
 ·refine⟨its.toList,r,⟨o,n,I.kIn a o hk,hc,hd,by simpa using hs⟩,?_⟩
  have e:=r.length
  simp only[Array.length_toList]at e
  omega
theorem Inv.tuple(I:Inv X pins σ H s)(h:SqT X.K H a xs):∃ its:List Value,o8 xs its∧IsTup s.heap a its.toArray∧xs.length≤sizeLine:=by
 rcases h with h|⟨o,its,n,hk,hc,hs,hz,r⟩
 ·obtain⟨z,its,r,p⟩:=h.ok I.hok
  exact⟨its,r,p,z⟩
 ·refine⟨its.toList,r,⟨o,I.kIn a o hk,hc,n,by simpa using hs⟩,?_⟩
  have e:=r.length
  simp only[Array.length_toList]at e
  omega
theorem Inv.list_inj(I:Inv X pins σ H s)(h:SqL X.K H a xs)(h':SqL X.K H a ys):xs=ys:=by
 obtain⟨its,r,⟨o,n,e,_,_,d⟩,_⟩:=I.list h
 obtain⟨its',r',⟨o',n',e',_,_,d'⟩,_⟩:=I.list h'
 rw[e]at e';cases e'
 rw[d]at d'
 injection d' with d1 _
 have:its=its':=by simpa using congrArg Array.toList d1
 subst this
 exact r.inj r'
theorem Inv.tuple_inj(I:Inv X pins σ H s)(h:SqT X.K H a xs)(h':SqT X.K H a ys):xs=ys:=by
 obtain⟨its,r,⟨o,e,_,n,d⟩,_⟩:=I.tuple h
 obtain⟨its',r',⟨o',e',_,n',d'⟩,_⟩:=I.tuple h'
 rw[e]at e';cases e'
 rw[d]at d'
 injection d' with d1 _
 have:its=its':=by simpa using congrArg Array.toList d1
 subst this
 exact r.inj r'
end
noncomputable abbrev Cx.wish(X:Cx)(E:Value→Shared→Prop):Cx:={ X with xe:=E }
noncomputable abbrev Cx.nox(X:Cx):Cx:=X.wish fun _ _=>False
theorem Cx.Ok.wish{X:Cx}(ok:X.Ok)(E:Value→Shared→Prop):(X.wish E).Ok :=
 ⟨ok.mod,ok.kind,ok.glob,ok.blt,ok.above,ok.inj,ok.has,ok.cab,ok.hd,ok.frames,ok.stk,ok.exf,ok.bs,ok.bsz,ok.noex,ok.exfs,ok.funs,ok.frf⟩
theorem Cx.Ok.unwish{X:Cx}{E:Value→Shared→Prop}(ok:(X.wish E).Ok):X.Ok :=
 ⟨ok.mod,ok.kind,ok.glob,ok.blt,ok.above,ok.inj,ok.has,ok.cab,ok.hd,ok.frames,ok.stk,ok.exf,ok.bs,ok.bsz,ok.noex,ok.exfs,ok.funs,ok.frf⟩
section
variable {X:Cx} {pins:List (Addr × Obj)} {σ:St} {H:Hp} {s:Shared} {E:Value→Shared→Prop}
theorem Inv.wish(I:Inv X pins σ H s)(E:Value→Shared→Prop):Inv (X.wish E) pins σ H s:=⟨I.ok.wish E,I.os,I.bare,I.base,I.loc,I.cell,I.free,I.freeC,I.pin,I.hok,I.len⟩
theorem Inv.unwish(I:Inv (X.wish E) pins σ H s):Inv X pins σ H s:=⟨I.ok.unwish,I.os,I.bare,I.base,I.loc,I.cell,I.free,I.freeC,I.pin,I.hok,I.len⟩
theorem SP.unwish{D:a8T}{f:Flow}{s':Shared}(h:SP (X.wish E) pins D f s'):SP X pins D f s':=by
 cases f with
 | next=>obtain⟨σ',H',I,q⟩:=h;exact⟨σ',H',I.unwish,q⟩
 | brk=>obtain⟨σ',H',I,q⟩:=h;exact⟨σ',H',I.unwish,q⟩
 | cont=>obtain⟨σ',H',I,q⟩:=h;exact⟨σ',H',I.unwish,q⟩
 | ret u=>obtain⟨v,σ',H',I,r,q⟩:=h;exact⟨v,σ',H',I.unwish,r,q⟩
theorem PE.nox{e:Expr}{t:TE}(h:PE X.nox e t):PE X e t:=fun pins s σ H Q I hw =>
 wpAny_mono (h pins s σ H Q (I.wish _) hw) (fun _ _ ⟨v,H',I',r,q⟩=>⟨v,H',I'.unwish,r,q⟩) fun _ _ z=>False.elim z
theorem PT.nox{e:Expr}{t:TT}(h:PT X.nox e t):PT X e t:=fun pins s σ H Q I hw =>
 wpAny_mono (h pins s σ H Q (I.wish _) hw) (fun _ _ ⟨H',I',q⟩=>⟨H',I'.unwish,q⟩) fun _ _ z=>False.elim z
theorem PSs.nox{st:List Stmt}{t:TS}(h:PSs X.nox st t):PSs X st t:=fun pins s σ H D I hw =>
 wpAny_mono (h pins s σ H D (I.wish _) hw) (fun _ _ q=>q.unwish) fun _ _ z=>False.elim z
end
section
variable {X:Cx} {st:Stmt} {J4:List Stmt} {t u:TS} {e:Expr} {te:TE} {pos:Pos}
noncomputable def c1l:TS:=fun D σ H=>D.nx σ H
noncomputable def c2L(t u:TS):TS:=fun D σ H=>t { D with nx:=u D } σ H
theorem b6H:PSs X [] c1l:=fun _ _ σ H _ I h=>wpAny_execs_nil ⟨σ,H,I,h⟩
theorem a75(h1:PS X st t)(h2:PSs X J4 u):PSs X (st :: J4) (c2L t u):=by
 intro pins s σ H D I h
 refine wpAny_execs_cons (thn (h1 pins s σ H { D with nx:=u D } I h) fun f s1 q=>?_)
 cases f with
 | next =>
  obtain⟨σ',H',I',q⟩:=q
  exact h2 pins s1 σ' H' D I' q
 | ret v=>exact q
 | brk=>exact q
 | cont=>exact q
theorem b6G(h1:PS X st t):PSs X [st] t:=by
 intro pins s σ H D I h
 refine wpAny_execs_cons (thn (h1 pins s σ H D I h) fun f s1 q=>?_)
 cases f with
 | next=>exact wpAny_execs_nil q
 | ret v=>exact q
 | brk=>exact q
 | cont=>exact q
theorem Inv.quiet{pins:List (Addr × Obj)}{σ:St}{H:Hp}{s:Shared}(I:Inv X pins σ H s):interactive X.env=false:=by simp[interactive,I.ok.kind]
noncomputable def c1o(te:TE):TS:=fun D σ H=>te σ H fun _ H1=>D.nx σ H1
theorem b6I(he:PE X e te)(hs:swapsWith e none pos.line X.env=pure false:=by rfl):PS X (.Expr e pos) (c1o te):=by
 intro pins s σ H D I h
 exact wpAny_Expr_any (thn (he pins s σ H _ I h) fun v s1 ⟨x,H1,I1,r1,q1⟩=>⟨σ,H1,I1,q1⟩) I.quiet hs
noncomputable def c2M(te:TE):TS:=fun D σ H=>te σ H D.rt
theorem b9E(he:PE X e te):PS X (.Return (some e) pos) (c2M te):=by
 intro pins s σ H D I h
 exact wpAny_Return_some (thn (he pins s σ H _ I h) fun v s1 ⟨x,H1,I1,r1,q1⟩=>⟨x,σ,H1,I1,r1,q1⟩)
noncomputable def c2R(c:TT)(t u:TS):TS:=fun D σ H=>c σ H fun b H1=>if b=true then t D σ H1 else u D σ H1
theorem c1z{c:Expr}{a b:List Stmt}{tc:TT}(hc:PT X c tc)(ha:PSs X a t)(hb:PSs X b u):PS X (.If c a b pos) (c2R tc t u):=by
 intro pins s σ H D I h
 refine wpAny_If (thn (hc pins s σ H _ I h) fun d s1 zz=>?_)
 obtain⟨H1,I1,q1⟩:=zz
 cases d with
 | true=>exact ha pins s1 σ H1 D I1 q1
 | false=>exact hb pins s1 σ H1 D I1 q1
noncomputable def b9h:TS:=fun _ _ _=>False
theorem b3L:PS X st b9h:=fun _ _ _ _ _ _ h=>h.elim
end
noncomputable abbrev TG:=V→St→Hp→(St→Hp→Prop)→Prop
noncomputable abbrev TGs:=List V→St→Hp→(St→Hp→Prop)→Prop
noncomputable def PG(X:Cx)(target:Expr)(t:TG):Prop :=
 ∀(pins:List (Addr × Obj)) (s:Shared) (σ:St) (H:Hp) (v:V) (u:Value) (Q:St→Hp→Prop),Inv X pins σ H s→u0 v u→t v σ H Q →
  wpAny (model X.prog X.w) X.A (assign target X.env u) (fun _ s'=>∃ σ' H',Inv X pins σ' H' s'∧Q σ' H') X.xe s
noncomputable def PGs(X:Cx)(ts:List Expr)(t:TGs):Prop :=
 ∀(pins:List (Addr × Obj)) (s:Shared) (σ:St) (H:Hp) (vs:List V) (us:List Value) (Q:St→Hp→Prop),Inv X pins σ H s→o8 vs us→t vs σ H Q →
  wpAny (model X.prog X.w) X.A (assignInOrder ((assignEach ts X.env).map (·.2)) us) (fun _ s'=>∃ σ' H',Inv X pins σ' H' s'∧Q σ' H') X.xe s
noncomputable abbrev c0C:=V→V→V→Hp→(Hp→Prop)→Prop
noncomputable def c2B(X:Cx)(t:c0C):Prop :=
 ∀(pins:List (Addr × Obj)) (s:Shared) (σ:St) (H:Hp) (o i v:V) (ov iv u:Value) (Q:Hp→Prop),Inv X pins σ H s→u0 o ov→u0 i iv→u0 v u→t o i v H Q →
  wpAny (model X.prog X.w) X.A (setItem ov iv u) (fun _ s'=>∃ H',Inv X pins σ H' s'∧Q H') X.xe s
section
variable {X:Cx} {pos:Pos}
noncomputable def b4D(i:Nat):TG:=fun v σ H Q=>Q (σ.set i (some v)) H
theorem b6P{i:Nat}{x:Str}(hN:X.N.Nodup)(hi:X.N[i]? = some x)(hx:Loc X.env.scope x)(hf:X.fn x=true∨X.env.scope.names.lookup x=some .local:=by first|exact .inl rfl|exact .inr rfl|assumption):PG X (.Name x pos) (b4D i):=by
 intro pins s σ H v u Q I r h
 exact wpAny_assign_Name (a0Y I hN hi hx r (fun s' I'=>⟨_,H,I',h⟩) hf)
noncomputable def c3p:TGs:=fun vs σ H Q=>vs=[]∧Q σ H
noncomputable def c2b(t:TG)(u:TGs):TGs:=fun vs σ H Q=>∃ v r,vs=v :: r∧t v σ H fun σ' H'=>u r σ' H' Q
theorem b6N:PGs X [] c3p:=by
 intro pins s σ H vs us Q I r h
 obtain⟨e,h⟩:=h
 subst e
 cases r
 exact assignInOrder_nil ⟨σ,H,I,h⟩
theorem b3P{e:Expr}{es:List Expr}{t:TG}{u:TGs}(h1:PG X e t)(h2:PGs X es u)
  (hs:(assignEach (e :: es) X.env).map (·.2)=assign e X.env :: (assignEach es X.env).map (·.2):=by rfl):PGs X (e :: es) (c2b t u):=by
 intro pins s σ H vs us Q I r h
 obtain⟨v,vr,e1,h⟩:=h
 subst e1
 cases r with
 | cons r rr =>
  rw[hs]
  refine assignInOrder_cons (thn (h1 pins s σ H _ _ _ I r h) fun _ s1 zz=>?_)
  obtain⟨σ1,H1,I1,q1⟩:=zz
  exact h2 pins s1 σ1 H1 _ _ Q I1 rr q1
noncomputable def c3m(K:c6v)(n:Nat)(t:TGs):TG:=fun v σ H Q=>∃ a xs,v = .ref a∧SqT K H a xs∧xs.length=n∧t xs σ H Q
theorem b9L{es:List Expr}{k:Nat}{t:TGs}{n:Nat}(hc:X.calm=true)(h:PGs X es t)
  (hn:(assignEach es X.env).length=n:=by rfl) (hst:(assignEach es X.env).findIdx? (·.1)=none:=by rfl):PG X (.Tuple es k pos) (c3m X.K n t):=by
 intro pins s σ H v u Q I r hw
 obtain⟨a,xs,e1,hq,hl,hw⟩:=hw
 subst e1
 cases r
 obtain⟨its,rv,ht,hz⟩:=I.tuple hq
 refine assign_Tuple_tuple (I.ok.hd hc) ht (by simp[hn,← hl,rv.length]) hst fun h' hx=>?_
 have I1:Inv X pins σ H { s with heap:=h' }:=I.kept (t':=s.toks) fun b o e=>hx b o (c7h (c6I e)) e
 exact h pins _ σ H xs _ Q I1 (by simpa using rv) hw
noncomputable def c3n(to ti:TE)(t:c0C):TG:=fun v σ H Q=>to σ H fun o H1=>ti σ H1 fun i H2=>t o i v H2 fun H3=>Q σ H3
theorem b9M{o i:Expr}{to ti:TE}{t:c0C}(ho:PE X o to)(hi:PE X i ti)(hs:c2B X t)
  (ha:∀ v,assign (.Subscript o i pos) X.env v=(do
   let ov ← holding [v] (eval o X.env)
   let iv ← holding [v,ov] (eval i X.env)
   standAt pos
   holding [v,ov,iv] (setItem ov iv v)
   release [v,ov,iv] []):=by intro _;rfl):PG X (.Subscript o i pos) (c3n to ti t):=by
 intro pins s σ H v u Q I r h
 rw[ha]
 refine c6u (wpAny_holding (thn (ho pins s σ H _ I h) fun ov s1 zz=>?_))
 obtain⟨x,H1,I1,r1,q1⟩:=zz
 refine c6u (wpAny_holding (thn (hi pins s1 σ H1 _ I1 q1) fun iv s2 zz=>?_))
 obtain⟨y,H2,I2,r2,q2⟩:=zz
 refine c6u (wpAny_standAt (c6u (wpAny_holding (thn (hs pins s2 σ H2 x y v ov iv u _ I2 r1 r2 r q2) fun _ s3 zz=>?_))))
 obtain⟨H3,I3,q3⟩:=zz
 exact wpAny_release ⟨σ,H3,I3,q3⟩
noncomputable def b9i(te:TE)(g:TG):TS:=fun D σ H=>te σ H fun x H1=>g x σ H1 D.nx
theorem b9H{tg e:Expr}{te:TE}{g:TG}(he:PE X e te)(hg:PG X tg g)(hs:swapsWithSole [tg] e pos.line X.env=pure false:=by rfl)(hw:swappedStores [tg] e X.env=pure none:=by rfl)
  (h1:(assignEach [tg] X.env).map (·.2)=[assign tg X.env]:=by rfl):PS X (.Assign [tg] e pos) (b9i te g):=by
 intro pins s σ H D I h
 refine wpAny_Assign_stores (thn (he pins s σ H _ I h) fun v s1 ⟨x,H1,I1,r1,q1⟩=>?_) hs hw
 rw[h1]
 exact thn (hg pins s1 σ H1 x v _ I1 r1 q1) fun _ s2 q=>q
theorem b9D{i:Nat}{x:Str}{e:Expr}{te:TE}{pos':Pos}(hN:X.N.Nodup)(hi:X.N[i]? = some x)(hx:Loc X.env.scope x)(he:PE X e te)(hs:swapsWith e (some (.Name x pos')) pos.line X.env=pure false:=by rfl)(hf:X.fn x=true∨X.env.scope.names.lookup x=some .local:=by first|exact .inl rfl|exact .inr rfl|assumption) :
  PS X (.Assign [.Name x pos'] e pos) (b9i te (b4D i)):=by
 intro pins s σ H D I h
 refine wpAny_Assign_Name (thn (he pins s σ H _ I h) fun v s1 ⟨y,H1,I1,r1,q1⟩=>?_) hs
 exact a0Y I1 hN hi hx r1 (fun s2 I2=>⟨_,H1,I2,q1⟩) hf
noncomputable def c2N(i j:Nat)(ta:TA):TS:=fun D σ H=>ta σ H fun vs H1=>∃ v w,vs=[v,w]∧D.nx ((σ.set i (some v)).set j (some w)) H1
theorem b9F{i j:Nat}{x y:Str}{a b:Expr}{ta:TA}{px py pt:Pos}{kt k2 pt2}(hc:X.calm=true)(hN:X.N.Nodup)(hi:X.N[i]? = some x)(hj:X.N[j]? = some y)(hij:i≠j)
  (hx:X.env.scope.names.lookup x=some .local) (hy:X.env.scope.names.lookup y=some .local) (ha:PA X [a,b] ta)
  (hw:swappedStores [.Tuple [.Name x px,.Name y py] kt pt] (.Tuple [a,b] k2 pt2) X.env=pure (some [x,y]))
  (hs:swapsWithSole [.Tuple [.Name x px,.Name y py] kt pt] (.Tuple [a,b] k2 pt2) pos.line X.env=pure false:=by rfl) :
  PS X (.Assign [.Tuple [.Name x px,.Name y py] kt pt] (.Tuple [a,b] k2 pt2) pos) (c2N i j ta):=by
 intro pins s σ H D I h
 rw[exec_Assign_arm]
 refine c6u (wpAny_standAt ?_)
 rw[hs]
 refine c6u (c6E ?_)
 rw[if_neg (by decide)]
 refine c6u (Tuple_ (thn (ha _ pins s σ H _ I h) fun us s1 zz=>?_))
 obtain⟨vs,H1,I1,r1,q1⟩:=zz
 obtain⟨v,w,e1,q1⟩:=q1
 subst e1
 obtain⟨u1,u2,rfl,rv,rw'⟩:∃ u1 u2,us=[u1,u2]∧u0 v u1∧u0 w u2:=by
  cases r1 with
  | cons p q =>
   cases q with
   | cons p' q' =>
    cases q'
    exact⟨_,_,rfl,p,p'⟩
 refine wpAny_newObj_type ?_ (by show 2≤sizeLine;decide)
 have I2:Inv X pins σ H1 { s1 with heap:=s1.heap.push { cls:=.type "tuple",data:=.seq [u1,u2].toArray } }:=I1.kept (t':=s1.toks) fun b o e=>c6y _ e
 rw[hw]
 refine c6u (c6E ?_)
 show wpAny (model X.prog X.w) X.A (do rule "assign.swapped-stores";let items ← unpackItems (.ref s1.heap.objs.size) 2 none;assignInOrder [fun v=>bindName X.env y v,fun v=>bindName X.env x v] items.reverse;pure Flow.next) _ _ _
 refine c6u (wpAny_rule (c6u (unpackItems_tuple (items:=#[u1,u2]) (I.ok.hd hc) (IsTup.new s1.heap _) fun h' hx'=>?_)))
 have I3:=I2.kept (h':=h') (t':=s1.toks) fun b o e=>hx' b o (c7h (c6I e)) e
 show wpAny _ _ (assignInOrder [fun v=>bindName X.env y v,fun v=>bindName X.env x v] [u2,u1] >>= fun _=>pure Flow.next) _ _ _
 refine c6u (assignInOrder_cons (wpAny_bindName (a0Y I3 hN hj (.inl hy) rw' (fun s2 I4=>?_) (.inr hy))))
 refine assignInOrder_cons (wpAny_bindName (a0Y I4 hN hi (.inl hx) rv (fun s3 I5=>assignInOrder_nil (c6E ?_)) (.inr hx)))
 rw[List.set_comm _ _ (Ne.symm hij)]at I5
 exact⟨_,H1,I5,q1⟩
end
section
variable {X:Cx} {pos:Pos}
noncomputable def b9g(c:TT)(tb:TS):TS:=fun D σ H=>∃ W:Nat→St→Hp→Prop,(∃ m,W m σ H)∧∀ m σ H,W m σ H →
 c σ H fun b H1=>if b=true then ∃ N:St→Hp→Prop,(∀ σ' H',N σ' H'→∃ m',m'<m∧W m' σ' H')∧tb { D with nx:=N,ct:=N,bk:=D.nx } σ H1 else D.nx σ H1
theorem b3K{c:Expr}{body:List Stmt}{tc:TT}{tb:TS}(hp:PassesOwn (model X.prog X.w) X.A X.env X.xe)(hc:PT X c tc)(hb:PSs X body tb):PS X (.While c body [] pos) (b9g tc tb):=by
 intro pins s σ H D I h
 obtain⟨W,⟨m0,w0⟩,turn⟩:=h
 refine wpAny_While (codeAny_whileLoop (fun n s'=>∃ σ' H',Inv X pins σ' H' s'∧W n σ' H') ?_ m0 ⟨σ,H,I,w0⟩)
 rintro n s1 ⟨σ1,H1,I1,w1⟩
 refine wpAny_passesOwn hp (thn (hc pins s1 σ1 H1 _ I1 (turn n σ1 H1 w1)) fun b s2 zz=>?_)
 obtain⟨H2,I2,q2⟩:=zz
 cases b with
 | true =>
  obtain⟨N,hN,q2⟩:=q2
  rw[if_pos rfl]
  refine wpAny_passesOwn hp (thn (hb pins s2 σ1 H2 _ I2 q2) fun f s3 q3=>?_)
  cases f with
  | next =>
   obtain⟨σ3,H3,I3,n3⟩:=q3
   obtain⟨m',hm,w3⟩:=hN σ3 H3 n3
   exact⟨m',hm,σ3,H3,I3,w3⟩
  | cont =>
   obtain⟨σ3,H3,I3,n3⟩:=q3
   obtain⟨m',hm,w3⟩:=hN σ3 H3 n3
   exact⟨m',hm,σ3,H3,I3,w3⟩
  | brk=>exact q3
  | ret v=>exact q3
 | false =>
  rw[if_neg c6S]
  exact wpAny_execs_nil ⟨σ1,H2,I2,q2⟩
end
structure It where
 go:Nat→Hp→Prop
 yld:Nat→Hp→V→Hp→Prop
 stop:Nat→Hp→Prop
noncomputable def a0T(X:Cx)(pins:List (Addr × Obj))(H:Hp)(b:Addr):Prop :=
 H b=none∧b≠X.env.locals∧b∉X.fs∧(b∈X.ex∨X.s₀.heap.objs.size≤b)∧(∀ x c,X.env.cells.lookup x=some c→c≠b)∧∀ p∈X.pn++pins,p.1≠b
theorem Inv.fpOk{X:Cx}{pins:List (Addr × Obj)}{σ:St}{H H':Hp}{s:Shared}{b:Addr}(I:Inv X pins σ H s)(hb:s.heap.objs.size≤b)(hn:H' b=none):a0T X pins H' b:=by
 refine⟨hn,c7F (c6A I.lt hb),I.nofs hb,.inr (c6D I.sz hb),fun x c e z=>?_,fun p hp z=>?_⟩
 ·obtain⟨v,q⟩:=I.cell x c e
  exact absurd (c6A q.lt (by rw[z];exact hb)) (c7R _)
 ·exact absurd (c6A (c6I (I.pin p hp).1) (by rw[z];exact hb)) (c7R _)
structure a66(P:Program)(w:World)(K:c6v)(tg:Expr)(J:It)(fp:List Addr)(it:Addr)(tn:Nat→Heap→Prop):Prop where
 mem:it∈fp
 obj:∀ i h,tn i h→∀ b∈fp,∃ o,h.get? b=some o∧∀ v,o.data ≠ .cell v
 keep:∀ i h h',tn i h→(∀ b∈fp,∀ o,h.get? b=some o→h'.get? b=some o)→tn i h'
 item:∀(X:Cx),X.prog=P→X.w=w→X.K=K→X.calm=true→∀(i:Nat) (pins:List (Addr × Obj)) (s:Shared) (σ:St) (H:Hp) (E:Value→Shared→Prop),Inv X pins σ H s→(∀ b∈fp,a0T X pins H b)→tn i s.heap→J.go i H →
  wpAny (model P w) X.A (pyNext (.ref it)) (fun r s1=>∃ u,r=some u ∧
   wpAny (model P w) X.A (letOwnedTupleGo tg (.ref it) u) (fun _ s2=>∃ x H',Inv X pins σ H' s2∧u0 x u∧J.yld i H x H'∧tn (i+1) s2.heap∧∀ b∈fp,H' b=none) E s1) E s
 done:∀(X:Cx),X.prog=P→X.w=w→X.K=K→X.calm=true→∀(i:Nat) (pins:List (Addr × Obj)) (s:Shared) (σ:St) (H:Hp) (E:Value→Shared→Prop),Inv X pins σ H s→(∀ b∈fp,a0T X pins H b)→tn i s.heap→J.stop i H →
  wpAny (model P w) X.A (pyNext (.ref it)) (fun r s1=>r=none∧Inv X pins σ H s1) E s
 self:∀(A:Around) (i:Nat) (s:Shared) (Q:Value→Shared→Prop) (E:Value→Shared→Prop),tn i s.heap→Q (.ref it) s→wpAny (model P w) A (pyIter (.ref it)) Q E s
noncomputable abbrev TI:=St→Hp→(It→Hp→Prop)→Prop
noncomputable def PIE(X:Cx)(pins:List (Addr × Obj))(σ:St)(tg:Expr)(R:It→Hp→Prop)(itv:Value)(s2:Shared):Prop :=
 ∃(it:Addr) (fp:List Addr) (tn:Nat→Heap→Prop) (J:It) (H':Hp),itv = .ref it∧Inv X pins σ H' s2∧a66 X.prog X.w X.K tg J fp it tn∧tn 0 s2.heap∧(∀ b∈fp,a0T X pins H' b)∧R J H'
noncomputable def PI(X:Cx)(tg iter:Expr)(wi:TI):Prop :=
 ∀(pins:List (Addr × Obj)) (s:Shared) (σ:St) (H:Hp) (R:It→Hp→Prop),Inv X pins σ H s→wi σ H R →
  wpAny (model X.prog X.w) X.A (eval iter X.env) (fun v s1=>wpAny (model X.prog X.w) X.A (pyIter v) (PIE X pins σ tg R) X.xe s1) X.xe s
theorem a8w{M:Model}{A:Around}{E:Value→Shared→Prop}{s:Shared}{tg:Expr}{it:Addr}{u:Value}{o:Obj}{n:String}{vs:Array Value}{Q:Unit→Shared→Prop}(ho:s.heap.get? it=some o)(hc:o.cls = .type n)(hd:o.data = .fields vs)
  (hn:["enumerate","zip","dict_itemiterator","dict_reverseitemiterator","odict_iterator","itertools.zip_longest","itertools.pairwise"].contains n=false) (hQ:Q () s):wpAny M A (letOwnedTupleGo tg (.ref it) u) Q E s:=by
 unfold letOwnedTupleGo
 cases tg<;>first
  | exact c6E hQ
  | (cases u<;>first
    | exact c6E hQ
    | (refine c6u (wpAny_load ho ?_);rw[hc,hd];show wpAny M A (if (["enumerate","zip","dict_itemiterator","dict_reverseitemiterator","odict_iterator","itertools.zip_longest","itertools.pairwise"].contains n && vs[0]? == some (rawInt _))=true then _ else _) Q E s;rw[if_neg (by intro h;rw[hn,Bool.false_and]at h;cases h)];exact c6E hQ))
noncomputable def Itl(K:c6v)(a:Addr):It :=
 ⟨fun i H=>∃ xs x,SqL K H a xs∧xs[i]? = some x,fun i H x H'=>H'=H∧∀ xs,SqL K H a xs→xs[i]? = some x,fun i H=>∃ xs,SqL K H a xs∧xs.length≤i⟩
noncomputable def Itt(K:c6v)(a:Addr):It :=
 ⟨fun i H=>∃ xs x,SqT K H a xs∧xs[i]? = some x,fun i H x H'=>H'=H∧∀ xs,SqT K H a xs→xs[i]? = some x,fun i H=>∃ xs,SqT K H a xs∧xs.length≤i⟩
noncomputable def Itr(lo:Int)(n:Nat):It:=⟨fun i _=>i<n,fun i H x H'=>H'=H∧x = .int (lo+i),fun i _=>n≤i⟩
theorem b1t{P:Program}{w:World}{K:c6v}{tg:Expr}(a it:Addr):a66 P w K tg (Itl K a) [it] it (fun i h=>h.IsListIter it a i) where
 mem:=by simp
 obj:=fun i h st b hb=>by
  have e:b=it:=by simpa using hb
  subst e
  obtain⟨o,e,c,d⟩:=st
  exact⟨o,e,fun v z=>by rw[d]at z;cases z⟩
 keep:=fun i h h' st k=>st.at fun o e=>k it (by simp) o e
 item:=by
  intro X hP hw hK hc i pins s σ H E I hf st hg
  subst hP hw hK
  obtain⟨xs,x,hq,hx⟩:=hg
  obtain⟨its,rv,p,hz⟩:=I.list hq
  obtain⟨u,hu,ru⟩:=rv.get hx
  obtain⟨f0,f1,f2,f3,f4,f5⟩:=hf it (by simp)
  refine wpAny_pyNext_list_item st p.isList (x:=u) (by simpa using hu) fun h' st' sb=>?_
  have I1:Inv X pins σ H { s with heap:=h' }:=I.turned (t':=s.toks) (fun b o hb e=>(sb.2 b hb).trans e) f0 f1 f3 f4 f5
  obtain⟨o,e,c,d⟩:=id st'
  exact⟨u,rfl,a8w (s:={ s with heap:=h' }) e c d (by decide) ⟨x,H,I1,ru,⟨rfl,fun ys hy=>by rw[I.list_inj hy hq];exact hx⟩,st',fun b hb=>(hf b hb).1⟩⟩
 done:=by
  intro X hP hw hK hc i pins s σ H E I hf st hg
  subst hP hw hK
  obtain⟨xs,hq,hx⟩:=hg
  obtain⟨its,rv,p,hz⟩:=I.list hq
  obtain⟨f0,f1,f2,f3,f4,f5⟩:=hf it (by simp)
  have hl:=rv.length
  exact wpAny_pyNext_list_end (I.ok.hd hc) st p.isList (by simp;omega) fun h' eb=>⟨rfl,I.turned (t':=s.toks) (fun b o hb e=>eb b o hb e) f0 f1 f3 f4 f5⟩
 self:=fun _ _ _ _ _ st h=>wpAny_pyIter_listiter st h
theorem a8X{P:Program}{w:World}{K:c6v}{tg:Expr}(a it:Addr):a66 P w K tg (Itt K a) [it] it (fun i h=>h.IsTupleIter it a i) where
 mem:=by simp
 obj:=fun i h st b hb=>by
  have e:b=it:=by simpa using hb
  subst e
  obtain⟨o,e,c,d⟩:=st
  exact⟨o,e,fun v z=>by rw[d]at z;cases z⟩
 keep:=fun i h h' st k=>st.at fun o e=>k it (by simp) o e
 item:=by
  intro X hP hw hK hc i pins s σ H E I hf st hg
  subst hP hw hK
  obtain⟨xs,x,hq,hx⟩:=hg
  obtain⟨its,rv,p,hz⟩:=I.tuple hq
  obtain⟨u,hu,ru⟩:=rv.get hx
  obtain⟨f0,f1,f2,f3,f4,f5⟩:=hf it (by simp)
  refine wpAny_pyNext_tuple_item st (show s.heap.IsTuple a its.toArray from p) (x:=u) (by simpa using hu) fun h' st' sb=>?_
  have I1:Inv X pins σ H { s with heap:=h' }:=I.turned (t':=s.toks) (fun b o hb e=>(sb.2 b hb).trans e) f0 f1 f3 f4 f5
  obtain⟨o,e,c,d⟩:=id st'
  exact⟨u,rfl,a8w (s:={ s with heap:=h' }) e c d (by decide) ⟨x,H,I1,ru,⟨rfl,fun ys hy=>by rw[I.tuple_inj hy hq];exact hx⟩,st',fun b hb=>(hf b hb).1⟩⟩
 done:=by
  intro X hP hw hK hc i pins s σ H E I hf st hg
  subst hP hw hK
  obtain⟨xs,hq,hx⟩:=hg
  obtain⟨its,rv,p,hz⟩:=I.tuple hq
  obtain⟨f0,f1,f2,f3,f4,f5⟩:=hf it (by simp)
  have hl:=rv.length
  exact wpAny_pyNext_tuple_end (I.ok.hd hc) st (show s.heap.IsTuple a its.toArray from p) (by simp;omega) fun h' eb=>⟨rfl,I.turned (t':=s.toks) (fun b o hb e=>eb b o hb e) f0 f1 f3 f4 f5⟩
 self:=fun _ _ _ _ _ st h=>wpAny_pyIter_tupleiter st h
theorem a8Y{P:Program}{w:World}{K:c6v}{tg:Expr}(it:Addr)(lo:Int)(n:Nat):a66 P w K tg (Itr lo n) [it] it (fun i h=>IsRangeIter h it (lo+(i:Nat)*1) ((n:Int) - (i:Nat)) 1) where
 mem:=by simp
 obj:=fun i h st b hb=>by
  have e:b=it:=by simpa using hb
  subst e
  exact⟨_,st,fun v z=>by
   have z':Data.fields _=Data.cell v:=z
   cases z'⟩
 keep:=fun i h h' st k=>k it (by simp) _ st
 item:=by
  intro X hP hw hK hc i pins s σ H E I hf st hg
  subst hP hw hK
  obtain⟨f0,f1,f2,f3,f4,f5⟩:=hf it (by simp)
  have W:=Walks.range (prog:=X.prog) (w:=X.w) (I.ok.hd hc) it lo 1 n
  refine W.item i s _ _ hg st fun v h' tk hv st' kk=>?_
  obtain⟨t,rfl⟩:=hv
  have I1:Inv X pins σ H { s with heap:=h',toks:=tk }:=I.turned (fun b o hb e=>kk b o (by simpa using hb) e) f0 f1 f3 f4 f5
  refine⟨_,rfl,a8w (s:={ s with heap:=h',toks:=tk }) (n := "range_iterator") st' rfl rfl (by decide) ⟨.int (lo+i),H,I1,⟨t,?_⟩,⟨rfl,rfl⟩,st',fun b hb=>(hf b hb).1⟩⟩
  rw[c9P]
 done:=by
  intro X hP hw hK hc i pins s σ H E I hf st hg
  subst hP hw hK
  obtain⟨f0,f1,f2,f3,f4,f5⟩:=hf it (by simp)
  exact wpAny_pyNext_range_end (I.ok.hd hc) st (by have:n≤i:=hg;omega) fun h' eb=>⟨rfl,I.turned (t':=s.toks) (fun b o hb e=>eb b o hb e) f0 f1 f3 f4 f5⟩
 self:=fun _ _ _ _ _ st h=>wpAny_pyIter_rangeiter st h
end L2
namespace L2
open PySem PySem.Spec PyProof.Rows
section
variable {X:Cx} {tg:Expr}
theorem a73{pins:List (Addr × Obj)}{σ:St}{H:Hp}{s:Shared}{R:It→Hp→Prop}{E:Value→Shared→Prop}{lo hi:Int}{t u v:Tok}{tk:Nat}(I:Inv X pins σ H s)(h1:-(2 ^ 62)≤lo)(h2:lo<2 ^ 62)(h3:-(2 ^ 62)≤hi)(h4:hi<2 ^ 62)
  (q:R (Itr lo (hi - lo).toNat) H):wpAny (model X.prog X.w) X.A (pyIter (.ref s.heap.objs.size)) (PIE X pins σ tg R) E { s with heap:=s.heap.push { cls:=.type "range",data:=.fields #[.int lo t,.int hi u,.int 1 v] },toks:=tk }:=by
 refine wpAny_pyIter_range (IsRange.new ..) (small_one h1 h2 h3 h4) ?_
 have I1:Inv X pins σ H { s with heap:=s.heap.push { cls:=.type "range",data:=.fields #[.int lo t,.int hi u,.int 1 v] },toks:=tk }:=I.kept fun b o e=>c6y _ e
 refine⟨(s.heap.push { cls:=.type "range",data:=.fields #[.int lo t,.int hi u,.int 1 v] }).objs.size,[(s.heap.push { cls:=.type "range",data:=.fields #[.int lo t,.int hi u,.int 1 v] }).objs.size],_,_,H,rfl,
  I1.kept (t':=tk) fun b o e=>c6y _ e,a8Y _ lo (hi - lo).toNat,?_,fun b hb=>?_,q⟩
 ·have e1:lo+((0:Nat):Int)*1=lo:=by simp
  have e2:(((hi - lo).toNat:Nat):Int) - ((0:Nat):Int)=Builtin.Range.rangeSize lo hi 1:=by rw[rangeSize_one];split<;>omega
  show IsRangeIter _ _ (lo+((0:Nat):Int)*1) ((((hi - lo).toNat:Nat):Int) - ((0:Nat):Int)) 1
  rw[e1,e2]
  exact c6G _ rfl
 ·have e:b=(s.heap.push { cls:=.type "range",data:=.fields #[.int lo t,.int hi u,.int 1 v] }).objs.size:=by simpa using hb
  subst e
  exact I1.fpOk (c6U _) (I1.hok.fresh (c6U _))
noncomputable def c1W(ta:TA):TI:=fun σ H R=>ta σ H fun vs H1=>∃ j:Int,vs=[.int j]∧-(2 ^ 62)≤j∧j<2 ^ 62∧R (Itr 0 j.toNat) H1
noncomputable def c1V(ta:TA):TI:=fun σ H R=>ta σ H fun vs H1=>∃ i j:Int,vs=[.int i,.int j]∧(-(2 ^ 62)≤i∧i<2 ^ 62∧-(2 ^ 62)≤j∧j<2 ^ 62)∧R (Itr i (j - i).toNat) H1
theorem b1I{a:Expr}{ta:TA}{p pos:Pos}(hg:Gl X "range")(hm:X.mg "range" = none)(ha:PA X [a] ta)(hs:starEach [a] X.env=[(false,eval a X.env)]:=by rfl):PI X tg (.Call (.Name "range" p) [a] [] pos) (c1W ta):=by
 intro pins s σ H R I h
 refine Call_ (S6 I hg hm boot_range (PyProof.Rows.callWith_type1 (thn (ha pos pins s σ H _ I h) fun us s1 ⟨vs,H1,I1,r1,q1⟩=>?_) hs rfl))
 obtain⟨j,e,q1,q2,q⟩:=q1
 subst e
 cases r1 with
 | cons r rr =>
  cases rr
  obtain⟨t,rfl⟩:=r
  exact call_range_1 (a73 I1 (by omega) (by omega) q1 q2 (by simpa using q))
theorem b1H{a b:Expr}{ta:TA}{p pos:Pos}(hg:Gl X "range")(hm:X.mg "range" = none)(ha:PA X [a,b] ta)(hs:starEach [a,b] X.env=[(false,eval a X.env),(false,eval b X.env)]:=by rfl)(hs2:starEach [b] X.env=[(false,eval b X.env)]:=by rfl) :
  PI X tg (.Call (.Name "range" p) [a,b] [] pos) (c1V ta):=by
 intro pins s σ H R I h
 refine Call_ (S6 I hg hm boot_range (PyProof.Rows.callWith_type1 (thn (ha pos pins s σ H _ I h) fun us s1 ⟨vs,H1,I1,r1,q1⟩=>?_) (by rw[hs,hs2]) (by rw[hs2];rfl)))
 obtain⟨i,j,e,⟨q1,q2,q3,q4⟩,q⟩:=q1
 subst e
 cases r1 with
 | cons r rr =>
  cases rr with
  | cons r' rr =>
   cases rr
   obtain⟨t,rfl⟩:=r
   obtain⟨t',rfl⟩:=r'
   exact call_range_2 (a73 I1 q1 q2 q3 q4 q)
noncomputable def c2S(wi:TI)(g:TG)(tb:TS):TS:=fun D σ H=>wi σ H fun J H1=>∃ W:Nat→Nat→St→Hp→Prop,(∃ m,W 0 m σ H1)∧∀ i m σ H,W i m σ H →
 (J.stop i H∧D.nx σ H)∨(J.go i H∧∃ N:St→Hp→Prop,(∀ σ' H',N σ' H'→∃ m',m'<m∧W (i+1) m' σ' H')∧∀ x H',J.yld i H x H'→g x σ H' fun σ2 H2=>tb { D with nx:=N,ct:=N,bk:=D.nx } σ2 H2)
noncomputable def a6B(fp:List Addr)(h:Heap):List (Addr × Obj):=fp.filterMap fun b=>(h.get? b).map fun o=>(b,o)
theorem F8{fp:List Addr}{h:Heap}{b:Addr}{o:Obj}(hb:b∈fp)(e:h.get? b=some o):(b,o)∈a6B fp h:=c9t.mpr ⟨b,hb,by rw[e];rfl⟩
theorem b1K{fp:List Addr}{h:Heap}{p:Addr × Obj}(hp:p∈a6B fp h):p.1∈fp∧h.get? p.1=some p.2:=by
 obtain⟨b,hb,e⟩:=c9t.mp hp
 cases q:h.get? b with
 | none=>rw[q]at e;cases e
 | some o =>
  rw[q]at e
  have e':(b,o)=p:=Option.some.inj e
  subst e'
  exact⟨hb,q⟩
theorem Inv.pinned{pins:List (Addr × Obj)}{σ:St}{H:Hp}{s:Shared}{fp:List Addr}(I:Inv X pins σ H s)(hf:∀ b∈fp,a0T X pins H b)(ho:∀ b∈fp,∃ o,s.heap.get? b=some o∧∀ v,o.data ≠ .cell v):Inv X (pins++a6B fp s.heap) σ H s :=
 I.pins_of fun p hp=>(c6R.mp hp).elim (fun z=>I.pin p (c7a _ z)) fun z=>by
  obtain⟨hb,e⟩:=b1K z
  obtain⟨f0,f1,f2,_⟩:=hf p.1 hb
  obtain⟨o,e',d⟩:=ho p.1 hb
  rw[e]at e';cases e'
  exact⟨e,f0,f1,f2,d⟩
theorem Inv.unpinned{pins pl:List (Addr × Obj)}{σ:St}{H:Hp}{s:Shared}(I:Inv X (pins++pl) σ H s):Inv X pins σ H s:=I.pins_of fun p hp=>I.pin p (c7a _ (c9f _ hp))
theorem b9G{iter:Expr}{body:List Stmt}{wi:TI}{g:TG}{tb:TS}{pos:Pos}(hp:PassesOwn (model X.prog X.w) X.A X.env X.xe)(hc:X.calm=true)(hi:PI X tg iter wi)(hg:PG X tg g)(hb:PSs X body tb)
  (hs:∀ x,foldedSetIterable iter X.env x=pure x:=by intro _;rfl):PS X (.For tg iter body [] pos) (c2S wi g tb):=by
 intro pins s σ H D I h
 refine wpAny_For (thn (hi pins s σ H _ I h) fun v s1 h1=>thn h1 fun itv s2 h2=>?_) hs
 obtain⟨it,fp,tn,J,H2,e,I2,T,st2,f2,W,⟨m0,w0⟩,turn⟩:=h2
 subst e
 have stat:∀{H':Hp},(∀ b∈fp,H' b=none)→∀ b∈fp,a0T X pins H' b:=fun hn b hb=>⟨hn b hb,(f2 b hb).2⟩
 refine codeAny_forLoop_any (fun n s'=>∃ i σ' H',Inv X pins σ' H' s'∧tn i s'.heap∧(∀ b∈fp,H' b=none)∧W i n σ' H') ?_ m0 ⟨0,σ,H2,I2,st2,fun b hb=>(f2 b hb).1,w0⟩
 rintro n s3 ⟨i,σ3,H3,I3,st3,fr3,w3⟩
 rcases turn i n σ3 H3 w3 with⟨stop,qn⟩|⟨go,N,hN,step⟩
 ·refine wpAny_passesOwn hp (thn (T.done X rfl rfl rfl hc i pins s3 σ3 H3 X.xe I3 (stat fr3) st3 stop) fun r s4 zz=>?_)
  obtain⟨hr,I4⟩:=zz
  subst hr
  exact wpAny_execs_nil ⟨σ3,H3,I4,qn⟩
 ·refine wpAny_passesOwn hp (thn (T.item X rfl rfl rfl hc i pins s3 σ3 H3 X.xe I3 (stat fr3) st3 go) fun r s4 zz=>?_)
  obtain⟨u,hr,h4⟩:=zz
  subst hr
  refine wpAny_passesOwn hp (thn h4 fun _ s5 zz=>?_)
  obtain⟨x,H5,I5,r5,y5,st5,fr5⟩:=zz
  have I5':=I5.pinned (stat fr5) (T.obj _ _ st5)
  refine wpAny_passesOwn hp (thn (hg _ s5 σ3 H5 x u _ I5' r5 (step x H5 y5)) fun _ s6 zz=>?_)
  obtain⟨σ6,H6,I6,q6⟩:=zz
  refine wpAny_passesOwn hp (thn (hb _ s6 σ6 H6 _ I6 q6) fun f s7 q7=>?_)
  have again:∀{σ7:St} {H7:Hp},Inv X (pins++a6B fp s5.heap) σ7 H7 s7→N σ7 H7→∃ m,m<n∧∃ i σ' H',Inv X pins σ' H' s7∧tn i s7.heap∧(∀ b∈fp,H' b=none)∧W i m σ' H':=fun{σ7 H7} I7 n7=>by
   obtain⟨m',hm,w7⟩:=hN σ7 H7 n7
   refine⟨m',hm,i+1,σ7,H7,I7.unpinned,T.keep _ _ _ st5 fun b hb o e=>(I7.pin (b,o) (c7a _ (c7a _ (F8 hb e)))).1,fun b hb=>?_,w7⟩
   obtain⟨o,e,d⟩:=T.obj _ _ st5 b hb
   exact(I7.pin (b,o) (c7a _ (c7a _ (F8 hb e)))).2.1
  cases f with
  | next=>obtain⟨σ7,H7,I7,n7⟩:=q7;exact again I7 n7
  | cont=>obtain⟨σ7,H7,I7,n7⟩:=q7;exact again I7 n7
  | brk=>obtain⟨σ7,H7,I7,q7⟩:=q7;exact⟨σ7,H7,I7.unpinned,q7⟩
  | ret v=>obtain⟨x7,σ7,H7,I7,r7,q7⟩:=q7;exact⟨x7,σ7,H7,I7.unpinned,r7,q7⟩
end
end L2
namespace L2
open PySem PySem.Spec PyProof.Rows
noncomputable abbrev R2:=V→V→Hp→VK→Prop
noncomputable def OpR(X:Cx)(f:Value→Value→Sem Value)(r:R2):Prop :=
 ∀(pins:List (Addr × Obj)) (s:Shared) (σ:St) (H:Hp) (x y:V) (v u:Value) (Q:VK),Inv X pins σ H s→u0 x v→u0 y u→r x y H Q →
  wpAny (model X.prog X.w) X.A (f v u) (EP X pins σ Q) X.xe s
noncomputable def UnR(X:Cx)(f:Value→Sem Value)(r:V→Hp→VK→Prop):Prop :=
 ∀(pins:List (Addr × Obj)) (s:Shared) (σ:St) (H:Hp) (x:V) (v:Value) (Q:VK),Inv X pins σ H s→u0 x v→r x H Q →
  wpAny (model X.prog X.w) X.A (f v) (EP X pins σ Q) X.xe s
noncomputable def C5(X:Cx)(f:Value)(r:List V→Hp→VK→Prop):Prop :=
 ∀(pins:List (Addr × Obj)) (s:Shared) (σ:St) (H:Hp) (xs:List V) (us:List Value) (Q:VK),Inv X pins σ H s→o8 xs us→r xs H Q →
  wpAny (model X.prog X.w) X.A (call f us) (EP X pins σ Q) X.xe s
noncomputable def tOp(r:R2)(ta tb:TE):TE:=fun σ H Q=>ta σ H fun x H1=>tb σ H1 fun y H2=>r x y H2 Q
noncomputable def tUn(r:V→Hp→VK→Prop)(ta:TE):TE:=fun σ H Q=>ta σ H fun x H1=>r x H1 Q
noncomputable def rI(C:Int→Int→Prop)(g:Int→Int→V):R2:=fun x y H Q=>∃ i j,x = .int i∧y = .int j∧C i j∧Q (g i j) H
noncomputable def rI0(g:Int→Int→V):R2:=fun x y H Q=>∃ i j,x = .int i∧y = .int j∧Q (g i j) H
noncomputable def rU(g:Int→V):V→Hp→VK→Prop:=fun x H Q=>∃ i,x = .int i∧Q (g i) H
section
variable {X:Cx} {a b c:Expr} {ta tb tc:TE} {pos:Pos}
theorem c0y(ha:PE X a ta)(hb:PE X b tb){pins:List (Addr × Obj)}{s:Shared}{σ:St}{H:Hp}{R:V→V→Hp→Prop}(I:Inv X pins σ H s)
  (h:ta σ H fun x H1=>tb σ H1 fun y H2=>R x y H2) {Q:Value→Shared→Prop} {f:Value→Value→Sem Value}
  (hf:∀ v u s2 x y H2,Inv X pins σ H2 s2→u0 x v→u0 y u→R x y H2→wpAny (model X.prog X.w) X.A (f v u) Q X.xe s2) :
  wpAny (model X.prog X.w) X.A (eval a X.env) (fun v s₁=>wpAny (model X.prog X.w) X.A (eval b X.env) (fun u s₂=>wpAny (model X.prog X.w) X.A (f v u) Q X.xe s₂) X.xe s₁) X.xe s:=by
 refine thn (ha pins s σ H _ I h) fun v s1 zz=>?_
 obtain⟨x,H1,I1,r1,q1⟩:=zz
 refine thn (hb pins s1 σ H1 _ I1 q1) fun u s2 zz=>?_
 obtain⟨y,H2,I2,r2,q2⟩:=zz
 exact hf v u s2 x y H2 I2 r1 r2 q2
theorem b8w{op:Operator}{r:R2}(ho:OpR X (binaryOp op) r)(ha:PE X a ta)(hb:PE X b tb):PE X (.BinOp a op b pos) (tOp r ta tb):=by
 intro pins s σ H Q I h
 exact wpAny_BinOp (c0y ha hb I h fun v u s2 x y H2 I2 rx ry q=>ho pins s2 σ H2 x y v u Q I2 rx ry q)
theorem c1A{op:UnaryOp}{r:V→Hp→VK→Prop}(ho:UnR X (unaryOp op) r)(ha:PE X a ta):PE X (.UnaryOp op a pos) (tUn r ta):=by
 intro pins s σ H Q I h
 exact UnaryOp_ (thn (ha pins s σ H _ I h) fun v s1 ⟨x,H1,I1,r1,q1⟩=>ho pins s1 σ H1 x v Q I1 r1 q1)
theorem opI{f:Value→Value→Sem Value}{C:Int→Int→Prop}{g:Int→Int→Int}
  (rule:∀(i j:Int) (t u:Tok) (s:Shared) (Q:Value→Shared→Prop) (E:Value→Shared→Prop),C i j→Q (.int (g i j) s.toks) { s with toks:=s.toks+1 }→wpAny (model X.prog X.w) X.A (f (.int i t) (.int j u)) Q E s) :
  OpR X f (rI C fun i j=>.int (g i j)):=by
 intro pins s σ H x y v u Q I rx ry h
 obtain⟨i,j,rfl,rfl,hc,q⟩:=h
 obtain⟨t,rfl⟩:=rx
 obtain⟨t',rfl⟩:=ry
 exact rule i j t t' s _ _ hc ⟨.int (g i j),H,I.tok _,⟨_,rfl⟩,q⟩
theorem c1I{f:Value→Value→Sem Value}{g:Int→Int→Int}
  (rule:∀(i j:Int) (t u:Tok) (s:Shared) (Q:Value→Shared→Prop) (E:Value→Shared→Prop),Q (.int (g i j) s.toks) { s with toks:=s.toks+1 }→wpAny (model X.prog X.w) X.A (f (.int i t) (.int j u)) Q E s) :
  OpR X f (rI0 fun i j=>.int (g i j)):=by
 intro pins s σ H x y v u Q I rx ry h
 obtain⟨i,j,rfl,rfl,q⟩:=h
 obtain⟨t,rfl⟩:=rx
 obtain⟨t',rfl⟩:=ry
 exact rule i j t t' s _ _ ⟨.int (g i j),H,I.tok _,⟨_,rfl⟩,q⟩
theorem b91{f:Value→Value→Sem Value}{g:Int→Int→Bool}
  (rule:∀(i j:Int) (t u:Tok) (s:Shared) (Q:Value→Shared→Prop) (E:Value→Shared→Prop),Q (.bool (g i j)) s→wpAny (model X.prog X.w) X.A (f (.int i t) (.int j u)) Q E s) :
  OpR X f (rI0 fun i j=>.bl (g i j)):=by
 intro pins s σ H x y v u Q I rx ry h
 obtain⟨i,j,rfl,rfl,q⟩:=h
 obtain⟨t,rfl⟩:=rx
 obtain⟨t',rfl⟩:=ry
 exact rule i j t t' s _ _ ⟨.bl (g i j),H,I,rfl,q⟩
noncomputable def a8U(i j:Int):Prop:=0≤j∧j≤1000000∧i.natAbs<2 ^ 64
theorem b90:OpR X (binaryOp .Add) (rI0 fun i j=>.int (i+j)):=c1I fun _ _ _ _ _ _ _ q=>add_int q
theorem b9W:OpR X (binaryOp .Sub) (rI0 fun i j=>.int (i - j)):=c1I fun _ _ _ _ _ _ _ q=>sub_int q
theorem b9Z:OpR X (binaryOp .Mod) (rI (fun _ j=>0<j) fun i j=>.int (i % j)):=opI fun i j _ _ _ _ _ hc q=>by
 have h1:(0:Int)<j:=hc
 exact mod_int' (by omega) (by rw[Int.fmod_eq_emod_of_nonneg i (by omega)];exact q)
theorem b9Y:OpR X (binaryOp .Pow) (rI a8U fun i j=>.int (i ^ j.toNat)):=opI fun _ _ _ _ _ _ _ hc q=>pow_int_small hc.1 hc.2.1 hc.2.2 q
theorem unI{f:Value→Sem Value}{g:Int→Int}
  (rule:∀(i:Int) (t:Tok) (s:Shared) (Q:Value→Shared→Prop) (E:Value→Shared→Prop),Q (.int (g i) s.toks) { s with toks:=s.toks+1 }→wpAny (model X.prog X.w) X.A (f (.int i t)) Q E s) :
  UnR X f (rU fun i=>.int (g i)):=by
 intro pins s σ H x v Q I rx h
 obtain⟨i,rfl,q⟩:=h
 obtain⟨t,rfl⟩:=rx
 exact rule i t s _ _ ⟨.int (g i),H,I.tok _,⟨_,rfl⟩,q⟩
theorem b9f:UnR X (unaryOp .USub) (rU fun i=>.int (-i)):=unI fun _ _ _ _ _ q=>neg_int q
end
noncomputable def c1t:V→V→Bool
 | .non,.non=>true|.non,.int _=>true|.int _,.non=>true|.non,.bl _=>true|.bl _,.non=>true|.non,.str _=>true|.str _,.non=>true
 | .int _,.int _=>true|.bl _,.bl _=>true|.str _,.str _=>true|.byt _,.byt _=>true
 | .int _,.str _=>true|.str _,.int _=>true|.bl _,.str _=>true|.str _,.bl _=>true
 | _,_=>false
noncomputable def rEq:R2:=fun x y H Q=>c1t x y=true∧Q (.bl (decide (x=y))) H
noncomputable def rNe:R2:=fun x y H Q=>c1t x y=true∧Q (.bl (!decide (x=y))) H
theorem b1e{i j:Int}:decide (V.int i=V.int j)=(i == j):=by
 rw[c8D]
 simp
theorem a9L{i j:Bool}:decide (V.bl i=V.bl j)=(i == j):=by
 rw[c8D]
 simp
theorem b1d{i j:Str}:decide (V.str i=V.str j)=(i == j):=by
 rw[c8D]
 simp
theorem b1f{i j:Array UInt8}:decide (V.byt i=V.byt j)=(i.toList == j.toList):=by
 rw[c8D]
 cases i
 cases j
 simp
section
variable {X:Cx} {a b c:Expr} {ta tb tc:TE} {pos:Pos}
theorem u7{pins:List (Addr × Obj)}{σ:St}{H:Hp}{s:Shared}{Q:VK}{k k':Bool}(I:Inv X pins σ H s)(q:Q (.bl k) H)(e:k=k'):EP X pins σ Q (.bool k') s:=by
 subst e
 exact⟨.bl k,H,I,rfl,q⟩
theorem b8x:OpR X (compareOp .Eq) rEq:=by
 intro pins s σ H x y v u Q I rx ry h
 obtain⟨hs,q⟩:=h
 cases x with
 | non =>
  cases rx
  cases y with
  | non=>cases ry;exact PySem.EqNone.eq_none_none (u7 I q (by simp))
  | bl j=>cases ry;exact PySem.EqNone.eq_none_bool (u7 I q (by simp))
  | int j=>obtain⟨t',rfl⟩:=ry;exact PySem.EqNone.eq_none_int (u7 I q (by simp))
  | str j=>obtain⟨t',rfl⟩:=ry;exact PySem.EqNone.eq_none_str (u7 I q (by simp))
  | _=>exact absurd (show false=true from hs) c6S
 | bl i =>
  cases rx
  cases y with
  | non=>cases ry;exact PySem.EqNone.eq_bool_none (u7 I q (by simp))
  | bl j=>cases ry;exact eq_bool (u7 I q a9L)
  | str j=>obtain⟨t',rfl⟩:=ry;exact PySem.EqMixed.eq_bool_str (u7 I q (by simp))
  | _=>exact absurd (show false=true from hs) c6S
 | int i =>
  obtain⟨t,rfl⟩:=rx
  cases y with
  | non=>cases ry;exact PySem.EqNone.eq_int_none (u7 I q (by simp))
  | int j=>obtain⟨t',rfl⟩:=ry;exact eq_int (u7 I q b1e)
  | str j=>obtain⟨t',rfl⟩:=ry;exact PySem.EqMixed.eq_int_str (u7 I q (by simp))
  | _=>exact absurd (show false=true from hs) c6S
 | str i =>
  obtain⟨t,rfl⟩:=rx
  cases y with
  | non=>cases ry;exact PySem.EqNone.eq_str_none (u7 I q (by simp))
  | bl j=>cases ry;exact PySem.EqMixed.eq_str_bool (u7 I q (by simp))
  | int j=>obtain⟨t',rfl⟩:=ry;exact PySem.EqMixed.eq_str_int (u7 I q (by simp))
  | str j=>obtain⟨t',rfl⟩:=ry;exact eq_str (u7 I q b1d)
  | _=>exact absurd (show false=true from hs) c6S
 | byt i =>
  obtain⟨t,rfl⟩:=rx
  cases y with
  | byt j=>obtain⟨t',rfl⟩:=ry;exact PySem.W.eq_bytes (u7 I q b1f)
  | _=>exact absurd (show false=true from hs) c6S
 | _=>cases y<;>exact absurd (show false=true from hs) c6S
theorem b3V:OpR X (compareOp .NotEq) rNe:=by
 intro pins s σ H x y v u Q I rx ry h
 obtain⟨hs,q⟩:=h
 cases x with
 | non =>
  cases rx
  cases y with
  | non=>cases ry;exact PySem.EqNone.ne_none_none (u7 I q (by simp))
  | bl j=>cases ry;exact PySem.EqNone.ne_none_bool (u7 I q (by simp))
  | int j=>obtain⟨t',rfl⟩:=ry;exact PySem.EqNone.ne_none_int (u7 I q (by simp))
  | str j=>obtain⟨t',rfl⟩:=ry;exact PySem.EqNone.ne_none_str (u7 I q (by simp))
  | _=>exact absurd (show false=true from hs) c6S
 | bl i =>
  cases rx
  cases y with
  | non=>cases ry;exact PySem.EqNone.ne_bool_none (u7 I q (by simp))
  | bl j=>cases ry;exact ne_bool (u7 I q (congrArg not a9L))
  | str j=>obtain⟨t',rfl⟩:=ry;exact PySem.EqMixed.ne_bool_str (u7 I q (by simp))
  | _=>exact absurd (show false=true from hs) c6S
 | int i =>
  obtain⟨t,rfl⟩:=rx
  cases y with
  | non=>cases ry;exact PySem.EqNone.ne_int_none (u7 I q (by simp))
  | int j=>obtain⟨t',rfl⟩:=ry;exact ne_int (u7 I q (congrArg not b1e))
  | str j=>obtain⟨t',rfl⟩:=ry;exact PySem.EqMixed.ne_int_str (u7 I q (by simp))
  | _=>exact absurd (show false=true from hs) c6S
 | str i =>
  obtain⟨t,rfl⟩:=rx
  cases y with
  | non=>cases ry;exact PySem.EqNone.ne_str_none (u7 I q (by simp))
  | bl j=>cases ry;exact PySem.EqMixed.ne_str_bool (u7 I q (by simp))
  | int j=>obtain⟨t',rfl⟩:=ry;exact PySem.EqMixed.ne_str_int (u7 I q (by simp))
  | str j=>obtain⟨t',rfl⟩:=ry;exact ne_str (u7 I q (congrArg not b1d))
  | _=>exact absurd (show false=true from hs) c6S
 | byt i =>
  obtain⟨t,rfl⟩:=rx
  cases y with
  | byt j=>obtain⟨t',rfl⟩:=ry;exact PySem.W.ne_bytes (u7 I q (congrArg not b1f))
  | _=>exact absurd (show false=true from hs) c6S
 | _=>cases y<;>exact absurd (show false=true from hs) c6S
theorem c1F:OpR X (compareOp .Lt) (rI0 fun i j=>.bl (decide (i<j))):=b91 fun _ _ _ _ _ _ _ q=>lt_int q
theorem c1G:OpR X (compareOp .LtE) (rI0 fun i j=>.bl (decide (i≤j))):=b91 fun _ _ _ _ _ _ _ q=>le_int q
theorem c1H:OpR X (compareOp .Gt) (rI0 fun i j=>.bl (decide (j<i))):=b91 fun _ _ _ _ _ _ _ q=>gt_int q
theorem OpR.or{f:Value→Value→Sem Value}{r r':R2}(h:OpR X f r)(h':OpR X f r'):OpR X f (fun x y H Q=>r x y H Q∨r' x y H Q):=by
 intro pins s σ H x y v u Q I rx ry q
 rcases q with q|q
 ·exact h pins s σ H x y v u Q I rx ry q
 ·exact h' pins s σ H x y v u Q I rx ry q
theorem b4f(b:Expr){op:CmpOp}(h:op ≠ .In:=by decide)(h2:op ≠ .NotIn:=by decide):behindInMarks op b=false:=by
 have e1:(op == CmpOp.In)=false:=by cases op<;>first|rfl|exact absurd rfl h
 have e2:(op == CmpOp.NotIn)=false:=by cases op<;>first|rfl|exact absurd rfl h2
 cases b<;>simp[behindInMarks,e1,e2]
theorem b6S{op:CmpOp}{r:R2}(ho:OpR X (compareOp op) r)(ha:PE X a ta)(hb:PE X b tb)(hm:behindInMarks op b=false):PE X (.Compare a [op] [b] pos) (tOp r ta tb):=by
 intro pins s σ H Q I h
 exact wpAny_Compare1 (c0y ha hb I h fun v u s2 x y H2 I2 rx ry q=>ho pins s2 σ H2 x y v u Q I2 rx ry q) hm
noncomputable def c1i(t:TE):TT:=fun σ H Q=>t σ H fun x H'=>∃ k,x = .bl k∧Q k H'
theorem b6F{op:CmpOp}{r:R2}(ho:OpR X (compareOp op) r)(ha:PE X a ta)(hb:PE X b tb)(hm:behindInMarks op b=false):PT X (.Compare a [op] [b] pos) (c1i (tOp r ta tb)):=by
 intro pins s σ H Q I h
 refine wpAny_isTrue_Compare1 (thn (ha pins s σ H _ I h) fun v s1 ⟨x,H1,I1,r1,q1⟩=>thn (hb pins s1 σ H1 _ I1 q1) fun u s2 ⟨y,H2,I2,r2,q2⟩ =>
  thn (ho pins s2 σ H2 x y v u _ I2 r1 r2 q2) fun c s3 ⟨z,H3,I3,r3,k,e,q3⟩=>?_) hm
 subst e
 cases r3
 exact wpAny_truthy_bool ⟨H3,I3,q3⟩
theorem a6Q:(sizeLine:Nat)<2 ^ 63:=by rw[sizeLine_eq];decide
theorem a12{x:V}{us:List Value}(r:o8 [x] us):∃ u,us=[u]∧u0 x u:=by
 cases r with
 | cons r1 r2=>cases r2;exact⟨_,rfl,r1⟩
theorem b3j{x y:V}{us:List Value}(r:o8 [x,y] us):∃ u w',us=[u,w']∧u0 x u∧u0 y w':=by
 cases r with
 | cons r1 r2 =>
  cases r2 with
  | cons r3 r4=>cases r4;exact⟨_,_,rfl,r1,r3⟩
theorem b5c:C5 X (.builtin "abs") (fun xs H Q=>∃ i,xs=[.int i]∧Q (.int (if i<0 then -i else i)) H):=by
 intro pins s σ H xs us Q I r h
 obtain⟨i,rfl,q⟩:=h
 obtain⟨u,rfl,t,rfl⟩:=a12 r
 exact call_abs_int fun u tk=>⟨.int (if i<0 then -i else i),H,I.tok _,⟨_,rfl⟩,q⟩
theorem b2d(hc:X.calm=true):C5 X (.builtin "max") (fun xs H Q=>∃ i j,xs=[.int i,.int j]∧Q (.int (if j > i then j else i)) H):=by
 intro pins s σ H xs us Q I r h
 obtain⟨i,j,rfl,q⟩:=h
 obtain⟨u,w',rfl,⟨t,rfl⟩,⟨t',rfl⟩⟩:=b3j r
 refine max_two_ints (I.ok.hd hc) fun h' tk k=>⟨_,H,I.kept k,?_,q⟩
 by_cases hj:j > i
 ·rw[if_pos hj,if_pos hj];exact⟨_,rfl⟩
 ·rw[if_neg hj,if_neg hj];exact⟨_,rfl⟩
end
end L2
namespace L2
open PySem PySem.Spec PyProof.Rows
structure c0F(h:Heap)(x dx C:Addr)(mA:Str→Option Value):Prop where
 obj:h.get? x=some (PySem.W.instObj C dx)
 ns:h.Ns1 dx mA
 ne:dx≠x
theorem b1Q{h:Heap}{dx:Addr}{mA:Str→Option Value}(n:h.Ns1 dx mA):∃ od,h.get? dx=some od∧∀ name,PySem.W.lookIn name od=some (mA name):=by
 obtain⟨o,es,ep,ho,hd,hk,_,hm⟩:=n
 refine⟨o,ho,fun name=>?_⟩
 have e:=hm name
 unfold nsFind findBy at e
 rw[← Array.find?_toList]at e
 unfold PySem.W.lookIn
 rw[hd]
 dsimp only
 split
 ·rename_i y q
  rw[q]at e
  exact congrArg some e
 ·rename_i q
  rw[q]at e
  have a:es.toList.any (·.refKey)=false:=by
   rw[c8T]
   intro y hy
   obtain⟨z,t,hkey⟩:=hk y (Array.mem_toList_iff.mp hy)
   simp[DictEntry.refKey,hkey]
  have a':¬ es.toList.any (·.refKey)=true:=by rw[a];exact c6S
  rw[if_neg a']
  exact congrArg some e
theorem c0F.look{h:Heap}{x dx C:Addr}{mA:Str→Option Value}(I:c0F h x dx C mA):∃ od,PySem.W.InstAt h x (PySem.W.instObj C dx) C (some od)∧∀ name,PySem.W.lookIn name od=some (mA name) :=
 let ⟨od,ho,hl⟩:=b1Q I.ns
 ⟨od,⟨I.obj,rfl,rfl,ho⟩,hl⟩
section
variable {prog:Program} {w:World} {A:Around} {E:Value→Shared→Prop} {s:Shared} {K:c6v} {x dx C f:Addr} {mA:Str→Option Value} {name:Str} {v:Value}
end
section
variable {P:Program} {w:World} {H H':Hp} {h h':Heap} {a C dx:Addr} {fs fs':List (Str × V)}
theorem b7m(hok:HOk P w H h)(e:H a=some (.ins C dx fs)):∃ mA,c0F h a dx C mA∧(∀ f,c0E (fs.lookup f) (mA f))∧PySem.Within mA (fs.map (·.1))∧fs.length≤1000∧H dx=some (.own a):=by
 obtain⟨d,z,ne,ob,mA,n,r,q⟩:=(show D4 P w H h a (.ins C dx fs)from hok a _ e)
 exact⟨mA,⟨ob,n,ne⟩,r,q,z,d⟩
end
structure Cls(K:c6v)(C:Addr):Prop where
 pg:PySem.W.plainGet K C Str.empty=true
 hd:PySem.W.hasDictIn K C=true
 po:PySem.W.plainOver K C=true
 sa:PySem.W.findIn K (.ref C) "__setattr__" = some (some (.builtin "object.__setattr__"))
theorem Cls.get{K:c6v}{C:Addr}(c:Cls K C)(f:Str):PySem.W.plainGet K C f=true:=c.pg
section
variable {X:Cx} {pins:List (Addr × Obj)} {σ:St} {H:Hp} {s:Shared} {a C dx:Addr} {fs:List (Str × V)} {f:Str} {v:V} {A:Around} {E:Value→Shared→Prop}
end
section
variable {X:Cx} {o e value:Expr} {f:Str} {pos pos' tpos:Pos} {ta tv:TE}
end
section
variable {X:Cx} {pins:List (Addr × Obj)} {σ:St} {H:Hp} {s:Shared} {A:Around} {E:Value→Shared→Prop} {Q:Value→Shared→Prop} {c:Value} {b:Bool}
inductive a2l (K:c6v) (H:Hp):V→Value→Prop where
 | non:a2l K H .non (.type "NoneType")
 | bl (x:Bool):a2l K H (.bl x) (.type "bool")
 | int (i:Int):a2l K H (.int i) (.type "int")
 | str (x:Str):a2l K H (.str x) (.type "str")
 | flt (x:UInt64):a2l K H (.flt x) (.type "float")
 | lst {a:Addr} {xs:List V} (e:H a=some (.lst xs)):a2l K H (.ref a) (.type "list")
 | frz {a:Addr} {o:Obj} {xs:List V} (e:H a=some (.frz o (.lst xs))):a2l K H (.ref a) (.type "list")
 | tup {a:Addr} {xs:List V} (e:H a=some (.tup xs)):a2l K H (.ref a) (.type "tuple")
 | dK {a:Addr} {kvs:List (Key × V)} (e:H a=some (.dK kvs)):a2l K H (.ref a) (.type "dict")
 | dT {a:Addr} {kvs:List (List Key × V)} (e:H a=some (.dT kvs)):a2l K H (.ref a) (.type "dict")
 | ins {a C dx:Addr} {fs:List (Str × V)} (e:H a=some (.ins C dx fs)) (cl:Cls K C) (ha:PySem.W.findIn K (.ref C) "__class__" = some (some (.builtin "object.__class__")))
   (hn:PySem.W.specialIn K (.builtin "object.__class__") "__get__" = some (some (.builtin "getset_descriptor.__get__"))) (htk:PySem.W.takesIn K (.builtin "object.__class__")=some true)
   (hm:PySem.W.mroIn K C (.type "object")=some true):a2l K H (.ref a) (.ref C)
theorem P6{x:V}{u t:Value}(I:Inv X pins σ H s)(rx:u0 x u)(ty:a2l X.K H x t)(e:PySem.W.kitOne X.K t c=some b)(h:∀ tk,Q (.bool b) { s with toks:=tk }) :
  wpAny (model X.prog X.w) A (call (.builtin "isinstance") [u,c]) Q E s:=by
 cases ty with
 | non=>cases(show u=Value.none from rx);exact PySem.W.kia_one PySem.W.kitx_none I.kIn True.intro e (fun z=>nomatch z) h
 | bl y=>cases(show u=Value.bool y from rx);exact PySem.W.kia_one PySem.W.kitx_bool I.kIn True.intro e (fun z=>nomatch z) h
 | int i=>obtain⟨t,q⟩:=(show ∃ t,u=Value.int i t from rx);cases q;exact PySem.W.kia_one PySem.W.kitx_int I.kIn True.intro e (fun z=>nomatch z) h
 | str y=>obtain⟨t,q⟩:=(show ∃ t,u=Value.str y t from rx);cases q;exact PySem.W.kia_one PySem.W.kitx_str I.kIn True.intro e (fun z=>nomatch z) h
 | flt y=>obtain⟨t,q⟩:=(show ∃ t,u=Value.float y t from rx);cases q;exact PySem.W.kia_one PySem.W.kitx_float I.kIn True.intro e (fun z=>nomatch z) h
 | @lst a xs ea =>
  cases(show u=Value.ref a from rx)
  obtain⟨_,_,n,_,h1⟩:=(show D4 X.prog X.w H s.heap a (.lst xs)from I.hok a _ ea)
  exact PySem.W.kia_one PySem.W.kitx_list I.kIn ⟨_,h1,rfl⟩ e (fun z=>nomatch z) h
 | @frz a ob xs ea =>
  cases(show u=Value.ref a from rx)
  obtain⟨_,_,_,n,_,h1⟩:=(show D4 X.prog X.w H s.heap a (.frz ob (.lst xs))from I.hok a _ ea)
  exact PySem.W.kia_one PySem.W.kitx_list I.kIn ⟨_,h1,rfl⟩ e (fun z=>nomatch z) h
 | @tup a xs ea =>
  cases(show u=Value.ref a from rx)
  obtain⟨_,_,_,p⟩:=(show D4 X.prog X.w H s.heap a (.tup xs)from I.hok a _ ea)
  obtain⟨o,h1,h2,_⟩:=p
  exact PySem.W.kia_one PySem.W.kitx_tuple I.kIn ⟨o,h1,h2⟩ e (fun z=>nomatch z) h
 | @dK a kvs ea =>
  cases(show u=Value.ref a from rx)
  obtain⟨_,_,vs,_,p⟩:=(show D4 X.prog X.w H s.heap a (.dK kvs)from I.hok a _ ea)
  obtain⟨o,es,ep,h1,h2,_⟩:=p
  exact PySem.W.kia_one PySem.W.kitx_dict I.kIn ⟨o,h1,h2.1⟩ e (fun z=>nomatch z) h
 | @dT a kvs ea =>
  cases(show u=Value.ref a from rx)
  obtain⟨_,_,xs,_,o,es,ep,h1,h2,_⟩:=(show D4 X.prog X.w H s.heap a (.dT kvs)from I.hok a _ ea)
  exact PySem.W.kia_one PySem.W.kitx_dict I.kIn ⟨o,h1,h2.1⟩ e (fun z=>nomatch z) h
 | @ins a C dx fs ea cl ha hn htk hm =>
  cases(show u=Value.ref a from rx)
  obtain⟨mA,O,_⟩:=b7m I.hok ea
  obtain⟨od,J,_⟩:=O.look
  exact PySem.W.kia_one (PySem.W.kitx_own (cl.get _) cl.hd ha hn htk hm) I.kIn J e (fun z=>nomatch z) h
end
end L2
namespace L2
open PySem PySem.Spec PyProof.Rows
structure J7(k:Nat)(A:Around):Prop where
 hd:A.handled=none
 dp:A.depth+3*k+5<recursionLimit
 un:A.units+16*k+200<cLine
theorem J7.mono{j k:Nat}{A:Around}(r:J7 k A)(h:j≤k):J7 j A:=⟨r.hd,by have:=r.dp;omega,by have:=r.un;omega⟩
theorem J7.deeper{k:Nat}{A:Around}(r:J7 (k+1) A)(env:Env):J7 k (A.deeper env) :=
 ⟨r.hd,by have:=r.dp;show A.depth+1+3*k+5<_;omega,by have:=r.un;show A.units+3+16*k+200<_;omega⟩
theorem J7.in1{k:Nat}{A:Around}(r:J7 (k+1) A):J7 k A.in1 :=
 ⟨r.hd,by have:=r.dp;show A.depth+3*k+5<_;omega,by have:=r.un;show A.units+1+16*k+200<_;omega⟩
theorem J7.depth{k:Nat}{A:Around}(r:J7 k A):A.depth<recursionLimit:=by have:=r.dp;omega
theorem J7.units{k:Nat}{A:Around}(r:J7 k A):A.units+64<cLine:=by have:=r.un;omega
noncomputable def c2P:TA:=fun _ H Q=>Q [] H
noncomputable def c1p(ta:TE)(tr:TA):TA:=fun σ H Q=>ta σ H fun x H1=>tr σ H1 fun xs H2=>Q (x :: xs) H2
section
variable {X:Cx} {e:Expr} {es:List Expr} {te:TE} {t:TA} {pos:Pos}
theorem a6C:PA X [] c2P:=fun _ _ _ _ H Q I h=>Calls.spliced_nil ⟨[],H,I,.nil,h⟩
theorem a2D(ha:PE X e te)(hr:PA X es t)(hs:starEach (e :: es) X.env=(false,eval e X.env) :: starEach es X.env:=by rfl):PA X (e :: es) (c1p te t):=by
 intro pos pins s σ H Q I h
 rw[hs]
 show wpAny _ _ (spliced ((false,eval e X.env) :: backTo pos (starEach es X.env))) _ _ s
 refine Calls.spliced_cons (thn (ha pins s σ H _ I h) fun u s1 zz=>?_)
 obtain⟨x,H1,I1,r1,q1⟩:=zz
 exact thn (hr pos pins s1 σ H1 _ I1 q1) fun us s2 ⟨xs,H2,I2,r2,q2⟩=>⟨x :: xs,H2,I2,.cons r1 r2,q2⟩
noncomputable def c2K(t:TA):TE:=fun σ H Q=>t σ H fun xs H1=>xs.length≤sizeLine∧∀ p,H1 p=none→Q (.ref p) (upd H1 p (.tup xs))
noncomputable def c2Q(t:TA):TE:=fun σ H Q=>t σ H fun xs H1=>xs.length≤sizeLine∧∀ p,H1 p=none→Q (.ref p) (upd H1 p (.lst xs))
theorem b9O{x1}(h:PA X es t):PE X (.Tuple es x1 pos) (c2K t):=by
 intro pins s σ H Q I hq
 refine wpAny_Tuple_spliced (thn (h pos pins s σ H _ I hq) fun us s1 ⟨xs,H1,I1,r,z,q⟩=>⟨by rw[← r.length];exact z,?_⟩)
 have hf:H1 s1.heap.objs.size=none:=I1.hok.fresh (c6U _)
 refine⟨.ref s1.heap.objs.size,upd H1 s1.heap.objs.size (.tup xs),I1.laid (t':=s1.toks) (fun b u e=>c6y _ e) (c6U _) ?_,rfl,q _ hf⟩
 exact⟨z,us,r,⟨_,c6G _ rfl,rfl,_,rfl⟩⟩
theorem b3R(h:PA X es t):PE X (.List es pos) (c2Q t):=by
 intro pins s σ H Q I hq
 refine wpAny_List_spliced (thn (h pos pins s σ H _ I hq) fun us s1 ⟨xs,H1,I1,r,z,q⟩=>⟨by rw[← r.length];exact z,?_⟩)
 have hf:H1 s1.heap.objs.size=none:=I1.hok.fresh (c6U _)
 refine⟨.ref s1.heap.objs.size,upd H1 s1.heap.objs.size (.lst xs),I1.laid (t':=s1.toks) (fun b u e=>c6y _ e) (c6U _) ?_,rfl,q _ hf⟩
 exact⟨z,us,0,r,c6G _ rfl⟩
end
noncomputable abbrev Sp:=List V→Hp→VK→XK→Prop
noncomputable abbrev CXT:=List Env→Hp→Shared→XK→Value→Shared→Prop
structure a9V(P:Program)(w:World)(K:c6v)(mg:Str→Option Value)(base:Heap)(A:Around)(outer:List Env)(s:Shared)(H:Hp):Prop where
 frames:A.frames=some outer
 mod:Mod K mg base
 bs:∀ b o,base.get? b=some o→s.heap.get? b=some o∧H b=none
 bsz:base.objs.size≤s.heap.objs.size
 funs:s.heap.FunFrames base outer
 frf:∀ b∈frs outer,H b=none
 hok:HOk P w H s.heap
 bare:AllBare s.gens
noncomputable def CE(outer:List Env)(P:Program)(w:World)(H:Hp)(s:Shared)(Q:VK)(u:Value)(s':Shared):Prop :=
 ∃ v H',s'.os=s.os∧AllBare s'.gens∧Un (frs outer) [] H H' s.heap s'.heap∧HOk P w H' s'.heap∧u0 v u∧Q v H'
noncomputable def CR(CX:CXT)(outer:List Env)(P:Program)(w:World)(H:Hp)(s:Shared)(Q:VK)(E:XK)(r:Result)(s':Shared):Prop :=
 match r with
 | .ok (.ret u)=>CE outer P w H s Q u s'
 | .ok _=>False
 | .error e=>CX outer H s E e s'
structure U2(P:Program)(w:World)(K:c6v)(mg:Str→Option Value)(base:Heap)(CX:CXT)(k:Nat)(f:Addr)(fd:FuncData)(ps:List Str)(sp:Sp):Prop where
 len:∀ vs H Q E,sp vs H Q E→vs.length=ps.length
 run:∀(A:Around) (outer:List Env) (s:Shared) (H:Hp) (args:Args) (us:List Value) (vs:List V) (Q:VK) (E:XK),J7 k A→a9V P w K mg base A outer s H→BindsTo s fd args (ps.zip us)→o8 vs us→sp vs H Q E →
  codeAny (model P w) A (.call (.ref f) args) (CR CX outer P w H s Q E) s
theorem U2.mono{P:Program}{w:World}{K:c6v}{mg:Str→Option Value}{base:Heap}{CX:CXT}{j k:Nat}{f:Addr}{fd:FuncData}{ps:List Str}{sp:Sp}(F:U2 P w K mg base CX j f fd ps sp)(h:j≤k) :
  U2 P w K mg base CX k f fd ps sp:=⟨F.len,fun A outer s H args us vs Q E hr=>F.run A outer s H args us vs Q E (hr.mono h)⟩
theorem U2.imp{P:Program}{w:World}{K:c6v}{mg:Str→Option Value}{base:Heap}{CX:CXT}{k:Nat}{f:Addr}{fd:FuncData}{ps:List Str}{sp sp':Sp}(F:U2 P w K mg base CX k f fd ps sp)
  (h:∀ vs H Q E,sp' vs H Q E→sp vs H Q E):U2 P w K mg base CX k f fd ps sp' :=
 ⟨fun vs H Q E q=>F.len vs H Q E (h _ _ _ _ q),fun A outer s H args us vs Q E hr he hb hv hs=>F.run A outer s H args us vs Q E hr he hb hv (h _ _ _ _ hs)⟩
theorem a9V.in1{P:Program}{w:World}{K:c6v}{mg:Str→Option Value}{base:Heap}{A:Around}{outer:List Env}{s:Shared}{H:Hp}(e:a9V P w K mg base A outer s H) :
  a9V P w K mg base A.in1 outer s H:=⟨e.frames,e.mod,e.bs,e.bsz,e.funs,e.frf,e.hok,e.bare⟩
section
variable {X:Cx} {pins:List (Addr × Obj)} {σ:St} {H:Hp} {s s':Shared}
theorem Inv.env0(I:Inv X pins σ H s):a9V X.prog X.w X.K X.mg X.base X.A X.stack s H :=
 ⟨I.ok.frames,I.ok.mod,I.bs,c6D I.ok.bsz I.sz,I.stack,I.stkFree,I.hok,I.bare⟩
theorem Inv.after{Q:VK}{u:Value}(I:Inv X pins σ H s)(h:CE X.stack X.prog X.w H s Q u s'):EP X pins σ Q u s':=by
 obtain⟨v,H',os,bare,un,hok,r,q⟩:=h
 obtain⟨hh,g,d,t,os'⟩:=s'
 obtain rfl:os'=s.os:=os
 exact⟨v,H',I.call (h':=hh) (g':=g) (d':=d) (t':=t) (ch:=[]) un hok bare (fun b z=>absurd z (by simp)),r,q⟩
end
noncomputable def c1q(sp:Sp)(dvs:List V)(E:XK)(t:TA):TE:=fun σ H Q=>t σ H fun vs H1=>sp (vs++dvs) H1 Q E
noncomputable def a4c(K:c6v)(fd:FuncData)(ps:List Str)(ds:List Value):Prop :=
 ∀(s:Shared) (us:List Value),K.In s.heap→(us++ds).length=ps.length→BindsTo s fd ⟨us,[]⟩ (ps.zip (us++ds))
theorem a4c.all{K:c6v}{fd:FuncData}{ps:List Str}(h:∀ us:List Value,us.length=ps.length→bindArgs fd ⟨us,[]⟩=pure (ps.zip us)):a4c K fd ps []:=fun s us _ hl=>by
 rw[c7G]at hl ⊢
 exact .of_eq (h us hl)
noncomputable def a68(CX:CXT)(X:Cx)(E:XK):Prop:=∀(pins:List (Addr × Obj)) (σ:St) (H:Hp) (s:Shared) (e:Value) (s':Shared),Inv X pins σ H s→CX X.stack H s E e s'→X.xe e s'
section
variable {X:Cx} {CX:CXT} {k:Nat} {f C:Addr} {fd:FuncData} {ps:List Str} {sp:Sp} {dvs:List V} {ds:List Value} {E:XK} {x m:Str} {p pos apos:Pos} {e o:Expr} {es:List Expr} {ta:TE} {t:TA}
theorem b9t{pins:List (Addr × Obj)}{σ:St}{H:Hp}{s:Shared}{Q:VK}{us:List Value}{vs:List V}(F:U2 X.prog X.w X.K X.mg X.base CX k f fd ps sp)(hr:J7 k X.A)(hb:a4c X.K fd ps ds)(hd:o8 dvs ds)(hx:a68 CX X E)
  (I:Inv X pins σ H s) (r:o8 vs us) (h:sp (vs++dvs) H Q E):wpAny (model X.prog X.w) X.A (call (.ref f) us) (EP X pins σ Q) X.xe s:=by
 have r2:o8 (vs++dvs) (us++ds):=r.append hd
 have hl:(us++ds).length=ps.length:=by rw[← r2.length];exact F.len _ _ _ _ h
 refine wpAny_call (codeAny_mono (F.run X.A X.stack s H ⟨us,[]⟩ (us++ds) (vs++dvs) Q E hr I.env0 (hb s us I.kIn hl) r2 h) fun r s' hq=>?_)
 cases r with
 | error e=>exact hx pins σ H s e s' I hq
 | ok fl =>
  cases fl with
  | ret u=>exact I.after hq
  | next=>exact False.elim hq
  | brk=>exact False.elim hq
  | cont=>exact False.elim hq
theorem b6T(F:U2 X.prog X.w X.K X.mg X.base CX k f fd ps sp)(hr:J7 k X.A)(hg:Gl X x)(hm:X.mg x=some (.ref f))(hk:PySem.W.keepIn X.K (.ref f)=true)(hb:a4c X.K fd ps ds)(hd:o8 dvs ds)(hx:a68 CX X E)
  (ha:PA X (e :: es) t) (hdb:(x == ("__debug__" : Str))=false:=by decide) (he:starEach (e :: es) X.env=(false,eval e X.env) :: starEach es X.env:=by rfl) (hpl:(backTo pos (starEach es X.env)).any (·.1)=false:=by rfl) :
  PE X (.Call (.Name x p) (e :: es) [] pos) (c1q sp dvs E t):=by
 intro pins s σ H Q I h
 refine wpAny_Call_Name_kw (b02 I hg hm ?_ hdb)
 refine PySem.W.callWith_K (h₀:=X.base) I.ok.mod.kin hk (thn (ha pos pins s σ H _ I h) fun us s1 ⟨vs,H1,I1,r,q⟩=>⟨I1.kIn,?_⟩) he hpl
 exact b9t F hr hb hd hx I1 r q
end
section
variable {X:Cx} {CX:CXT} {k:Nat} {f C:Addr} {fd:FuncData} {ps ks:List Str} {sp:Sp} {E:XK} {x m:Str} {p pos apos kpos:Pos} {e o:Expr} {es:List Expr} {kws:List Keyword} {te ta:TE} {t tk:TA} {nm:Option Str}
variable {g:List Value→List Value→List Value} {gV:List V→List V→List V}
end
structure f8(N P:List Str)(sc:Scope):Prop where
 kind:sc.kind = .function
 co:sc.isCoroutine=false
 gen:sc.isGenerator=false
 nd:N.Nodup
 pre:N.take P.length=P
 par:∀ x∈P,sc.names.lookup x=some .local∨sc.names.lookup x=some .cell
 nofree:∀ y∈sc.names,y.2 ≠ .free
theorem a5O{kindOf:Str→Option NameKind}{x:Str}:∀{binds:List (Str × Value)} {m:Str→Option Value},(∀ v,(x,v)∉binds)→bindL kindOf binds m x=m x
 | [],_,_=>rfl
 | (n,v) :: r,m,h=>by
  unfold bindL
  rw[a5O fun w hw=>h w (c6Y _ hw)]
  split
  ·have:x≠n:=by rintro rfl;exact h v c7j
   simp[this]
  ·rfl
theorem a5Q{kindOf:Str→Option NameKind}{x:Str}:∀{binds:List (Str × Value)} {m:Str→Option Value},(∀ v,(x,v)∉binds)→bindC kindOf binds m x=m x
 | [],_,_=>rfl
 | (n,v) :: r,m,h=>by
  unfold bindC
  rw[a5Q fun w hw=>h w (c6Y _ hw)]
  split
  ·rfl
  ·have:x≠n:=by rintro rfl;exact h v c7j
   simp[this]
theorem a5P{kindOf:Str→Option NameKind}{x:Str}{v:Value}:∀{P:List Str} {vs:List Value} {i:Nat} {m:Str→Option Value},P.Nodup→P[i]? = some x→vs[i]? = some v→kindOf x=some .local →
  bindL kindOf (P.zip vs) m x=some v
 | [],_,_,_,_,h,_,_=>by simp at h
 | _ :: _,[],_,_,_,_,h,_=>by simp at h
 | p :: P,w :: vs,0,m,nd,h1,h2,hk=>by
  simp at h1 h2;subst h1;subst h2
  show bindL kindOf ((p,w) :: P.zip vs) m p=_
  unfold bindL
  rw[a5O fun v hv=>(c8E.mp nd).1 (c8F hv).1,if_pos hk]
  simp
 | p :: P,w :: vs,i+1,m,nd,h1,h2,hk=>by
  show bindL kindOf ((p,w) :: P.zip vs) m x=_
  unfold bindL
  exact a5P (i:=i) (c8E.mp nd).2 (by simpa using h1) (by simpa using h2) hk
theorem a5R{kindOf:Str→Option NameKind}{x:Str}{v:Value}:∀{P:List Str} {vs:List Value} {i:Nat} {m:Str→Option Value},P.Nodup→P[i]? = some x→vs[i]? = some v→kindOf x≠some .local →
  bindC kindOf (P.zip vs) m x=some v
 | [],_,_,_,_,h,_,_=>by simp at h
 | _ :: _,[],_,_,_,_,h,_=>by simp at h
 | p :: P,w :: vs,0,m,nd,h1,h2,hk=>by
  simp at h1 h2;subst h1;subst h2
  show bindC kindOf ((p,w) :: P.zip vs) m p=_
  unfold bindC
  rw[a5Q fun v hv=>(c8E.mp nd).1 (c8F hv).1,if_neg hk]
  simp
 | p :: P,w :: vs,i+1,m,nd,h1,h2,hk=>by
  show bindC kindOf ((p,w) :: P.zip vs) m x=_
  unfold bindC
  exact a5R (i:=i) (c8E.mp nd).2 (by simpa using h1) (by simpa using h2) hk
noncomputable def start(N:List Str)(vs:List V):St:=vs.map some++c7b (N.length - vs.length) none
noncomputable def a9O(CX:CXT)(P:Program)(w:World)(K:c6v)(mg:Str→Option Value)(base:Heap)(N:List Str)(qual:Str)(scope:Scope)(f:Addr)(cd:Value)(A:Around)(outer:List Env)(s:Shared)(H:Hp)(E:XK):Cx where
 prog:=P
 w:=w
 K:=K
 mg:=mg
 base:=base
 A:=A.deeper (envOfC qual scope s.heap.objs.size f cd)
 N:=N
 s₀:=s
 H₀:=H
 env:=envOfC qual scope s.heap.objs.size f cd
 outer:=outer
 stack:=envOfC qual scope s.heap.objs.size f cd :: outer
 ex:=[]
 calm:=true
 fn:=fun _=>true
 pn:=[]
 xe:=fun e s'=>wpAny (model P w) (A.deeper (envOfC qual scope s.heap.objs.size f cd)) (leaving (envOfC qual scope s.heap.objs.size f cd) e) (fun _ s''=>CX outer H s E e s'') (fun e' s''=>CX outer H s E e' s'') s'
theorem a8I{sc:Scope}{n:Nat}{x:Str}(h:sc.names.lookup x=some .cell):∃ c,(cellsFrom n sc.names []).lookup x=some c:=by
 have q:=PySem.W.cellsFrom_some sc.names n [] (.inl h)
 exact Option.isSome_iff_exists.mp q
theorem b1S{CX:CXT}{P:Program}{w:World}{K:c6v}{mg:Str→Option Value}{base:Heap}{N ps:List Str}{qual:Str}{scope:Scope}{f:Addr}{cd:Value}{A:Around}{outer:List Env}{s s1:Shared}{H:Hp}{E:XK}{us:List Value}{vs:List V}
  (S:f8 N ps scope) (hd:A.handled=none) (e0:a9V P w K mg base A outer s H) (hl:vs.length=ps.length) (r:o8 vs us)
  (x:InCallC s s.heap.objs.size (bindL (envOfC qual scope s.heap.objs.size f cd).kindOf (ps.zip us) fun _=>none) (cellsFrom (s.heap.objs.size+1) scope.names []) (bindC (envOfC qual scope s.heap.objs.size f cd).kindOf (ps.zip us) fun _=>none) s1) :
  Inv (a9O CX P w K mg base N qual scope f cd A outer s H E) [] (start N vs) H s1:=by
 have hpl:ps.length≤N.length:=by have:=congrArg c9k S.pre;rw[c7p]at this;omega
 obtain⟨h1,tk,rfl,hk⟩:=x.done
 have noA:∀ b:Addr,b∉(a9O CX P w K mg base N qual scope f cd A outer s H E).ex:=fun b z=>absurd (show b∈([]:List Addr)from z) (by simp)
 refine⟨⟨e0.mod,S.kind,rfl,rfl,c6U _,fun y z c h1 h2=>?_,fun y hy=>?_,fun y c _ h=>?_,fun _=>hd,Around.frames_deeper e0.frames,.inr ⟨rfl,rfl⟩,fun b z=>absurd z (noA b),e0.bs,e0.bsz,fun b _ _=>noA b,fun b z=>absurd z (noA b),e0.funs,e0.frf⟩,
  rfl,e0.bare,Un.kept hk,⟨_,x.toInCall.ns,fun i y v h1 h2 h3=>?_⟩,fun y c h=>⟨_,x.cell y c h⟩,e0.hok.fresh (c6U _),fun y c h=>?_,fun p hp=>absurd (show p∈([]:List (Addr × Obj))from hp) (by simp),e0.hok.kept hk,?_⟩
 ·exact name_of_addr x.apart (PySem.mem_of_lookup h1) (PySem.mem_of_lookup h2)
 ·have hy:scope.names.lookup y=some .cell∨scope.names.lookup y=some .free:=hy
  rcases hy with hy|hy
  ·exact a8I hy
  ·exact absurd rfl (S.nofree _ (PySem.mem_of_lookup hy))
 ·exact c8q (x.above y c (PySem.mem_of_lookup h))
 ·have hi:i<vs.length:=by
   unfold start at h2
   by_cases hi:i<vs.length
   ·exact hi
   ·rw[c77 (by simpa using hi)]at h2
    rw[c7N]at h2
    split at h2<;>cases h2
  have ha:vs[i]? = some v:=by
   unfold start at h2
   rw[c8b (by simpa using hi),c6K]at h2
   cases e:vs[i]? with
   | none=>rw[e]at h2;cases h2
   | some a=>rw[e]at h2;cases h2;rfl
  obtain⟨u,hu,rv⟩:=r.get ha
  have hp:ps[i]? = some y:=by
   rw[← S.pre,List.getElem?_take_of_lt (by omega)];exact h1
  have ndP:ps.Nodup:=by rw[← S.pre];exact S.nd.sublist (List.take_sublist _ _)
  refine⟨u,rv,?_⟩
  rcases S.par y (c6J hp)with k|k
  ·exact .inl ⟨k,a5P ndP hp hu k⟩
  ·obtain⟨c,e⟩:=a8I (n:=s.heap.objs.size+1) k
   refine .inr ⟨.inl k,c,e,?_⟩
   have q:=x.cell y c e
   rw[a5R ndP hp hu (by show scope.names.lookup y≠_;rw[k];decide)]at q
   exact q
 ·exact e0.hok.fresh (c8q (x.above y c (PySem.mem_of_lookup h)))
 ·unfold start
  show _=N.length
  rw[c6H,c6x,c8r]
  omega
theorem c2f{CX:CXT}{P:Program}{w:World}{K:c6v}{mg:Str→Option Value}{base:Heap}{k:Nat}{f:Addr}{name qual:Str}{params:Arguments}{body:List Stmt}{scope:Scope}{dV kV doc pm cdv ct oc:Value}{an od:Option Addr}
  {osl:Array (Option Value)} {N ps:List Str} {sp:Sp} (lk:K.lookup f=some ⟨oc,od,.func (PySem.W.fnOf name qual params body scope dV kV doc pm an cdv ct),osl⟩) (hcd:PySem.W.codeIn K cdv qual=true) (S:f8 N ps scope)
  (len:∀ vs H Q E,sp vs H Q E→vs.length=ps.length)
  (hbody:∀(A:Around) (outer:List Env) (s:Shared) (H:Hp) (vs:List V) (Q:VK) (E:XK),J7 k (A.deeper (envOfC qual scope s.heap.objs.size f cdv))→sp vs H Q E →
   ∃ t,PSs (a9O CX P w K mg base N qual scope f cdv A outer s H E) body t∧t { nx:=fun _ H'=>Q .non H',rt:=Q } (start N vs) H) :
  U2 P w K mg base CX (k+1) f (PySem.W.fnOf name qual params body scope dV kV doc pm an cdv ct) ps sp:=by
 refine⟨len,fun A outer s H args us vs Q E hr e0 hb r hsp=>?_⟩
 have hl:=len _ _ _ _ hsp
 have KX:K.In s.heap:=e0.mod.kin.keeps fun b o e=>(e0.bs b o e).1
 have lim:s.heap.NoLimit:=e0.mod.nolimit.keeps fun b o e=>(e0.bs b o e).1
 have hkind:∀ y∈ps.zip us,scope.names.lookup y.1=some .local∨(scope.names.lookup y.1=some .cell∧((cellsFrom (s.heap.objs.size+1) scope.names []).lookup y.1).isSome=true):=fun⟨n,v⟩ hy=>by
  rcases S.par n (c8F hy).1 with q|q
  ·exact .inl q
  ·exact .inr ⟨q,PySem.W.cellsFrom_some _ _ _ (.inl q)⟩
 refine codeAny_call_function hr.depth (KX _ _ lk) rfl S.co S.gen rfl (PySem.W.codeRec_of KX hcd) (hb _ _ _ _ ?_)
 refine wpAny_newFunctionEnv_cells S.kind hkind fun env he s1 x=>?_
 subst he
 refine⟨lim.keeps x.toInCall.keep,codeAny_func ?_⟩
 obtain⟨t,ht,hq⟩:=hbody A outer s H vs Q E (hr.deeper _) hsp
 have I:Inv (a9O CX P w K mg base N qual scope f cdv A outer s H E) [] (start N vs) H s1:=b1S S hr.hd e0 hl r x
 refine wpAny_mono (ht [] s1 (start N vs) H _ I hq) (fun fl s' hs=>?_) fun e s' hs=>hs
 have fin:∀{σ':St} {H':Hp} {v:V} {u:Value},Inv (a9O CX P w K mg base N qual scope f cdv A outer s H E) [] σ' H' s'→u0 v u→Q v H'→CE outer P w H s Q u s' :=
  fun{σ' H' v u} J rv q=>⟨v,H',J.os,J.bare,J.base,J.hok,rv,q⟩
 cases fl with
 | ret u =>
  obtain⟨v,σ',H',J,rv,q⟩:=hs
  exact fin J rv q
 | next =>
  obtain⟨σ',H',J,q⟩:=hs
  exact fin (v:=V.non) (u:=Value.none) J rfl q
 | brk =>
  obtain⟨_,_,_,q⟩:=hs
  exact False.elim q
 | cont =>
  obtain⟨_,_,_,q⟩:=hs
  exact False.elim q
end L2
namespace L2
open PySem PySem.Spec PyProof.Rows
section
variable {X:Cx} {x:Str} {p pos:Pos} {e:Expr} {es:List Expr} {t:TA} {id T:String} {r:List V→Hp→VK→Prop}
noncomputable def tCB(r:List V→Hp→VK→Prop)(t:TA):TE:=fun σ H Q=>t σ H fun vs H1=>r vs H1 Q
theorem b3T(hc:C5 X (.builtin id) r)(hg:Gl X x)(hm:X.mg x=none)(hv:bootBuiltins x=some (.builtin id))(ha:PA X (e :: es) t)(hn:x ≠ "__name__" := by decide)(hdb:(x == ("__debug__" : Str))=false:=by decide)
  (he:starEach (e :: es) X.env=(false,eval e X.env) :: starEach es X.env:=by rfl) (hpl:(backTo pos (starEach es X.env)).any (·.1)=false:=by rfl):PE X (.Call (.Name x p) (e :: es) [] pos) (tCB r t):=by
 intro pins s σ H Q I h
 refine wpAny_Call_Name_kw (S6 I hg hm hv ?_ hn hdb)
 exact PyProof.Rows.callWith_builtin1 (thn (ha pos pins s σ H _ I h) fun us s1 ⟨vs,H1,I1,r1,q1⟩=>hc pins s1 σ H1 vs us Q I1 r1 q1) he hpl
theorem P5(hc:C5 X (.type T) r)(hg:Gl X x)(hm:X.mg x=none)(hv:bootBuiltins x=some (.type T))(ha:PA X (e :: es) t)(hn:x ≠ "__name__" := by decide)(hdb:(x == ("__debug__" : Str))=false:=by decide)
  (he:starEach (e :: es) X.env=(false,eval e X.env) :: starEach es X.env:=by rfl) (hpl:(backTo pos (starEach es X.env)).any (·.1)=false:=by rfl):PE X (.Call (.Name x p) (e :: es) [] pos) (tCB r t):=by
 intro pins s σ H Q I h
 refine wpAny_Call_Name_kw (S6 I hg hm hv ?_ hn hdb)
 exact PyProof.Rows.callWith_type1 (thn (ha pos pins s σ H _ I h) fun us s1 ⟨vs,H1,I1,r1,q1⟩=>hc pins s1 σ H1 vs us Q I1 r1 q1) he hpl
end
end L2
namespace HT
open PySem PyProof.Rows
section
open PySem.SeqAt
open PySem.AutoSeq1 (wpAny_loadPart')
open PySem.MeetsSeq PySem.MeetsSeq2 PySem.MeetsSeq3
end
section
variable {prog:Program} {w:World} {A:Around} {E:Value→Shared→Prop} {s:Shared}
noncomputable def sIx(n d:Nat):Option Int→Nat
 | none=>d
 | some v=>if v<0 then(v+(n:Int)).toNat else min v.toNat n
theorem b3D(n d:Nat):sIx n d none=d:=rfl
theorem b6z(n d k:Nat):sIx n d (some (k:Int))=min k n:=by
 show(if (k:Int)<0 then((k:Int)+(n:Int)).toNat else min (k:Int).toNat n)=min k n
 rw[if_neg (by omega),c7A]
theorem b9s(n d:Nat)(hd:d≤n)(o:Option Int):sIx n d o≤n:=by
 cases o with
 | none=>exact hd
 | some v =>
  show(if v<0 then(v+(n:Int)).toNat else min v.toNat n)≤n
  by_cases hv:v<0
  ·rw[if_pos hv];omega
  ·rw[if_neg hv];exact c82 _ _
theorem b1j(v:Int)(n d:Nat):(if v<0 then max (v+(n:Int)) 0 else min v (n:Int))=((sIx n d (some v):Nat):Int):=by
 show(if v<0 then max (v+(n:Int)) 0 else min v (n:Int))=(((if v<0 then(v+(n:Int)).toNat else min v.toNat n):Nat):Int)
 by_cases hv:v<0
 ·simp only[if_pos hv];omega
 ·simp only[if_neg hv];omega
theorem a9T(lo hi:Option Int)(n:Nat):Builtin.Slice.sliceAdjust lo hi 1 (n:Int)=(((sIx n 0 lo:Nat):Int),((sIx n n hi:Nat):Int)):=by
 have h1:¬ ((1:Int)<0):=by omega
 unfold Builtin.Slice.sliceAdjust
 simp only[h1,if_false]
 refine Prod.ext ?_ ?_
 ·cases lo with
  | none=>rfl
  | some v=>exact b1j v n 0
 ·cases hi with
  | none=>rfl
  | some v=>exact b1j v n n
theorem a9x(i j:Nat):Builtin.Slice.slicePlaces (i:Int) (j:Int) 1=j - i:=by
 unfold Builtin.Slice.slicePlaces
 have h1:(1:Int) > 0:=by omega
 simp only[h1,if_true,Int.ediv_one]
 split<;>omega
theorem a3j{v:Value}{o:Option Int}{Q:Option Int→Shared→Prop}(p:IsPart v o)(h:Q o s):wpAny (model prog w) A (Builtin.Slice.slicePartIndex v) Q E s:=by
 cases p with
 | none=>exact slicePart_none h
 | int i t=>exact slicePart_int h
theorem a1C{sl:Addr}{vl vu:Value}{lo hi:Option Int}{n:Nat}{Q:Int × Int × Nat→Shared→Prop}(hs:s.heap.IsSliceOf sl vl vu .none)(pl:IsPart vl lo)(pu:IsPart vu hi)
  (h:Q (((sIx n 0 lo:Nat):Int),1,sIx n n hi - sIx n 0 lo) s):wpAny (model prog w) A (Builtin.Slice.sliceApplied (.ref sl) (pure (n:Int))) Q E s:=by
 obtain⟨os,hos,hcs,hds⟩:=id hs
 unfold Builtin.Slice.sliceApplied Builtin.Slice.sliceFields
 refine c6u (c6u (wpAny_field hos hds (x:=vl) rfl (c6u (wpAny_field hos hds (x:=vu) rfl (c6u (wpAny_field hos hds (x:=.none) rfl (c6E ?_)))))))
 refine c6u (slicePart_none ?_)
 show wpAny _ _ (if ((1:Int) == 0)=true then _ else _) _ _ s
 rw[if_neg (by decide)]
 refine c6u (a3j pl (c6u (a3j pu (c6u (c6E ?_)))))
 show wpAny _ _ (match Builtin.Slice.sliceAdjust lo hi 1 (n:Int)with|(lo,hi)=>pure (lo,(1:Int),Builtin.Slice.slicePlaces lo hi 1)) _ _ s
 rw[a9T lo hi n]
 show wpAny _ _ (pure (((sIx n 0 lo:Nat):Int),(1:Int),Builtin.Slice.slicePlaces ((sIx n 0 lo:Nat):Int) ((sIx n n hi:Nat):Int) 1)) _ _ s
 rw[a9x]
 exact c6E h
theorem b3O(xs:Array Value)(i k:Nat):((c7U k).filterMap fun(m:Nat)=>xs[((i:Int)+(m:Int)*1).toNat]?).toArray=((xs.toList.drop i).take k).toArray:=by
 have e:(fun(m:Nat)=>xs[((i:Int)+(m:Int)*1).toNat]?)=fun m=>xs[i+m]?:=by
  funext m
  have:((i:Int)+(m:Int)*1).toNat=i+m:=by omega
  rw[this]
 rw[e]
 have:=pick_run xs i k
 rw[List.filterMap_map]at this
 have e2:((fun x=>xs[x]?) ∘ fun x=>i+x)=fun m=>xs[i+m]?:=rfl
 rw[e2]at this
 rw[this]
theorem a1r{t sl:Addr}{items:Array Value}{vl vu:Value}{lo hi:Option Int}{Q:Value→Shared→Prop}(ht:IsTup s.heap t items)(hs:s.heap.IsSliceOf sl vl vu .none)(pl:IsPart vl lo)(pu:IsPart vu hi)
  (hw:¬ (sIx items.size 0 lo=0∧sIx items.size items.size hi=items.size))
  (h:Q (.ref s.heap.objs.size) { s with heap:=s.heap.push { cls:=.type "tuple",data:=.seq ((items.toList.drop (sIx items.size 0 lo)).take (sIx items.size items.size hi - sIx items.size 0 lo)).toArray } })
  (hsz:items.size≤sizeLine):wpAny (model prog w) A (getItem (.ref t) (.ref sl)) Q E s:=by
 have htake:sizeOk (.seq ((items.toList.drop (sIx items.size 0 lo)).take (sIx items.size items.size hi - sIx items.size 0 lo)).toArray):=by
  show((items.toList.drop (sIx items.size 0 lo)).take (sIx items.size items.size hi - sIx items.size 0 lo)).toArray.size≤sizeLine
  rw[c6L,c7p,c7K,Array.length_toList]
  omega
 have hj:sIx items.size items.size hi≤items.size:=b9s _ _ (c6U _) hi
 obtain⟨os,hos,hcs,hds⟩:=id hs
 have hTs:s.TypeIs (.ref sl) "slice" := ⟨os,hos,hcs⟩
 unfold getItem
 try with_reducible refine wpAny_holding ?_
 first|refine c6u (c6E ?_)|skip
 refine c6u (wpAny_sequenceKey ht.typeIs (by decide) ?_)
 refine c6u (wpAny_callSpecial?_slot (name:=Str.ofString "__getitem__") ht.typeIs PyProof.Rows.slot_tuple_getitem
  (wpAny_call_entry PyProof.Rows.slot_tuple_getitem ht.typeIs entry_tuple_getitem ?_ (args_tuple_getitem _ _)))
 show wpAny _ _ (Builtin.Tuple.tupleItemsOf (.ref t) >>= _) _ _ s
 refine c6u (tupleItemsOf_ ht ?_)
 refine c6u (wpAny_typeOf hTs ?_)
 rw[if_pos (by decide)]
 refine c6u (a1C hs pl pu ?_)
 have hno:¬ ((((sIx items.size 0 lo:Nat):Int) == 0 && (1:Int) == 1 && (sIx items.size items.size hi - sIx items.size 0 lo) == items.size)=true):=by
  intro q
  rw[c8u,c8u]at q
  have q1:((sIx items.size 0 lo:Nat):Int)=0:=eq_of_beq q.1.1
  have q2:sIx items.size items.size hi - sIx items.size 0 lo=items.size:=eq_of_beq q.2
  exact hw ⟨by omega,by omega⟩
 show wpAny _ _ (if (((sIx items.size 0 lo:Nat):Int) == 0 && (1:Int) == 1 && (sIx items.size items.size hi - sIx items.size 0 lo) == items.size)=true then _ else _) _ _ s
 rw[if_neg hno,b3O]
 first
  | exact c6u (m:=Builtin.Tuple.tupleExact _) (wpAny_newObj_type (c6E ⟨_,rfl,c6E h⟩) htake)
  | exact c6u (m:=Builtin.Tuple.tupleExact _) (wpAny_newObj_type (c6u (c6E (c6E ⟨_,rfl,c6E h⟩))) htake)
  | exact c6u (c6u (m:=Builtin.Tuple.tupleExact _) (wpAny_newObj_type (c6E (c6E ⟨_,rfl,c6E h⟩)) htake))
  | exact c6u (c6u (m:=Builtin.Tuple.tupleExact _) (wpAny_newObj_type (c6E ⟨_,rfl,c6E h⟩) htake))
end
end HT
namespace L2
open PySem PySem.Spec PyProof.Rows
noncomputable abbrev TO:=St→Hp→(Option Int→Hp→Prop)→Prop
noncomputable def PO(X:Cx)(e:Option Expr)(t:TO):Prop :=
 ∀(pins:List (Addr × Obj)) (s:Shared) (σ:St) (H:Hp) (Q:Option Int→Hp→Prop),Inv X pins σ H s→t σ H Q →
  wpAny (model X.prog X.w) X.A (evalPart e X.env) (fun u s'=>∃ o H',Inv X pins σ H' s'∧IsPart u o∧Q o H') X.xe s
noncomputable def b6n:TO:=fun _ H Q=>Q none H
noncomputable def c1j(t:TE):TO:=fun σ H Q=>t σ H fun x H1=>∃ i,x = .int i∧Q (some i) H1
section
variable {X:Cx} {e:Expr} {te:TE} {lo hi:Option Expr} {tl th:TO} {pos p2:Pos}
theorem b6K:PO X none b6n:=by
 intro pins s σ H Q I h
 rw[evalPart_none]
 exact c6E ⟨none,H,I,.none,h⟩
theorem b6J(h:PE X e te):PO X (some e) (c1j te):=by
 intro pins s σ H Q I hw
 rw[evalPart_some]
 refine thn (h pins s σ H _ I hw) fun u s1 zz=>?_
 obtain⟨x,H1,I1,r1,q1⟩:=zz
 obtain⟨i,rfl,q⟩:=q1
 obtain⟨t,rfl⟩:=r1
 exact⟨some i,H1,I1,.int i t,q⟩
noncomputable def SlR(X:Cx)(r:V→Option Int→Option Int→Hp→VK→Prop):Prop :=
 ∀(pins:List (Addr × Obj)) (s:Shared) (σ:St) (H:Hp) (x:V) (v vl vu:Value) (lo hi:Option Int) (sl:Addr) (Q:VK),Inv X pins σ H s→u0 x v→s.heap.IsSliceOf sl vl vu .none→IsPart vl lo→IsPart vu hi→r x lo hi H Q →
  ∃ T id,typeLookup (.type T) "__getitem__" = pure (some (.builtin id))∧s.TypeIs v T∧wpAny (model X.prog X.w) X.A (getItem v (.ref sl)) (EP X pins σ Q) X.xe s
theorem SlR.or{r r':V→Option Int→Option Int→Hp→VK→Prop}(h:SlR X r)(h':SlR X r'):SlR X (fun x lo hi H Q=>r x lo hi H Q∨r' x lo hi H Q):=by
 intro pins s σ H x v vl vu lo hi sl Q I rx hs pl pu q
 rcases q with q|q
 ·exact h pins s σ H x v vl vu lo hi sl Q I rx hs pl pu q
 ·exact h' pins s σ H x v vl vu lo hi sl Q I rx hs pl pu q
noncomputable def tSl(r:V→Option Int→Option Int→Hp→VK→Prop)(te:TE)(tl th:TO):TE:=fun σ H Q=>te σ H fun x H1=>tl σ H1 fun l H2=>th σ H2 fun u H3=>r x l u H3 Q
theorem b3Q{r:V→Option Int→Option Int→Hp→VK→Prop}(hr:SlR X r)(he:PE X e te)(hl:PO X lo tl)(hu:PO X hi th):PE X (.Subscript e (.Slice lo hi none p2) pos) (tSl r te tl th):=by
 intro pins s σ H Q I h
 refine Subscript_ (thn (he pins s σ H _ I h) fun v s1 zz=>?_)
 obtain⟨x,H1,I1,r1,q1⟩:=zz
 refine wpAny_Slice (thn (hl pins s1 σ H1 _ I1 q1) fun vl s2 ⟨l,H2,I2,pl,q2⟩=>thn (hu pins s2 σ H2 _ I2 q2) fun vu s3 zz=>?_)
 obtain⟨u,H3,I3,pu,q3⟩:=zz
 rw[evalPart_none]
 refine c6E ?_
 have I4:Inv X pins σ H3 { s3 with heap:=s3.heap.push { cls:=.type "slice",data:=.fields #[vl,vu,.none] } }:=I3.kept (t':=s3.toks) fun b ob q=>c6y _ q
 obtain⟨T,id,hT,ht,hg⟩:=hr pins { s3 with heap:=s3.heap.push { cls:=.type "slice",data:=.fields #[vl,vu,.none] } } σ H3 x v vl vu l u s3.heap.objs.size Q I4 r1 (Heap.IsSliceOf.new ..) pl pu q3
 show wpAny (model X.prog X.w) X.A (subscriptTail e (.Slice lo hi none p2) v (.ref s3.heap.objs.size)) (EP X pins σ Q) X.xe { s3 with heap:=s3.heap.push { cls:=.type "slice",data:=.fields #[vl,vu,.none] } }
 exact tail_any (ops:=[.ref s3.heap.objs.size,v]) ht hT hg (by with_unfolding_all rfl)
noncomputable def a8B(xs:List V)(lo hi:Option Int):List V:=(xs.drop (HT.sIx xs.length 0 lo)).take (HT.sIx xs.length xs.length hi - HT.sIx xs.length 0 lo)
theorem a2a(xs:List V)(lo hi:Option Int):(a8B xs lo hi).length≤xs.length:=by
 unfold a8B
 rw[c7p,c7K]
 omega
noncomputable def c2W(K:c6v):V→Option Int→Option Int→Hp→VK→Prop:=fun x lo hi H Q=>∃ a xs,x = .ref a∧SqT K H a xs ∧
 ¬ (HT.sIx xs.length 0 lo=0∧HT.sIx xs.length xs.length hi=xs.length)∧∀ p,H p=none→Q (.ref p) (upd H p (.tup (a8B xs lo hi)))
theorem b9l:SlR X (c2W X.K):=by
 intro pins s σ H x v vl vu lo hi sl Q I rx hs pl pu h
 obtain⟨a,xs,rfl,hx,hw,q⟩:=h
 cases rx
 obtain⟨its,r,ht,hz⟩:=I.tuple hx
 have hlen:its.toArray.size=xs.length:=by rw[c6L];exact r.length.symm
 refine⟨"tuple",_,PyProof.Rows.slot_tuple_getitem.lookup,ht.typeIs,?_⟩
 refine HT.a1r ht hs pl pu (by rw[hlen];exact hw) ?_ (by rw[hlen];exact hz)
 rw[hlen]
 refine⟨.ref s.heap.objs.size,_,I.laid (t':=s.toks) (o:=.tup (a8B xs lo hi)) (fun b ob q=>c6y _ q) (c6U _) ?_,rfl,q _ (I.hok.fresh (c6U _))⟩
 exact⟨c6D (a2a xs lo hi) hz,_,(r.drop (HT.sIx xs.length 0 lo)).take (HT.sIx xs.length xs.length hi - HT.sIx xs.length 0 lo),IsTup.new _ _⟩
end
end L2
namespace L2
open PySem PySem.Spec PyProof.Rows
noncomputable def ixN(n:Nat)(i:Int):Option Nat:=if 0≤i then(if i<n then some i.toNat else none)else if -(n:Int)≤i then some (i+n).toNat else none
noncomputable def atI{α:Type}(xs:List α)(i:Int):Option α:=(ixN xs.length i).bind fun j=>xs[j]?
theorem b03{n:Nat}{i:Int}{j:Nat}(h:ixN n i=some j):seqIndex? i n=some j∧j<n∧-(n:Int)≤i∧i<n:=by
 unfold ixN at h
 by_cases h0:0≤i
 ·rw[if_pos h0]at h
  by_cases h1:i<n
  ·rw[if_pos h1]at h
   have e:i.toNat=j:=Option.some.inj h
   exact⟨by rw[seqIndex_of h0 h1,e],by omega,by omega,h1⟩
  ·rw[if_neg h1]at h;cases h
 ·rw[if_neg h0]at h
  by_cases h1:-(n:Int)≤i
  ·rw[if_pos h1]at h
   have e:(i+n).toNat=j:=Option.some.inj h
   exact⟨by rw[seqIndex_neg (by omega) h1,e],by omega,h1,by omega⟩
  ·rw[if_neg h1]at h;cases h
theorem b1l{α:Type}{xs:List α}{i:Int}{v:α}(h:atI xs i=some v):∃ j,seqIndex? i xs.length=some j∧xs[j]? = some v∧j<xs.length∧-(xs.length:Int)≤i∧i<xs.length:=by
 unfold atI at h
 cases e:ixN xs.length i with
 | none=>rw[e]at h;cases h
 | some j =>
  rw[e]at h
  obtain⟨h1,h2,h3,h4⟩:=b03 e
  exact⟨j,h1,h,h2,h3,h4⟩
noncomputable def a67(b:Expr):Prop:=∀ o i,subscripted b false o i=operate [o,i] (getItem o i)
noncomputable def IxR(X:Cx)(r:R2):Prop :=
 ∀(value slice:Expr) (pins:List (Addr × Obj)) (s:Shared) (σ:St) (H:Hp) (x y:V) (v u:Value) (Q:VK),Inv X pins σ H s→u0 x v→u0 y u→r x y H Q →
  subscripted slice false v u=operate [v,u] (getItem v u)→wpAny (model X.prog X.w) X.A (subscriptTail value slice v u) (EP X pins σ Q) X.xe s
noncomputable def MtR(X:Cx)(id:String)(r:V→List V→Hp→VK→Prop):Prop :=
 ∀(pins:List (Addr × Obj)) (s:Shared) (σ:St) (H:Hp) (x:V) (xs:List V) (v:Value) (us:List Value) (Q:VK),Inv X pins σ H s→u0 x v→o8 xs us→r x xs H Q →
  wpAny (model X.prog X.w) X.A (call (.builtin id) (v :: us)) (EP X pins σ Q) X.xe s
section
variable {X:Cx} {a b:Expr} {ta tb:TE} {pos:Pos}
theorem IxR.or{r r':R2}(h:IxR X r)(h':IxR X r'):IxR X (fun x y H Q=>r x y H Q∨r' x y H Q):=by
 intro value slice pins s σ H x y v u Q I rx ry q hs
 rcases q with q|q
 ·exact h value slice pins s σ H x y v u Q I rx ry q hs
 ·exact h' value slice pins s σ H x y v u Q I rx ry q hs
theorem MtR.or{id:String}{r r':V→List V→Hp→VK→Prop}(h:MtR X id r)(h':MtR X id r'):MtR X id (fun x xs H Q=>r x xs H Q∨r' x xs H Q):=by
 intro pins s σ H x xs v us Q I rx rs q
 rcases q with q|q
 ·exact h pins s σ H x xs v us Q I rx rs q
 ·exact h' pins s σ H x xs v us Q I rx rs q
theorem c1B{r:R2}(hr:IxR X r)(ha:PE X a ta)(hb:PE X b tb)(hs:a67 b):PE X (.Subscript a b pos) (tOp r ta tb):=by
 intro pins s σ H Q I h
 exact Subscript_ (c0y ha hb I h fun v u s2 x y H2 I2 rx ry q=>hr a b pins s2 σ H2 x y v u Q I2 rx ry q (hs _ _))
noncomputable def c3a(K:c6v):R2:=fun x y H Q=>∃ p xs i v,x = .ref p∧y = .int i∧SqL K H p xs∧atI xs i=some v∧Q v H
noncomputable def c2Z(K:c6v):R2:=fun x y H Q=>∃ p xs i v,x = .ref p∧y = .int i∧SqT K H p xs∧atI xs i=some v∧Q v H
theorem b7l:IxR X (c3a X.K):=by
 intro value slice pins s σ H x y v u Q I rx ry h hs
 obtain⟨p,xs,i,z,rfl,rfl,hq,he,q⟩:=h
 cases rx
 obtain⟨t,rfl⟩:=ry
 obtain⟨its,r,pl,hz⟩:=I.list hq
 obtain⟨j,h1,h2,h3,h4,h5⟩:=b1l he
 obtain⟨w,ew,rw'⟩:=r.get h2
 have hl:=r.length
 have hn:=a6Q
 have fin:EP X pins σ Q w s:=⟨z,H,I,rw',q⟩
 by_cases h0:0≤i
 ·have hj:i.toNat=j:=by
   rw[seqIndex_of h0 h5]at h1
   exact Option.some.inj h1
  exact item_listR pl.isList h0 (by omega) (by rw[hj];simpa using ew) fin hs
 ·have hj:(i+(its.toArray.size:Int)).toNat=j:=by
   rw[seqIndex_neg (by omega) h4]at h1
   rw[c6L,← hl]
   exact Option.some.inj h1
  exact subscriptTail_builtinR (x:=w) pl.isList.typeIs slot_list_getitem.lookup
   (wpAny_getItem_list_neg (Q:=fun r s'=>r=w∧EP X pins σ Q r s') pl.isList (by omega) (by rw[c6L]<;>omega) (by omega) (by rw[hj];simpa using ew) ⟨rfl,fin⟩) hs
theorem c0f:IxR X (c2Z X.K):=by
 intro value slice pins s σ H x y v u Q I rx ry h hs
 obtain⟨p,xs,i,z,rfl,rfl,hq,he,q⟩:=h
 cases rx
 obtain⟨t,rfl⟩:=ry
 obtain⟨its,r,pl,hz⟩:=I.tuple hq
 obtain⟨j,h1,h2,h3,h4,h5⟩:=b1l he
 obtain⟨w,ew,rw'⟩:=r.get h2
 have hl:=r.length
 have hn:=a6Q
 have fin:EP X pins σ Q w s:=⟨z,H,I,rw',q⟩
 exact subscriptTail_builtinR (x:=w) pl.typeIs slot_tuple_getitem.lookup
  (getItem_tuple (j:=j) (Q:=fun r s'=>r=w∧EP X pins σ Q r s') pl (by omega) (by omega) (by rw[c6L,← hl];exact h1) (by simpa using ew) ⟨rfl,fin⟩) hs
theorem a9H(its:List Value)(n j:Nat)(u:Value):Obj.mapSeq (·.setIfInBounds j u) { cls:=.type "list",data:=.seq its.toArray n } = { cls:=.type "list",data:=.seq (its.set j u).toArray n }:=by
 simp[Obj.mapSeq]
theorem Inv.lst{pins:List (Addr × Obj)}{σ:St}{H:Hp}{s:Shared}{p:Addr}{xs:List V}(I:Inv X pins σ H s)(h:H p=some (.lst xs)) :
  ∃(its:List Value) (n:Nat),o8 xs its∧s.heap.get? p=some { cls:=.type "list",data:=.seq its.toArray n }∧xs.length≤sizeLine:=by
 obtain⟨z,its,n,r,e⟩:=I.hok p _ h
 exact⟨its,n,r,e,z⟩
theorem Inv.lstUpd{pins:List (Addr × Obj)}{σ:St}{H:Hp}{s:Shared}{p:Addr}{xs ys:List V}{its its':List Value}{n n':Nat}{f:Obj→Obj}(I:Inv X pins σ H s)(h:H p=some (.lst xs))
  (ho:s.heap.get? p=some { cls:=.type "list",data:=.seq its.toArray n }) (hf:f { cls:=.type "list",data:=.seq its.toArray n } = { cls:=.type "list",data:=.seq its'.toArray n' }) (r:o8 ys its') (hz:ys.length≤sizeLine) (t:Nat) :
  Inv X pins σ (upd H p (.lst ys)) { s with heap:=s.heap.update p f,toks:=t }:=by
 have e:(s.heap.update p f).get? p=some { cls:=.type "list",data:=.seq its'.toArray n' }:=by
  rw[c7n f ho (by rw[hf]<;>rfl),hf]
 refine I.write (x:=p) (e:=p) (by rw[h];trivial) (.inl rfl) (fun b u hb q=>(c7l _ _ (Ne.symm hb)).trans q) ⟨_,e⟩ ?_
 exact⟨hz,its',n',r,e⟩
noncomputable def c1w:V→V→V→Hp→(Hp→Prop)→Prop:=fun o i v H Q=>∃ p xs k j,o = .ref p∧i = .int k∧H p=some (.lst xs)∧ixN xs.length k=some j∧Q (upd H p (.lst (xs.set j v)))
theorem b3u:c2B X c1w:=by
 intro pins s σ H o i v ov iv u Q I ro ri rv h
 obtain⟨p,xs,k,j,rfl,rfl,hp,hj,q⟩:=h
 cases ro
 obtain⟨t,rfl⟩:=ri
 obtain⟨its,n,r,ho,hz⟩:=I.lst hp
 obtain⟨h1,h2,h3,h4⟩:=b03 hj
 have hl:=r.length
 have hn:=a6Q
 have I':Inv X pins σ (upd H p (.lst (xs.set j v))) { s with heap:=s.heap.update p (Obj.mapSeq (·.setIfInBounds j u)) } :=
  I.lstUpd hp ho (a9H its n j u) (r.set rv j) (by rw[c8G];exact hz) s.toks
 by_cases h0:0≤k
 ·have hk:k.toNat=j:=by
   rw[seqIndex_of h0 h4]at h1
   exact Option.some.inj h1
  exact PySem.W.ki_setAt ho h0 (by omega) (by rw[c6L,← hl];exact h4) (by rw[hk];exact⟨_,I',q⟩)
 ·have hk:(k+(its.toArray.size:Int)).toNat=j:=by
   rw[seqIndex_neg (by omega) h3]at h1
   rw[c6L,← hl]
   exact Option.some.inj h1
  exact PySem.W.ki_setBack ho (by omega) (by rw[c6L,← hl];exact h3) (by omega) (by rw[hk];exact⟨_,I',q⟩)
theorem a5X(lo hi:Option Int)(n:Nat):(sliceBounds lo hi none n).1=((HT.sIx n 0 lo:Nat):Int)∧(sliceBounds lo hi none n).2.1=((HT.sIx n n hi:Nat):Int)∧(sliceBounds lo hi none n).2.2=1:=by
 refine⟨?_,?_,rfl⟩
 ·cases lo with
  | none=>simp[sliceBounds,HT.sIx]
  | some i =>
   simp only[sliceBounds,HT.sIx,c9M,show(1:Int) > 0 by decide,if_true]
   by_cases h:i<0
   ·simp only[h,if_true]<;>omega
   ·simp only[h,if_false]<;>omega
 ·cases hi with
  | none=>simp[sliceBounds,HT.sIx]
  | some i =>
   simp only[sliceBounds,HT.sIx,c9M,show(1:Int) > 0 by decide,if_true]
   by_cases h:i<0
   ·simp only[h,if_true]<;>omega
   ·simp only[h,if_false]<;>omega
theorem a4e(its:List Value)(lo hi:Option Int):slicePick its.toArray lo hi none=((its.drop (HT.sIx its.length 0 lo)).take (HT.sIx its.length its.length hi - HT.sIx its.length 0 lo)).toArray:=by
 obtain⟨h1,h2,h3⟩:=a5X lo hi its.toArray.size
 unfold slicePick
 rw[h1,h2,h3]
 simp only[sliceRange_one,pick_run,c6L]<;>rfl
noncomputable def c2X(K:c6v):V→Option Int→Option Int→Hp→VK→Prop:=fun x lo hi H Q=>∃ a xs,x = .ref a∧SqL K H a xs∧∀ p,H p=none→Q (.ref p) (upd H p (.lst (a8B xs lo hi)))
theorem b6q:SlR X (c2X X.K):=by
 intro pins s σ H x v vl vu lo hi sl Q I rx hs pl pu h
 obtain⟨a,xs,rfl,hx,q⟩:=h
 cases rx
 obtain⟨its,r,ht,hz⟩:=I.list hx
 have hlen:=r.length
 refine⟨"list",_,slot_list_getitem.lookup,ht.isList.typeIs,?_⟩
 refine wpAny_getItem_list_slice ht.isList hs pl pu .none (by simp) ?_ (by rw[c6L]<;>omega)
 rw[a4e,← hlen]
 refine⟨.ref s.heap.objs.size,_,I.laid (t':=s.toks) (o:=.lst (a8B xs lo hi)) (fun b ob q=>c6y _ q) (c6U _) ?_,rfl,q _ (I.hok.fresh (c6U _))⟩
 exact⟨c6D (a2a xs lo hi) hz,_,0,(r.drop (HT.sIx xs.length 0 lo)).take (HT.sIx xs.length xs.length hi - HT.sIx xs.length 0 lo),c6G _ rfl⟩
theorem a64:C5 X (.builtin "len") (fun xs H Q=>∃ p ys,xs=[.ref p]∧(SqL X.K H p ys∨SqT X.K H p ys)∧Q (.int ys.length) H):=by
 intro pins s σ H xs us Q I r h
 obtain⟨p,ys,rfl,hq,q⟩:=h
 obtain⟨u,rfl,rx⟩:=a12 r
 cases rx
 have hn:=a6Q
 rcases hq with hq|hq
 ·obtain⟨its,r',pl,hz⟩:=I.list hq
  have hlen:=r'.length
  exact Calls.call_len_list pl.isList (by simp only[c6L]<;>omega) ⟨.int ys.length,H,I.tok _,⟨s.toks+1,by rw[c6L,hlen]⟩,q⟩
 ·obtain⟨its,r',pl,hz⟩:=I.tuple hq
  have hlen:=r'.length
  exact len_tuple pl (by simp only[c6L]<;>omega) ⟨.int ys.length,H,I.tok _,⟨s.toks+1,by rw[c6L,hlen]⟩,q⟩
theorem C5.or{f:Value}{r r':List V→Hp→VK→Prop}(h:C5 X f r)(h':C5 X f r'):C5 X f (fun xs H Q=>r xs H Q∨r' xs H Q):=by
 intro pins s σ H xs us Q I rs q
 rcases q with q|q
 ·exact h pins s σ H xs us Q I rs q
 ·exact h' pins s σ H xs us Q I rs q
theorem a1v:C5 X (.type "list") (fun xs H Q=>∃ p ys,xs=[.ref p]∧(SqL X.K H p ys∨SqT X.K H p ys)∧∀ l,H l=none→Q (.ref l) (upd H l (.lst ys))):=by
 intro pins s σ H xs us Q I r h
 obtain⟨p,ys,rfl,hq,q⟩:=h
 obtain⟨u,rfl,rx⟩:=a12 r
 cases rx
 have fin:∀(its:List Value),o8 ys its→ys.length≤sizeLine→∀(h':Heap) (c':Nat),(∀ b o',s.heap.get? b=some o'→h'.get? b=some o') →
   h'.get? s.heap.objs.size=some { cls:=.type "list",dict:=none,data:=.seq its.toArray c',slots:=#[] }→EP X pins σ Q (.ref s.heap.objs.size) { s with heap:=h' }:=fun its r' hz h' c' kp e =>
  ⟨.ref s.heap.objs.size,_,I.laid (t':=s.toks) kp (c6U _) (show D4 X.prog X.w _ h' _ (.lst ys)from⟨hz,its,c',r',e⟩),rfl,q _ (I.hok.fresh (c6U _))⟩
 rcases hq with hq|hq
 ·obtain⟨its,r',pl,hz⟩:=I.list hq
  have hlen:=r'.length
  obtain⟨o,ho,hc,n,hd⟩:=pl.isList
  exact call_list_seq p (.inl rfl) ho hc hd (fun h' c' kp e=>fin its r' hz h' c' kp e) (by simp only[c6L]<;>omega)
 ·obtain⟨its,r',pl,hz⟩:=I.tuple hq
  have hlen:=r'.length
  obtain⟨o,ho,hc,n,hd⟩:=pl
  exact call_list_seq p (.inr rfl) ho hc hd (fun h' c' kp e=>fin its r' hz h' c' kp e) (by simp only[c6L]<;>omega)
theorem a4M:C5 X (.type "tuple") (fun xs H Q=>∃ p ys,xs=[.ref p]∧((SqL X.K H p ys∧∀ l,H l=none→Q (.ref l) (upd H l (.tup ys)))∨(SqT X.K H p ys∧Q (.ref p) H))):=by
 intro pins s σ H xs us Q I r h
 obtain⟨p,ys,rfl,h⟩:=h
 obtain⟨u,rfl,rx⟩:=a12 r
 cases rx
 rcases h with⟨hq,q⟩|⟨hq,q⟩
 ·obtain⟨its,r',pl,hz⟩:=I.list hq
  have hlen:=r'.length
  refine call_tuple_list pl.isList (fun h' kp=>?_) (by simp only[c6L]<;>omega)
  have I1:Inv X pins σ H { s with heap:=h' }:=I.kept (t':=s.toks) kp
  have I2:Inv X pins σ (upd H h'.objs.size (.tup ys)) { s with heap:=h'.push { cls:=.type "tuple",data:=.seq its.toArray } } :=
   I1.laid (t':=s.toks) (fun b o e=>c6y _ e) (c6U _) (show D4 X.prog X.w _ _ _ (.tup ys)from⟨hz,its,r',IsTup.new _ _⟩)
  exact⟨.ref h'.objs.size,_,I2,rfl,q _ (I1.hok.fresh (c6U _))⟩
 ·obtain⟨its,r',pl,hz⟩:=I.tuple hq
  exact call_tuple_same pl ⟨.ref p,H,I,rfl,q⟩
noncomputable def tyV(K:c6v)(T:String)(x:V)(H:Hp):Prop:=match x with
 | .str _=>T = "str"
 | .int _=>T = "int"
 | .ref p=>(T = "list" ∧ ∃ xs,SqL K H p xs)∨(T = "tuple" ∧ ∃ o,K.lookup p=some o∧o.cls = .type "tuple" ∧ o.dict=none) ∨
   (T = "dict" ∧ ((∃ kvs,H p=some (.dK kvs)) ∨ ∃ kvs,H p=some (.dT kvs)))∨(T = "set" ∧ ∃ S n,H p=some (.set S n))
 | _=>False
theorem b3k{pins:List (Addr × Obj)}{σ:St}{H:Hp}{s:Shared}{T:String}{x:V}{v:Value}(I:Inv X pins σ H s)(r:u0 x v)(ty:tyV X.K T x H) :
  s.TypeIs v T∧∀ a,v = .ref a→∃ ob,s.heap.get? a=some ob∧ob.dict=none:=by
 cases x with
 | str z =>
  obtain⟨t,rfl⟩:=r
  cases(show T = "str" from ty)
  exact⟨typeIs_str s z t,fun _ e=>nomatch e⟩
 | int i =>
  obtain⟨t,rfl⟩:=r
  cases(show T = "int" from ty)
  exact⟨typeIs_int s i t,fun _ e=>nomatch e⟩
 | ref p =>
  cases r
  rcases ty with⟨rfl,xs,hq⟩|⟨rfl,o,hk,hc,hd⟩|⟨rfl,hk⟩|⟨rfl,S,n,hk⟩
  ·obtain⟨its,_,pl,_⟩:=I.list hq
   refine⟨pl.isList.typeIs,fun a e=>?_⟩
   cases e
   obtain⟨o,n,e,c,hd,_⟩:=pl
   exact⟨o,e,hd⟩
  ·refine⟨⟨o,I.kIn p o hk,hc⟩,fun a e=>?_⟩
   cases e
   exact⟨o,I.kIn _ o hk,hd⟩
  ·have z:∃ o,s.heap.get? p=some o∧o.ExactDict:=by
    rcases hk with⟨kvs,hk⟩|⟨kvs,hk⟩
    ·obtain⟨_,_,_,_,o,_,_,e,ex,_⟩:=I.hok p _ hk
     exact⟨o,e,ex⟩
    ·obtain⟨_,_,_,_,o,_,_,e,ex,_⟩:=I.hok p _ hk
     exact⟨o,e,ex⟩
   obtain⟨o,e,ex⟩:=z
   refine⟨⟨o,e,ex.1⟩,fun a e2=>?_⟩
   cases e2
   exact⟨o,e,ex.2.1⟩
  ·obtain⟨o,_,_,_,e,ex,_⟩:=I.hok p _ hk
   refine⟨⟨o,e,ex.1⟩,fun a e2=>?_⟩
   cases e2
   exact⟨o,e,ex.2.1⟩
 | _=>exact False.elim ty
noncomputable def c2T(K:c6v)(T:String)(r:V→List V→Hp→VK→Prop)(to:TE):TE:=fun σ H Q=>to σ H fun x H1=>tyV K T x H1∧r x [] H1 Q
noncomputable def tBM(K:c6v)(T:String)(r:V→List V→Hp→VK→Prop)(to:TE)(t:TA):TE:=fun σ H Q=>to σ H fun x H1=>tyV K T x H1∧t σ H1 fun xs H2=>r x xs H2 Q
variable {o e:Expr} {es:List Expr} {to:TE} {t:TA} {name:Str} {apos cpos:Pos} {T id:String} {r:V→List V→Hp→VK→Prop}
theorem b9U(pa:PlainAttrs T)(slot:Slot T name id)(hty:typeOf (.builtin id)=pure (.type "method_descriptor"))(hm:MtR X id r)(ho:PE X o to)
  (hbase:attributeBase o name X.env (eval o X.env)=eval o X.env:=by rfl) (hline:(apos.endLine == cpos.line)=true:=by rfl):PE X (.Call (.Attribute o name apos) [] [] cpos) (c2T X.K T r to):=by
 intro pins s σ H Q I h
 refine wpAny_Call_method0_late hbase hline (thn (ho pins s σ H _ I h) fun v s1 zz=>?_)
 obtain⟨x,H1,I1,r1,ty,q1⟩:=zz
 obtain⟨h1,h2⟩:=b3k I1 r1 ty
 exact⟨T,id,pa,slot,hty,h1,h2,Calls.callWith_builtin rfl (PySem.evalArgs_none (hm pins s1 σ H1 x [] v [] Q I1 r1 .nil q1))⟩
theorem c1C(pa:PlainAttrs T)(slot:Slot T name id)(hty:typeOf (.builtin id)=pure (.type "method_descriptor"))(hm:MtR X id r)(ho:PE X o to)(ha:PA X (e :: es) t)
  (hbase:attributeBase o name X.env (eval o X.env)=eval o X.env:=by rfl)
  (hfew:((backTo cpos (starEach (e :: es) X.env)).all (fun x=>!x.1) && (backToKw cpos (keywordEach [] X.env)).all (fun x=>x.1.isSome)
   && decide ((e :: es).length+([]:List Keyword).length+(if ([]:List Keyword).isEmpty then 0 else 1)<30))=true:=by rfl)
  (hline:(apos.endLine == cpos.line)=true:=by rfl) (hs:starEach (e :: es) X.env=(false,eval e X.env) :: starEach es X.env:=by rfl) (hplain:(backTo cpos (starEach es X.env)).any (·.1)=false:=by rfl) :
  PE X (.Call (.Attribute o name apos) (e :: es) [] cpos) (tBM X.K T r to t):=by
 intro pins s σ H Q I h
 refine wpAny_Call_method_late hbase hfew hline rfl (thn (ho pins s σ H _ I h) fun v s1 zz=>?_)
 obtain⟨x,H1,I1,r1,ty,q1⟩:=zz
 obtain⟨h1,h2⟩:=b3k I1 r1 ty
 refine⟨T,id,pa,slot,hty,h1,h2,?_⟩
 have hA:=ha cpos pins s1 σ H1 _ I1 q1
 rw[hs]at hA ⊢
 refine Calls.callWith_builtin (by show(false || (backTo cpos (starEach es X.env)).any (·.1))=false;rw[hplain]<;>rfl) (Calls.evalArgs_plain ?_)
 exact thn hA fun us s2 ⟨vs,H2,I2,r2,q2⟩=>hm pins s2 σ H2 x vs v us Q I2 r1 r2 q2
end
end L2
namespace L2
open PySem PySem.Spec PyProof.Rows
noncomputable def MtM(X:Cx)(id:String)(r:V→List V→Hp→VK→Prop):Prop :=
 ∀(pins:List (Addr × Obj)) (s:Shared) (σ:St) (H:Hp) (x:V) (xs:List V) (v:Value) (us:List Value) (Q:VK),Inv X pins σ H s→u0 x v→o8 xs us→r x xs H Q →
  wpAny (model X.prog X.w) X.A (call (.builtin id) (v :: us)) (EP X pins σ Q) X.xe s
theorem o8.one{x:V}{us:List Value}(h:o8 [x] us):∃ u,us=[u]∧u0 x u:=by
 cases h with|cons r t=>cases t;exact⟨_,rfl,r⟩
theorem o8.two{x y:V}{us:List Value}(h:o8 [x,y] us):∃ u v,us=[u,v]∧u0 x u∧u0 y v:=by
 cases h with|cons r t=>cases t with|cons q t2=>cases t2;exact⟨_,_,rfl,r,q⟩
theorem o8.zero:∀{us:List Value},o8 [] us→us=[]
 | _,.nil=>rfl
theorem o8.reverse{xs:List V}{us:List Value}(h:o8 xs us):o8 xs.reverse us.reverse:=by
 induction h with
 | nil=>exact .nil
 | cons r t ih=>rw[c8o,c8o];exact o8.append ih (.cons r .nil)
theorem o8.rep{xs:List V}{us:List Value}(h:o8 xs us):∀ k:Nat,o8 (c7b k xs).flatten (c7b k us).flatten
 | 0=>.nil
 | k+1=>by
  rw[c7B,c7B,c7V,c7V]
  exact o8.append h (o8.rep h k)
theorem a5L(its:List Value):∀(k:Nat) (acc:List Value),
  c9R (fun x1 x2=>x1++x2) acc.toArray (c7b k its.toArray)=(acc++(c7b k its).flatten).toArray
 | 0,acc=>by simp
 | k+1,acc=>by
  have e:acc.toArray++its.toArray=(acc++its).toArray:=by simp
  have e2:(acc++its)++(c7b k its).flatten=acc++(c7b (k+1) its).flatten:=by
   rw[c7B,c7V,c9z]
  rw[← e2,← a5L its k (acc++its),← e,c7B,List.foldl_cons]
section
variable {X:Cx} {pins:List (Addr × Obj)} {σ:St} {H:Hp} {s:Shared} {l b:Addr} {xs ys zs:List V}
theorem Inv.lset{its its':List Value}{n:Nat}{f:Array Value→Array Value}{t':Nat}(I:Inv X pins σ H s)(hH:H l=some (.lst xs))
  (e:s.heap.get? l=some { cls:=.type "list",data:=.seq its.toArray n }) (hf:f its.toArray=its'.toArray) (hv:o8 ys its') (hz:ys.length≤sizeLine) :
  Inv X pins σ (upd H l (.lst ys)) { s with heap:=s.heap.update l (Obj.mapSeq f),toks:=t' }:=by
 have q:=PySem.IsL.update e f
 rw[hf]at q
 refine I.write (x:=l) (e:=l) (by rw[hH];exact trivial) (.inl rfl) (fun b' u hb hu=>(c7l s.heap (Obj.mapSeq f) (Ne.symm hb)).trans hu) ⟨_,q⟩ ?_
 exact⟨hz,its',_,hv,q⟩
theorem Inv.lnew{its:List Value}{t':Nat}(I:Inv X pins σ H s)(hv:o8 ys its)(hz:ys.length≤sizeLine) :
  Inv X pins σ (upd H s.heap.objs.size (.lst ys)) { s with heap:=s.heap.push { cls:=.type "list",data:=.seq its.toArray },toks:=t' } :=
 I.laid (fun _ _ q=>c6y _ q) (c6U _) ⟨hz,its,0,hv,c6G _ rfl⟩
theorem Inv.fresh(I:Inv X pins σ H s):H s.heap.objs.size=none:=I.hok.fresh (c6U _)
theorem Inv.lstM(I:Inv X pins σ H s)(hH:H l=some (.lst xs)):xs.length≤sizeLine∧∃(its:List Value) (n:Nat),o8 xs its∧xs.length=its.length∧s.heap.get? l=some { cls:=.type "list",data:=.seq its.toArray n }:=by
 obtain⟨z,its,n,r,e⟩:=I.hok l _ hH
 exact⟨z,its,n,r,r.length,e⟩
theorem a8l{n:Nat}(h:n≤sizeLine):Builtin.List.listTooLong n=false:=by
 unfold Builtin.List.listTooLong
 exact decide_eq_false (by omega)
end
section
variable {X:Cx}
noncomputable def b0T:V→List V→Hp→VK→Prop:=fun x vs H Q=>∃ l xs y,x = .ref l∧vs=[y]∧H l=some (.lst xs)∧xs.length<sizeLine∧Q .non (upd H l (.lst (xs++[y])))
theorem a5D:MtM X "list.append" b0T:=by
 intro pins s σ H x vs v us Q I rx rv h
 obtain⟨l,xs,y,rfl,rfl,hH,hz,q⟩:=h
 cases rx
 obtain⟨u,rfl,ru⟩:=rv.one
 obtain⟨z,its,n,r,hl,e⟩:=I.lstM hH
 refine call_meets F.slot_list_append ⟨_,e,rfl⟩ F.entry_list_append (F.args_list_append_2 _ _) (PySem.list_append l its.toArray n u (by rw[c6L];omega)) ⟨e,?_⟩
 refine⟨.non,_,I.lset (its':=its++[u]) hH e (by simp) (r.append (.cons ru .nil)) ?_,rfl,q⟩
 rw[c6H,List.length_singleton]
 omega
noncomputable def b0S:V→List V→Hp→VK→Prop:=fun x vs H Q=>∃ l b xs zs,x = .ref l∧vs=[.ref b]∧H l=some (.lst xs)∧H b=some (.lst zs)∧xs.length+zs.length≤sizeLine∧Q .non (upd H l (.lst (xs++zs)))
theorem b1N:MtM X "list.extend" b0S:=by
 intro pins s σ H x vs v us Q I rx rv h
 obtain⟨l,b,xs,zs,rfl,rfl,hH,hB,hz,q⟩:=h
 cases rx
 obtain⟨u,rfl,ru⟩:=rv.one
 cases ru
 obtain⟨z,its,n,r,hl,e⟩:=I.lstM hH
 obtain⟨z2,its2,n2,r2,hl2,e2⟩:=I.lstM hB
 have hsz:its.toArray.size+its2.toArray.size≤sizeLine:=by rw[c6L,c6L];omega
 have hlong:¬ (!its.toArray.isEmpty && Builtin.List.listTooLong (its.toArray.size+its2.toArray.size))=true:=by
  rw[a8l hsz,Bool.and_false]
  exact c6S
 refine call_meets F.slot_list_extend ⟨_,e,rfl⟩ F.entry_list_extend (F.args_list_extend_2 _ _)
  (AutoSeq1.list_extend_list_list_0 l its.toArray n b its2.toArray n2 hlong (by rw[c6L];omega) (by omega)) ⟨e,e2,?_⟩
 refine⟨.non,_,I.lset (its':=its++its2) hH e (by simp) (r.append r2) ?_,rfl,q⟩
 rw[c6H]
 omega
noncomputable def c2Y:R2:=fun x y H Q=>∃ l k xs,x = .ref l∧y = .int k∧H l=some (.lst xs)∧-(2 ^ 63)≤k∧k<2 ^ 63∧xs.length*k.toNat≤sizeLine ∧
 ∀ p,H p=none→Q (.ref p) (upd H p (.lst (c7b k.toNat xs).flatten))
theorem b7h{α:Type}(xs:List α)(k:Nat):(c7b k xs).flatten.length=k*xs.length:=by
 induction k with
 | zero=>simp
 | succ k ih=>rw[c7B,c7V,c6H,ih,Nat.succ_mul,c9I]
theorem b9X:OpR X (binaryOp .Mult) c2Y:=by
 intro pins s σ H x y v u Q I rx ry h
 obtain⟨l,k,xs,rfl,rfl,hH,h1,h2,hz,q⟩:=h
 cases rx
 obtain⟨t,rfl⟩:=ry
 obtain⟨z,its,n,r,hl,e⟩:=I.lstM hH
 have hlen:its.toArray.size*k.toNat≤sizeLine:=by rw[c6L,← hl];exact hz
 have hcap:¬ its.toArray.size*k.toNat > (2 ^ 63 - 1) / 8:=by
  have:(sizeLine:Nat)≤(2 ^ 63 - 1) / 8:=by decide
  omega
 have hfit:¬ (!Builtin.List.listFitsIndex k)=true:=by
  rw[fitsIndex_both h1 h2]
  exact c6S
 have hlong:¬ Builtin.List.listTooLong (its.toArray.size*k.toNat)=true:=by
  rw[a8l hlen]
  exact c6S
 have hnew:c9R (fun x1 x2=>x1++x2) #[] (c7b (if its.toArray.isEmpty=true then 0 else k.toNat) its.toArray)=(c7b k.toNat its).flatten.toArray:=by
  have f0:∀ m:Nat,c9R (fun x1 x2=>x1++x2) #[] (c7b m its.toArray)=(c7b m its).flatten.toArray:=fun m=>by
   have:=a5L its m []
   rw[List.nil_append]at this
   exact this
  rw[f0]
  cases its with
  | nil=>simp
  | cons a r'=>rw[if_neg (by simp)]
 refine wpAny_binaryOp_repeat_ref (T := "list") (U := "int") (by decide) ⟨_,e,rfl⟩ (fun s'=>typeIs_int s' k t) noFill_list_mul F.fills_int_mul F.slot_int_rmul repeat_list F.slot_int_index.lookup
  (call_meets F.slot_int_rmul (typeIs_int s k t) F.entry_int_rmul (F.args_int_rmul_2 _ _) (int___rmul___int_list k t l its.toArray n)
   ⟨e,rfl,⟨_,e,rfl⟩,call_meets F.slot_list_mul ⟨_,e,rfl⟩ F.entry_list_mul (F.args_list_mul_2 _ _) (AutoListH.list___mul___list_int_3 l its.toArray n k t hfit hcap hlong) ⟨e,?_⟩⟩)
 rw[hnew]
 exact⟨.ref _,_,I.lnew (t':=s.toks) (r.rep k.toNat) (by rw[b7h,c89];exact hz),rfl,q _ I.fresh⟩
end
section
variable {prog:Program} {w:World} {A:Around} {E:Value→Shared→Prop} {s:Shared}
end
section
variable {X:Cx}
end
end L2
namespace Att
open PySem PySem.W PySem.Calls PyProof.Rows
theorem a2k{P:Params}{h:Heap}:∀(ns:List Int) (vs:List Value),WellAll P h vs (ns.map WData.int)→IntsAre vs ns:=by
 intro ns
 induction ns with
 | nil =>
  intro vs w
  rw[c8g]at w
  cases w
  exact .nil
 | cons n ns ih =>
  intro vs w
  rw[c7C]at w
  cases w with
  | cons a b =>
   cases a
   exact .cons _ _ (ih _ b)
theorem b1B{l:OpenLaw}{n:Nat}(hn:l.most=some n){P:Params}{h:Heap}{args:List WData}{vals:List Value}
  (hpre:l.row.toRowW.claim.pre args=true) (hwl:WellAll P h vals args) :
  ∃ a vs ns,vals=[Value.ref a]∧args=[WData.list (ns.map WData.int)]∧h.get? a=some { cls:=.type "list",data:=.seq vs.toArray }∧IntsAre vs ns∧ns.length≤n:=by
 have hsh:WShape.hasAll [] args [.list .int]=true:=(pre_splitW hpre).1
 have hc:l.pre.holds [] { args:=args } = true:=(pre_splitW hpre).2
 obtain⟨d,r,rfl,h1,h2⟩:=hasAllW_cons hsh
 obtain rfl:=hasAllW_nil h2
 obtain⟨xs,rfl,h3⟩:=hasW_list h1
 obtain⟨ns,rfl⟩:=items_int h3
 have hlen:ns.length≤n:=by
  unfold OpenLaw.pre at hc
  have h4:(WTm.not (.lt (.lit (.int (n:Int))) (.len (.arg 0)))).holds [] { args:=[.list (ns.map .int)] } = true:=by
   have h4:=(holds_andW hc).1
   rw[hn]at h4
   exact h4
  have h5:=condW_of h4 (w_not (w_lt w_lit (w_len_list (w_arg rfl))))
  rw[c6x]at h5
  refine Nat.le_of_not_lt fun q=>?_
  have q':(n:Int)<((ns.length:Nat):Int):=by omega
  first
   | (rw[decide_eq_true q']at h5;exact absurd h5 (by decide))
   | (simp at h5;omega)
 cases hwl with
 | cons w1 w2 =>
  cases w2
  cases w1 with
  | list ho hall=>exact⟨_,_,ns,rfl,rfl,ho,a2k ns _ hall,hlen⟩
theorem b1G(l:OpenLaw)(args:List WData):l.row.toRowW.claim.post args (.bool true) args=true :=
 postW_of (r:=l.row.toRowW) (X:=(true == true))
  (show WShape.has [] (.bool true) .bool=true by first|rfl|decide|simp[WShape.has,WShape.arms,WShape.armsAll])
  (show(WTm.eq .res (.lit (.bool true))).value [] { args:=args,res:=some (.bool true),after:=args } = some (.bool (true == true))from w_eq_bool (w_res rfl) w_lit) rfl
theorem a8M{l:OpenLaw}{n:Nat}{q:Program}{loose:List Str}{XP:(Str→Option Value)→Heap→Prop}{YP:World→Heap→Prop}{d:DefRec}
  (hn:l.most=some n) (hdf:d.params.defaults=[])
  (call:∀(w:World) (s₀ s₁:Shared) (mg mb:Str→Option Value) (fa:Addr) (o:Obj) (pm cd doc:Value) (a:Addr) (vs:List Value) (ns:List Int),
   Ground q loose [] XP w s₀ mg mb s₁.heap→YP w s₁.heap →
   s₁.heap.get? fa=some o→o.data = .func (docDef d.name d.params d.body d.scope pm cd doc)→s₁.heap.CodeRec cd d.name→mg d.name=some (.ref fa) →
   s₁.heap.get? a=some { cls:=.type "list",data:=.seq vs.toArray }→IntsAre vs ns→ns.length≤n→s₁.gens = #[] →
   codeAny (model l.prog w) callerA (.call (.ref fa) ⟨[.ref a],[]⟩) (fun r s'=>r = .ok (.ret (.bool true))∧OldK s₁.heap s'.heap∧s'.os=s₁.os∧AllBare s'.gens) s₁) :
  WalkO q loose XP YP l.row.toRowW d [] (fun f vs=>PySem.call f vs):=by
 intro w s₀ s₁ mg mb G Y fa o pm cd doc dV kV ho hd hcd hD hmg hg args vals as hpre hlay hrd hwl hlo
 obtain rfl:dV = .none:=Dflts.none hD hdf
 obtain rfl:kV = .none:=Dflts.noKw hD
 obtain⟨a,vs,ns,rfl,rfl,hobj,hints,hlen⟩:=b1B hn hpre hwl
 refine enter_call (codeAny_mono (call w s₀ s₁ mg mb fa o pm cd doc a vs ns G Y ho (fd_plain hd) hcd hmg hobj hints hlen hg) fun r s' hq=>?_)
 obtain⟨rfl,h2,h3,h4⟩:=hq
 exact⟨.inl ⟨.bool true,.bool true,[],rfl,fun _=>rfl,.bool true,b1G l _,fun _=>⟨List.Pairwise.nil,fun _ hm=>(nomatch hm)⟩⟩,h2,h3,h4⟩
section
variable {prog:Program} {w:World} {A:Around} {E:Value→Shared→Prop} {s:Shared} {K:Frag}
end
end Att
namespace L2
open PySem PySem.Spec PyProof.Rows
theorem a5u:∀{vs:List Value} {ns:List Int},IntsAre vs ns→o8 (ns.map V.int) vs
 | _,_,.nil=>.nil
 | _,_,.cons n t h=>.cons ⟨t,rfl⟩ (a5u h)
noncomputable def b2h(H:Hp):Prop:=∀ b,H b=none ∨ ∃ o xs,H b=some (.frz o (.lst xs))
theorem b4l{P:Program}{w:World}{K:c6v}{mg mb:Str→Option Value}{CX:CXT}{k:Nat}{fa a:Addr}{fd:FuncData}{x:Str}{sp:Sp}{s₁:Shared}{vs:List Value}{ns:List Int}
  (KX:K.In s₁.heap) (hns:s₁.heap.Ns mainGlobals mg) (hb:s₁.heap.Ns builtinsNs mb) (hbb:∀ x:Str,x ≠ "__name__" → mb x=bootBuiltins x) (hlim:s₁.heap.NoLimit) (hg:s₁.gens = #[])
  (ha:s₁.heap.get? a=some { cls:=.type "list",data:=.seq vs.toArray }) (hi:IntsAre vs ns) (hl:ns.length≤sizeLine) (hr:J7 k callerA)
  (F:∀ base:Heap,K.In base→base.Ns mainGlobals mg→U2 P w K mg base CX k fa fd [x] sp) (hbind:∀(s:Shared) (u:Value),BindsTo s fd ⟨[u],[]⟩ [(x,u)])
  (hsp:∀ H:Hp,b2h H→SqL K H a (ns.map V.int)→sp [.ref a] H (fun v _=>v = .bl true) fun _ _ _=>False)
  (hCX:∀ H e s',CX [] H s₁ (fun _ _ _=>False) e s'→False) :
  codeAny (model P w) callerA (.call (.ref fa) ⟨[.ref a],[]⟩) (fun r s'=>r = .ok (.ret (.bool true))∧OldK s₁.heap s'.heap∧s'.os=s₁.os∧AllBare s'.gens) s₁:=by
 have rv:=a5u hi
 have lenV:=hi.length
 have core:∀ H:Hp,b2h H→SqL K H a (ns.map V.int)→HOk P w H s₁.heap→(∀ b,H b≠none→b=a)→(H a≠none→K.lookup a=none) →
   codeAny (model P w) callerA (.call (.ref fa) ⟨[.ref a],[]⟩) (fun r s'=>r = .ok (.ret (.bool true))∧OldK s₁.heap s'.heap∧s'.os=s₁.os∧AllBare s'.gens) s₁:=by
  intro H hO hS hok hA hK
  have base_of:∀{b:Addr} {o:Obj},s₁.heap.get? b=some o→H b=none→(a6U s₁.heap H).get? b=some o:=fun e n=>b4v e n
  have noA:∀{b:Addr} {o:Obj} {es:Array DictEntry} {ep:Nat},s₁.heap.get? b=some o→o.data = .dict es ep→H b=none:=fun{b o es ep} e d=>by
   cases q:H b with
   | none=>rfl
   | some u =>
    have e':b=a:=hA b (by rw[q];simp)
    subst e'
    rw[ha]at e;cases e
    have d':Data.seq vs.toArray _=Data.dict es ep:=d
    cases d'
  have nsK:∀{b:Addr} {m:Str→Option Value},s₁.heap.Ns b m→(a6U s₁.heap H).Ns b m:=fun{b m} ⟨o,es,ep,e,d,r⟩=>⟨o,es,ep,base_of e (noA e d),d,r⟩
  have hKb:K.In (a6U s₁.heap H):=fun b o e=>base_of (KX b o e) (by
   cases q:H b with
   | none=>rfl
   | some u =>
    have e':b=a:=hA b (by rw[q];simp)
    subst e'
    rw[hK (by rw[q];simp)]at e;cases e)
  have hM:Mod K mg (a6U s₁.heap H):=⟨hKb,nsK hns,⟨mb,nsK hb,hbb⟩,let ⟨mc,h1,h2⟩:=hlim;⟨mc,nsK h1,h2⟩⟩
  have e0:a9V P w K mg (a6U s₁.heap H) callerA [] s₁ H:=⟨rfl,hM,fun b o e=>b7f e,c9J (b1T _ _),trivial,fun b hb=>absurd (show b∈([]:List Addr)from hb) (by simp),hok,.of_eq hg⟩
  refine codeAny_mono ((F _ hKb (nsK hns)).run callerA [] s₁ H ⟨[.ref a],[]⟩ [.ref a] [.ref a] _ _ hr e0 (hbind s₁ (.ref a)) (.cons rfl .nil) (hsp H hO hS)) fun r s' h=>?_
  cases r with
  | error e=>exact(hCX H e s' h).elim
  | ok fl =>
   cases fl with
   | next=>exact False.elim h
   | brk=>exact False.elim h
   | cont=>exact False.elim h
   | ret u =>
    obtain⟨v,H',os,bare,un,hok',r',q⟩:=h
    have q':v = .bl true:=q
    subst q'
    obtain rfl:u=Value.bool true:=r'
    refine⟨rfl,OldK.of_keep fun b o e=>?_,os,bare⟩
    cases q:H b with
    | none=>exact un.keep b o e q (by intro z;exact absurd (show b∈([]:List Addr)from z) (by simp)) (by simp)
    | some u =>
     rcases hO b with z|⟨ob,xs,z⟩
     ·rw[q]at z;cases z
     ·have z2:=un.frzs b ob _ z
      obtain⟨e1,_⟩:=hok b _ z
      obtain⟨e2,_⟩:=hok' b _ z2
      rw[e]at e1;cases e1
      exact e2
 cases hk:K.lookup a with
 | some o =>
  have e:=KX a o hk
  rw[ha]at e
  cases e
  refine core (fun _=>none) (fun _=>.inl rfl) (.inr ⟨_,vs.toArray,_,hk,rfl,rfl,rfl,by rw[c6L,lenV];exact hl,by simpa using rv⟩) (fun b u z=>by have z':(none:Option HO)=some u:=z;cases z') (fun b z=>absurd rfl z) fun z=>absurd rfl z
 | none =>
  refine core (fun b=>if b=a then some (.frz { cls:=.type "list",data:=.seq vs.toArray } (.lst (ns.map V.int)))else none) (fun b=>?_) (.inl (.inr ⟨{ cls:=.type "list",data:=.seq vs.toArray },if_pos rfl⟩)) (fun b u z=>?_) (fun b z=>?_) fun _=>hk
  ·by_cases hb:b=a
   ·exact .inr ⟨_,_,if_pos hb⟩
   ·exact .inl (if_neg hb)
  ·by_cases hb:b=a
   ·have z':=(if_pos hb).symm.trans z
    cases z'
    subst hb
    exact⟨ha,by rw[c6x];exact hl,vs,_,rv,ha⟩
   ·have z':=(if_neg hb).symm.trans z
    cases z'
  ·by_cases hb:b=a
   ·exact hb
   ·exact absurd (if_neg hb) z
end L2
namespace L2
open PySem PySem.Spec PyProof.Rows
theorem b6m{l:PySem.W.OpenLaw}{n k:Nat}{q:Program}{loose:List Str}{XP:(Str→Option Value)→Heap→Prop}{YP:World→Heap→Prop}{d:DefRec}{K:Params→c6v}{CX:World→CXT}{sp:World→Sp}{x:Str}
  (hn:l.most=some n) (hn2:n≤sizeLine) (hdf:d.params.defaults=[]) (hr:J7 k callerA)
  (hY:∀(w:World) (h:Heap),YP w h→(K w.params).In h)
  (F:∀(w:World) (mg:Str→Option Value) (fa:Addr) (h:Heap),(K w.params).In h→h.Ns mainGlobals mg→mg d.name=some (.ref fa) →
   ∃ fd:FuncData,(∀(s:Shared) (u:Value),BindsTo s fd ⟨[u],[]⟩ [(x,u)]) ∧
    ∀ base:Heap,(K w.params).In base→base.Ns mainGlobals mg→U2 l.prog w (K w.params) mg base (CX w) k fa fd [x] (sp w))
  (hsp:∀(w:World) (H:Hp) (a:Addr) (ns:List Int),ns.length≤n→b2h H→SqL (K w.params) H a (ns.map V.int)→sp w [.ref a] H (fun v _=>v = .bl true) fun _ _ _=>False)
  (hCX:∀(w:World) (H:Hp) (s:Shared) (e:Value) (s':Shared),CX w [] H s (fun _ _ _=>False) e s'→False) :
  PySem.W.WalkO q loose XP YP l.row.toRowW d [] (fun f vs=>PySem.call f vs):=by
 refine Att.a8M hn hdf fun w s₀ s₁ mg mb fa o pm cd doc a vs ns G Y ho hd hcd hmg hobj hints hlen hg=>?_
 have KX:=hY w _ Y
 obtain⟨fd,hb,hF⟩:=F w mg fa _ KX G.T.g hmg
 exact b4l KX G.T.g G.T.b G.T.builtins G.T.nolimit hg hobj hints (c6D hlen hn2) hr hF hb (fun H hO hS=>hsp w H a ns hlen hO hS) fun H e s'=>hCX w H s₁ e s'
theorem b3h{l:PySem.W.OpenLaw}{n k:Nat}{q:Program}{loose:List Str}{XP:(Str→Option Value)→Heap→Prop}{YP:World→Heap→Prop}{d:DefRec}{K:Params→c6v}{CX:CXT}{sp:c6v→Sp}{x:Str}
  (hn:l.most=some n) (hn2:n≤sizeLine) (hdf:d.params.defaults=[]) (hr:J7 k callerA)
  (hY:∀(w:World) (h:Heap),YP w h→(K w.params).In h)
  (F:∀(w:World) (mg:Str→Option Value) (fa:Addr) (h:Heap),(K w.params).In h→h.Ns mainGlobals mg→mg d.name=some (.ref fa) →
   ∃ fd:FuncData,(∀(s:Shared) (u:Value),BindsTo s fd ⟨[u],[]⟩ [(x,u)]) ∧
    ∀ base:Heap,(K w.params).In base→base.Ns mainGlobals mg→U2 l.prog w (K w.params) mg base CX k fa fd [x] (sp (K w.params)))
  (hsp:∀(K:c6v) (H:Hp) (a:Addr) (ns:List Int),ns.length≤n→b2h H→SqL K H a (ns.map V.int)→sp K [.ref a] H (fun v _=>v = .bl true) fun _ _ _=>False)
  (hCX:∀(H:Hp) (s:Shared) (e:Value) (s':Shared),CX [] H s (fun _ _ _=>False) e s'→False) :
  PySem.W.WalkO q loose XP YP l.row.toRowW d [] (fun f vs=>PySem.call f vs) :=
 b6m (K:=K) (CX:=fun _=>CX) (sp:=fun w=>sp (K w.params)) hn hn2 hdf hr hY F (fun w H a ns h1 h2 h3=>hsp (K w.params) H a ns h1 h2 h3) fun _ H s e s'=>hCX H s e s'
end L2
namespace L2
open PySem PySem.Spec PyProof.Rows
noncomputable def T0(s:Stmt):Arguments:=match s with
 | .FunctionDef _ a _ _ _ _ _ _ _ _=>a
 | _=>{ posonlyargs:=[],args:=[],vararg:=none,kwonlyargs:=[],kw_defaults:=[],kwarg:=none,defaults:=[] }
noncomputable def K1(s:Stmt):List Stmt:=match s with
 | .FunctionDef _ _ b _ _ _ _ _ _ _=>b
 | _=>[]
noncomputable def e8(s:Stmt):Scope:=match s with
 | .FunctionDef _ _ _ _ _ _ sc _ _ _=>sc
 | _=>{ kind:=.function,names:=[],isGenerator:=false,isCoroutine:=false }
noncomputable abbrev CX0:CXT:=fun _ _ _ _ _ _=>False
noncomputable abbrev E0:XK:=fun _ _ _=>False
theorem c1E{X:Cx}:a68 CX0 X E0:=fun _ _ _ _ _ _ _ h=>h.elim
section
variable {P:Program} {w:World} {K:c6v} {mg:Str→Option Value} {base:Heap}
end
section
variable {X:Cx}
end
theorem c1S{A B:Prop}(h:B):if false=true then A else B:=by
 rw[if_neg c6S]
 exact h
theorem c3i{A B:Prop}(h:A):if true=true then A else B:=by
 rw[if_pos rfl]
 exact h
end L2
end
namespace RM
open Rat
noncomputable def bl(n:Nat):Nat:=n.log2+1
theorem a1m(n:Nat):n<2 ^ bl n:=Nat.lt_log2_self
theorem X5{n k:Nat}(h:n<2 ^ k)(hk:0<k):bl n≤k:=by
 unfold bl
 rcases c8i n with h0|h0
 ·subst h0;rw[Nat.log2_zero];omega
 ·have:=(c8X (c9l.mp h0)).mpr h
  omega
theorem b5g(n:Nat):0<bl n:=c9K _
theorem T6{m n:Nat}(h:m≤n):bl m≤bl n:=X5 (c6O h (a1m n)) (b5g n)
theorem T5(m n:Nat):bl (m*n)≤bl m+bl n:=by
 refine X5 ?_ (Nat.add_pos_left (b5g m) _)
 rw[c8Y]
 exact Nat.mul_lt_mul'' (a1m m) (a1m n)
theorem c0x(m n:Nat):bl (m+n)≤max (bl m) (bl n)+1:=by
 refine X5 ?_ (c9K _)
 have h1:=a1m m
 have h2:=a1m n
 have e1:2 ^ bl m≤2 ^ max (bl m) (bl n):=c6T (by decide) (c9a _ _)
 have e2:2 ^ bl n≤2 ^ max (bl m) (bl n):=c6T (by decide) (c83 _ _)
 rw[c8N]
 omega
noncomputable def sz(q:Rat):Nat:=max (bl q.num.natAbs) (bl q.den)
theorem K7(q:Rat):bl q.num.natAbs≤sz q:=c9a _ _
theorem C8(q:Rat):bl q.den≤sz q:=c83 _ _
theorem b0E{q:Rat}{n:Nat}(h1:bl q.num.natAbs≤n)(h2:bl q.den≤n):sz q≤n:=c8A.mpr ⟨h1,h2⟩
theorem b4e(a b:Int):(divInt a b).num.natAbs≤a.natAbs:=by
 rw[num_divInt]
 rcases Int.lt_trichotomy b 0 with h|h|h
 ·rw[c8M h]
  refine c6D (c8Q _ _) ?_
  simp
 ·subst h;simp
 ·rw[c8m h,c9m]
  exact c8Q _ _
theorem c0s(a b:Int)(hb:b≠0):(divInt a b).den≤b.natAbs:=by
 rw[den_divInt,if_neg hb]
 exact c8H _ _
theorem K3(a b:Int)(hb:b≠0):sz (divInt a b)≤max (bl a.natAbs) (bl b.natAbs) :=
 b0E (c6D (T6 (b4e a b)) (c9a _ _)) (c6D (T6 (c0s a b hb)) (c83 _ _))
theorem D3(q:Rat):(q.den:Int)≠0:=by have:=q.den_nz;omega
theorem a9U(q r:Rat):q+r=divInt (q.num*r.den+r.num*q.den) (q.den*r.den):=by
 conv=>lhs;rw[← num_divInt_den q,← num_divInt_den r]
 rw[divInt_add_divInt _ _ (D3 q) (D3 r)]
theorem a9F(q r:Rat):q*r=divInt (q.num*r.num) (q.den*r.den):=by
 conv=>lhs;rw[← num_divInt_den q,← num_divInt_den r]
 rw[divInt_mul_divInt]
theorem b4M(q r:Rat):q / r=divInt (q.num*r.den) (q.den*r.num):=by
 rw[div_def]
 conv=>lhs;rw[← num_divInt_den q,← num_divInt_den r]
 rw[inv_divInt,divInt_mul_divInt]
theorem a3W(a b:Int):(a+b).natAbs≤a.natAbs+b.natAbs:=c9A a b
theorem U4(q r:Rat):sz (q+r)≤sz q+sz r+1:=by
 rw[a9U]
 have hb:((q.den:Int)*(r.den:Int))≠0:=c7u (D3 q) (D3 r)
 refine c6D (K3 _ _ hb) (c8A.mpr ⟨?_,?_⟩)
 ·refine c6D (T6 (a3W _ _)) (c6D (c0x _ _) ?_)
  rw[c6W,c6W]
  have h1:=T5 q.num.natAbs (r.den:Int).natAbs
  have h2:=T5 r.num.natAbs (q.den:Int).natAbs
  have a1:=K7 q
  have a2:=K7 r
  have a3:=C8 q
  have a4:=C8 r
  simp only[c6w]at h1 h2 ⊢
  omega
 ·rw[c6W]
  have h1:=T5 (q.den:Int).natAbs (r.den:Int).natAbs
  have a3:=C8 q
  have a4:=C8 r
  simp only[c6w]at h1 ⊢
  omega
theorem u3(q r:Rat):sz (q*r)≤sz q+sz r:=by
 rw[a9F]
 have hb:((q.den:Int)*(r.den:Int))≠0:=c7u (D3 q) (D3 r)
 refine c6D (K3 _ _ hb) (c8A.mpr ⟨?_,?_⟩)
 ·rw[c6W]
  have h1:=T5 q.num.natAbs r.num.natAbs
  have a1:=K7 q
  have a2:=K7 r
  omega
 ·rw[c6W]
  have h1:=T5 (q.den:Int).natAbs (r.den:Int).natAbs
  have a3:=C8 q
  have a4:=C8 r
  simp only[c6w]at h1 ⊢
  omega
theorem I0(q:Rat):sz (-q)=sz q:=by
 unfold sz
 rw[c9n,c9o,c7T]
theorem G9(q r:Rat):sz (q - r)≤sz q+sz r+1:=by
 rw[c9u]
 have:=U4 q (-r)
 rw[I0]at this
 exact this
theorem J1(q r:Rat)(hr:r≠0):sz (q / r)≤sz q+sz r:=by
 rw[b4M]
 have hn:r.num≠0:=fun h=>hr (Rat.num_eq_zero.mp h)
 have hb:((q.den:Int)*r.num)≠0:=c7u (D3 q) hn
 refine c6D (K3 _ _ hb) (c8A.mpr ⟨?_,?_⟩)
 ·rw[c6W]
  have h1:=T5 q.num.natAbs (r.den:Int).natAbs
  have a1:=K7 q
  have a4:=C8 r
  simp only[c6w]at h1 ⊢
  omega
 ·rw[c6W]
  have h1:=T5 (q.den:Int).natAbs r.num.natAbs
  have a3:=C8 q
  have a2:=K7 r
  simp only[c6w]at h1 ⊢
  omega
theorem F0:sz 0=1:=by decide
theorem K6:sz 1=1:=by decide
theorem b4y(a b:Nat)(h:b≠0):c7e a b=c7e b (a % b):=by
 rw[c9L,Nat.gcd_rec,c9L]
theorem S8{a g:Int}(h:g ∣ a):a.fdiv g=a / g:=by
 obtain⟨c,rfl⟩:=h
 by_cases hg:g=0
 ·subst hg;simp
 ·rw[Int.mul_fdiv_cancel_left _ hg,c8U _ hg]
theorem b97(a b:Int)(hb:b≠0)(share:Int)(hs:share=if b<0 then -((c7e a.natAbs b.natAbs:Nat):Int)else((c7e a.natAbs b.natAbs:Nat):Int)) :
  a.fdiv share=(divInt a b).num∧b.fdiv share=((divInt a b).den:Int):=by
 have hg:c7e a.natAbs b.natAbs=c9b b a:=by unfold c9b;exact c9L _ _
 have da:((c9b b a:Nat):Int) ∣ a:=Int.gcd_dvd_right b a
 have db:((c9b b a:Nat):Int) ∣ b:=Int.gcd_dvd_left b a
 rw[hg]at hs
 rw[num_divInt,den_divInt,if_neg hb]
 by_cases h:b<0
 ·rw[if_pos h]at hs
  subst hs
  rw[S8 (Int.neg_dvd.mpr da),S8 (Int.neg_dvd.mpr db),c8M h]
  refine⟨?_,?_⟩
  ·rw[Int.ediv_neg,Int.neg_one_mul,c9p da]
  ·rw[Int.ediv_neg,← c9p db]
   have e:-b=((b.natAbs:Nat):Int):=by omega
   rw[e]
   norm_cast
 ·rw[if_neg h]at hs
  subst hs
  have hp:0<b:=by omega
  rw[S8 da,S8 db,c8m hp,c9m]
  refine⟨rfl,?_⟩
  have e:b=((b.natAbs:Nat):Int):=by omega
  conv=>lhs;rw[e]
  norm_cast
theorem c1O(q r:Rat):decide (q.num*(r.den:Int)<r.num*(q.den:Int))=decide (q<r):=by
 by_cases h:q<r
 ·rw[decide_eq_true h,decide_eq_true ((c9B q r).mp h)]
 ·rw[decide_eq_false h,decide_eq_false (fun z=>h ((c9B q r).mpr z))]
end RM
namespace L2
open PySem PySem.Spec PyProof.Rows
section
variable {prog:Program} {w:World} {A:Around} {R:Result→Shared→Prop} {s:Shared}
noncomputable def b0C(ifs:List Expr)(env:Env):Sem Bool:=forIn ifs true fun c r=>if r=true then do let ok ← isTrue c env (eval c env);pure (ForInStep.yield ok)else pure (ForInStep.yield r)
theorem a61{elt target iter:Expr}{ifs:List Expr}{scope:Scope}{pos:Pos}{it acc:Value}{env:Env}(I:Nat→Shared→Prop)
  (turn:∀ n s,I n s→wpAny (model prog w) A (pyNext it) (fun r s₁=>match r with
   | none=>R (.ok .next) s₁
   | some v=>wpAny (model prog w) A (letOwnedTupleGo target it v) (fun _ s₁'=>wpAny (model prog w) A (assign target env v) (fun _ s₂=>wpAny (model prog w) A (b0C ifs env) (fun ok s₂'=>if ok=true then wpAny (model prog w) A (eval elt env) (fun x s₃ =>
     wpAny (model prog w) A (call (.builtin "list.append") [acc,x]) (fun _ s₄=>∃ m,m<n∧I m s₄) (notedBy (model prog w) A env fun e s'=>R (.error e) s') s₃)
     (notedBy (model prog w) A env fun e s'=>R (.error e) s') s₂' else ∃ m,m<n∧I m s₂') (notedBy (model prog w) A env fun e s'=>R (.error e) s') s₂) (notedBy (model prog w) A env fun e s'=>R (.error e) s') s₁') (notedBy (model prog w) A env fun e s'=>R (.error e) s') s₁) (notedBy (model prog w) A env fun e s'=>R (.error e) s') s)
  (n:Nat) (h:I n s) :
  codeAny (model prog w) A (.compLoop (.ListComp elt [⟨target,iter,ifs,0⟩] scope pos) 0 it acc env) R s:=by
 refine codeAny_loop rfl I (fun n s hI=>?_) n h
 show wpAny _ _ ((compTurn (.ListComp elt [⟨target,iter,ifs,0⟩] scope pos) 0 it acc env).onRaise (fun x=>do noteFrame x env;theTreesLotGoes x)) _ _ s
 refine wpAny_noted ?_
 rw[compTurn_list]
 refine c6u (wpAny_standAt (c6u (wpAny_mono (turn n s hI) (fun r s₁ h₁=>?_) fun _ _ h'=>h')))
 cases r with
 | none=>exact c6E h₁
 | some v =>
  refine c6u (wpAny_mono h₁ (fun _ s₁' h₁'=>?_) fun _ _ h'=>h')
  refine c6u (wpAny_mono h₁' (fun _ s₂ h₂=>c6u (wpAny_mono h₂ (fun ok s₂' h₃=>?_) fun _ _ h'=>h')) fun _ _ h'=>h')
  cases ok with
  | true =>
   refine c6u (c6u (wpAny_mono h₃ (fun x s₃ h₄=>c6u (wpAny_mono h₄ (fun _ s₄ h₅=>c6E (c6E ⟨rfl,h₅⟩)) fun _ _ h'=>h')) fun _ _ h'=>h'))
  | false=>exact c6u (c6E (c6E ⟨rfl,h₃⟩))
end
noncomputable def a1R(X:Cx)(ifs:List Expr)(t:TT):Prop :=
 ∀(pins:List (Addr × Obj)) (s:Shared) (σ:St) (H:Hp) (Q:Bool→Hp→Prop),Inv X pins σ H s→t σ H Q→wpAny (model X.prog X.w) X.A (b0C ifs X.env) (TP X pins σ Q) X.xe s
noncomputable def c2I:TT:=fun _ H Q=>Q true H
theorem b3N{X:Cx}:a1R X [] c2I:=fun pins s σ H Q I q=>c6E ⟨H,I,q⟩
theorem b3M{X:Cx}{c:Expr}{t:TT}(h:PT X c t):a1R X [c] t:=fun pins s σ H Q I q=>wpAny_tests_one (h pins s σ H Q I q)
end L2
namespace L2
open PySem PySem.Spec PyProof.Rows
noncomputable def X3(cells:List (Str × Addr)):List (Str × NameKind)→List (Str × Addr)→List (Str × Addr)
 | [],acc=>acc
 | (n,k) :: r,acc=>if k == .free then X3 cells r ((n,(cells.lookup n).getD 0) :: acc)else X3 cells r acc
theorem a0S{env:Env}:∀(names:List (Str × NameKind)) (acc:List (Str × Addr)),(∀ n,(n,NameKind.free)∈names→∃ c,env.cells.lookup n=some c) →
  (forIn names acc (fun(x:Str × NameKind) (cs:List (Str × Addr))=>if (x.2 == NameKind.free)=true then(do let a ← cellOf env x.1;pure (ForInStep.yield ((x.1,a) :: cs)))else pure (ForInStep.yield cs)):Sem (List (Str × Addr)))=pure (X3 env.cells names acc)
 | [],acc,_=>rfl
 | (n,k) :: r,acc,h=>by
  rw[c9c]
  unfold X3
  by_cases hk:(k == NameKind.free)=true
  ·have e:k = .free:=by cases k<;>first|rfl|(exact absurd hk (by decide))
   subst e
   obtain⟨c,hc⟩:=h n c7j
   rw[if_pos hk,if_pos hk]
   have e1:cellOf env n=pure c:=by unfold cellOf;rw[hc]
   rw[e1,pure_bind,pure_bind,hc]
   exact a0S r _ fun m hm=>h m (c6Y _ hm)
  ·rw[if_neg hk,if_neg hk,pure_bind]
   exact a0S r _ fun m hm=>h m (c6Y _ hm)
theorem a8H{scope:Scope}{env:Env}(h:∀ n,(n,NameKind.free)∈scope.names→∃ c,env.cells.lookup n=some c):closureFor scope env=pure (X3 env.cells scope.names []):=by
 have:=a0S (env:=env) scope.names [] h
 unfold closureFor
 first
  | (simp only[]at this ⊢;rw[← this];simp only[bind_pure];rfl)
  | (rw[← this];rfl)
  | (simp only[bind_pure,pure_bind];exact this)
theorem T1{cells:List (Str × Addr)}{x:Str}{c:Addr}:∀(names:List (Str × NameKind)) (acc:List (Str × Addr)),(∀ n,(n,NameKind.free)∈names→∃ c,cells.lookup n=some c)→(∀ y d,acc.lookup y=some d→cells.lookup y=some d)→(X3 cells names acc).lookup x=some c→cells.lookup x=some c
 | [],acc,_,ha,h=>ha x c h
 | (n,k) :: r,acc,hn,ha,h=>by
  unfold X3 at h
  by_cases hk:(k == NameKind.free)=true
  ·rw[if_pos hk]at h
   have e:k = .free:=by cases k<;>first|rfl|(exact absurd hk (by decide))
   subst e
   obtain⟨d,hd⟩:=hn n c7j
   refine T1 r _ (fun m hm=>hn m (c6Y _ hm)) (fun y e hy=>?_) h
   rw[c8d]at hy
   split at hy
   ·rename_i hz
    have hz':y=n:=by simpa using hz
    subst hz'
    rw[hd]at hy ⊢
    cases hy;rfl
   ·exact ha y e hy
  ·rw[if_neg hk]at h
   exact T1 r _ (fun m hm=>hn m (c6Y _ hm)) ha h
theorem a0h{cells:List (Str × Addr)}{x:Str}:∀(names:List (Str × NameKind)) (acc:List (Str × Addr)),((x,NameKind.free)∈names ∨ ∃ c,acc.lookup x=some c)→∃ c,(X3 cells names acc).lookup x=some c
 | [],acc,h=>by
  rcases h with h|h
  ·cases h
  ·exact h
 | (n,k) :: r,acc,h=>by
  unfold X3
  by_cases hk:(k == NameKind.free)=true
  ·rw[if_pos hk]
   refine a0h r _ ?_
   by_cases hx:x=n
   ·right;rw[c8d];simp[hx]
   ·rcases h with h|⟨c,h⟩
    ·rcases c6M.mp h with z|z
     ·injection z with z1 _;exact absurd z1 hx
     ·exact .inl z
    ·right
     refine⟨c,?_⟩
     rw[c8d]
     have:(x == n)=false:=by simpa using hx
     rw[this];exact h
  ·rw[if_neg hk]
   refine a0h r _ ?_
   rcases h with h|h
   ·rcases c6M.mp h with z|z
    ·injection z with _ z2
     subst z2
     exact absurd rfl hk
    ·exact .inl z
   ·exact .inr h
theorem a17{scope:Scope}{env:Env}{x:Str}{k:NameKind}(h:(relabel scope env).names.lookup x=some k)(hk:k = .cell∨k = .free)(hcell:∀ y∈scope.names,y.2 ≠ .cell):(x,NameKind.free)∈scope.names:=by
 have go:∀(l:List (Str × NameKind)),(∀ y∈l,y.2 ≠ .cell)→(l.map fun(n,k)=>if (k == NameKind.free && env.scope.kind == .function && env.kindOf n == some .cell)=true then(n,NameKind.cell)else(n,k)).lookup x=some k→(x,NameKind.free)∈l:=by
  intro l
  induction l with
  | nil=>intro _ h;cases h
  | cons p r ih =>
   intro hl h
   obtain⟨n,j⟩:=p
   rw[c7C,c8d]at h
   by_cases hj:j = .free
   ·subst hj
    by_cases hx:x=n
    ·subst hx;exact c7j
    ·refine c6Y _ (ih (fun y hy=>hl y (c6Y _ hy)) ?_)
     have e:∀ b:Bool,(x == (if b=true then(n,NameKind.cell)else(n,NameKind.free)).1)=false:=fun b=>by cases b<;>simpa using hx
     dsimp only at h
     rw[e]at h
     exact h
   ·have e:(j == NameKind.free)=false:=by simpa using hj
    have hc:=hl (n,j) c7j
    dsimp only at h
    rw[e]at h
    simp only[Bool.false_and,c7J,if_false]at h
    by_cases hx:x=n
    ·have:(x == n)=true:=by simpa using hx
     rw[this]at h
     have h':j=k:=by simpa using h
     subst h'
     rcases hk with z|z
     ·exact absurd z hc
     ·exact absurd z hj
    ·have:(x == n)=false:=by simpa using hx
     rw[this]at h
     exact c6Y _ (ih (fun y hy=>hl y (c6Y _ hy)) h)
 exact go scope.names hcell h
noncomputable def cxF(X:Cx)(scope:Scope)(cl:List (Str × Addr))(N':List Str)(s3:Shared)(H3:Hp)(C:Addr)(fp:List Addr)(pins:List (Addr × Obj)):Cx :=
 { X with N:=N',s₀:=s3,H₀:=H3,env:=compEnvC scope cl C X.env,outer:=X.stack,ex:=fp,fn:=fun _=>false,pn:=X.pn++pins,xe:=fun _ _=>False }
noncomputable def a63(n:Nat)(caps:List Nat)(σ:St):St:=c7b n none++caps.map fun i=>(σ[i]?).getD none
noncomputable def a82(n:Nat)(caps:List Nat)(wi:TI)(g:TG)(tc:TT)(te:TE):TE:=fun σ H Q=>wi σ H fun J H1=>∀ D,H1 D=none→∃ W:Nat→Nat→Hp→Prop,(∃ m,W 0 m (upd H1 D (.lst [])))∧∀ i m H,W i m H →
 (J.stop i H∧Q (.ref D) H)∨(J.go i H∧∀ x H',J.yld i H x H'→g x (a63 n caps σ) H' fun σ2 H2=>tc σ2 H2 fun b H2'=>if b=true then te σ2 H2' fun v H3=>∃ ys,H3 D=some (.lst ys)∧ys.length<sizeLine∧∃ m',m'<m∧W (i+1) m' (upd H3 D (.lst (ys++[v])))else ∃ m',m'<m∧W (i+1) m' H2')
section
variable {X:Cx} {elt tg iter:Expr} {scope:Scope} {cl:List (Str × Addr)} {tgs cps:List Str} {caps:List Nat} {wi:TI} {g:TG} {tc:TT} {te:TE} {pos:Pos} {ifs:List Expr}
noncomputable def b5r(s3:Shared)(H3:Hp)(fp:List Addr)(cl:List (Str × Addr))(x:Str)(v:V):Prop :=
 ∃(u:Value) (c:Addr) (o:Obj),u0 v u∧cl.lookup x=some c∧s3.heap.get? c=some o∧o.data = .cell (some u)∧H3 c=none∧c∉fp
theorem Inv.reset{pins pins':List (Addr × Obj)}{σ0 σ':St}{H3 H':Hp}{s3 s':Shared}{fp:List Addr}{C:Addr}(I:Inv (cxF X scope cl (tgs++cps) s3 H3 C fp pins) pins' σ' H' s')
  (hsc:∀ x∈cps,(relabel scope X.env).names.lookup x=some .cell∨(relabel scope X.env).names.lookup x=some .free) (hl:caps.length=cps.length)
  (hc:∀(j:Nat) (x:Str) (v:V),cps[j]? = some x→(caps.map fun i=>(σ0[i]?).getD none)[j]? = some (some v)→b5r s3 H3 fp cl x v) :
  Inv (cxF X scope cl (tgs++cps) s3 H3 C fp pins) pins' (a63 tgs.length caps σ0) H' s':=by
 obtain⟨m,hn,_⟩:=I.loc
 refine⟨I.ok,I.os,I.bare,I.base,⟨m,hn,fun i x v e1 e2 e3=>?_⟩,I.cell,I.free,I.freeC,I.pin,I.hok,by simp[a63,cxF,hl]⟩
 have e1:(tgs++cps)[i]? = some x:=e1
 unfold a63 at e2
 rw[c8x]at e1 e2
 rw[c8r]at e2
 by_cases hi:i<tgs.length
 ·rw[if_pos hi]at e2
  rw[c7N]at e2
  split at e2<;>cases e2
 ·rw[if_neg hi]at e1 e2
  obtain⟨u,c,o,r,h1,h2,h3,h4,h5⟩:=hc (i - tgs.length) x v e1 e2
  obtain⟨sl,k⟩:=I.base.any h2 h4 h5
  refine⟨u,r,.inr ⟨?_,c,h1,_,k,h3⟩⟩
  rcases hsc x (c6J e1)with z|z
  ·exact .inl z
  ·exact .inr z
theorem a8E{pins:List (Addr × Obj)}{σ0:St}{σ:St}{H3:Hp}{s3:Shared}{fp:List Addr}{it D C:Addr}{tn:Nat→Heap→Prop}{J:It}{h₁:Heap}{tk:Nat}{m:Str→Option Value}{R:Result→Shared→Prop}{Qd:Hp→Prop}
  (hc:X.calm=true) (hcell:∀ x∈scope.names,x.2 ≠ .cell) (hkind:scope.kind = .function)
  (hcl:∀ x c,cl.lookup x=some c→X.env.cells.lookup x=some c) (hhas:∀ x,(x,NameKind.free)∈scope.names→∃ c,cl.lookup x=some c)
  (hsc:∀ x∈cps,(relabel scope X.env).names.lookup x=some .cell∨(relabel scope X.env).names.lookup x=some .free) (hl:caps.length=cps.length)
  (hcap:∀(j:Nat) (x:Str) (v:V),cps[j]? = some x→(caps.map fun i=>(σ0[i]?).getD none)[j]? = some (some v)→b5r s3 H3 fp cl x v)
  (hg:∀ cl s3 H3 C fp pins,PG (cxF X scope cl (tgs++cps) s3 H3 C fp pins) tg g) (hq:∀ cl s3 H3 C fp pins,a1R (cxF X scope cl (tgs++cps) s3 H3 C fp pins) ifs tc) (he:∀ cl s3 H3 C fp pins,PE (cxF X scope cl (tgs++cps) s3 H3 C fp pins) elt te)
  (I3:Inv X pins σ H3 s3) (T:a66 X.prog X.w X.K tg J fp it tn) (st3:tn 0 s3.heap) (f3:∀ b∈fp,a0T X pins H3 b) (hC:C=s3.heap.objs.size) (hn:h₁.Ns C m) (hk:∀ b o,s3.heap.get? b=some o→h₁.get? b=some o)
  (W:Nat→Nat→Hp→Prop) (m0:Nat) (w0:W 0 m0 H3)
  (turn:∀ i m H,W i m H→(J.stop i H∧Qd H)∨(J.go i H∧∀ x H',J.yld i H x H'→g x (a63 tgs.length caps σ0) H' fun σ2 H2=>tc σ2 H2 fun b H2'=>if b=true then te σ2 H2' fun v H3=>∃ ys,H3 D=some (.lst ys)∧ys.length<sizeLine∧∃ m',m'<m∧W (i+1) m' (upd H3 D (.lst (ys++[v])))else ∃ m',m'<m∧W (i+1) m' H2'))
  (hR:∀ s' H' σ',Inv (cxF X scope cl (tgs++cps) s3 H3 C fp pins) [] σ' H' s'→Qd H'→R (.ok .next) s') :
  codeAny (model X.prog X.w) X.A (.compStart (.ListComp elt [⟨tg,iter,ifs,0⟩] scope pos) 0 (.ref it) (.ref D) (compEnvC scope cl C X.env)) R { s3 with heap:=h₁,toks:=tk }:=by
 have lt3:∀ b∈fp,b<s3.heap.objs.size:=fun b hb=>by
  obtain⟨o,e,_⟩:=T.obj 0 _ st3 b hb
  exact c6I e
 have ok':(cxF X scope cl (tgs++cps) s3 H3 C fp pins).Ok:={
  mod:=I3.ok.mod
  kind:=hkind
  glob:=I3.ok.glob
  blt:=I3.ok.blt
  above:=c9J hC.symm
  inj:=fun x y c e e'=>I3.ok.inj x y c (hcl x c e) (hcl y c e')
  has:=fun x h=>by
   rcases h with h|h
   ·exact hhas x (a17 h (.inl rfl) hcell)
   ·exact hhas x (a17 h (.inr rfl) hcell)
  cab:=fun x c h=>by cases h
  hd:=fun _=>I3.ok.hd hc
  frames:=I3.ok.frames
  stk:=.inl rfl
  exf:=fun b hb=>⟨fun z=>by
   have z':b=C:=z
   have h1:=lt3 b hb
   rw[z',hC]at h1
   exact c7R _ h1,fun x c e=>(f3 b hb).2.2.2.2.1 x c (hcl x c e)⟩
  bs:=fun b o e=>I3.bs b o e
  bsz:=c6D I3.ok.bsz I3.sz
  noex:=fun b o e hb=>by
   obtain⟨_,_,_,q,_⟩:=f3 b hb
   rcases q with q|q
   ·exact I3.ok.noex b o e q
   ·have h1:=c6I e
    exact absurd (c6A (c6A h1 I3.ok.bsz) q) (c7R _)
  exfs:=fun b hb z=>by
   obtain⟨_,q1,q2,_⟩:=f3 b hb
   rcases c6M.mp (I3.stkSub b z)with y|y
   ·exact q1 y
   ·exact q2 y
  funs:=I3.stack
  frf:=I3.stkFree }
 have J0:Inv (cxF X scope cl (tgs++cps) s3 H3 C fp pins) [] (c7b (tgs++cps).length none) H3 { s3 with heap:=h₁,toks:=tk }:={
  ok:=ok'
  os:=rfl
  bare:=I3.bare
  base:=Un.kept hk
  loc:=⟨m,hn,fun i x v _ e _=>by
   rw[c7N]at e
   split at e<;>cases e⟩
  cell:=fun x c e=>by
   obtain⟨v,o,ho,hd⟩:=I3.cell x c (hcl x c e)
   exact⟨v,o,hk c o ho,hd⟩
  free:=I3.hok.fresh (c9J hC.symm)
  freeC:=fun x c e=>I3.freeC x c (hcl x c e)
  pin:=fun p hp=>by
   have hp':p∈X.pn++pins:=by simpa[cxF]using hp
   obtain⟨a1,a2,a3,a4,a5⟩:=I3.pin p hp'
   refine⟨hk _ _ a1,a2,fun z=>?_,fun z=>?_,a5⟩
   ·have z':p.1=C:=z
    have h1:=c6I a1
    rw[z',hC]at h1
    exact c7R _ h1
   ·rcases c6M.mp (I3.stkSub _ z)with y|y
    ·exact a3 y
    ·exact a4 y
  hok:=I3.hok.kept hk
  len:=by simp[cxF] }
 have stat:∀{H':Hp},(∀ b∈fp,H' b=none)→∀ b∈fp,a0T (cxF X scope cl (tgs++cps) s3 H3 C fp pins) [] H' b:=fun hn b hb=>by
  obtain⟨_,_,_,_,_,q⟩:=f3 b hb
  exact⟨hn b hb,(ok'.exf b hb).1,ok'.exfs b hb,.inl hb,(ok'.exf b hb).2,fun p hp=>q p (by simpa[cxF]using hp)⟩
 have loop:codeAny (model X.prog X.w) X.A (.compLoop (.ListComp elt [⟨tg,iter,ifs,0⟩] scope pos) 0 (.ref it) (.ref D) (compEnvC scope cl C X.env)) R { s3 with heap:=h₁,toks:=tk }:=by
  refine a61 (fun n s'=>∃ i σ' H',Inv (cxF X scope cl (tgs++cps) s3 H3 C fp pins) [] σ' H' s'∧tn i s'.heap∧(∀ b∈fp,H' b=none)∧W i n H') ?_ m0
   ⟨0,_,H3,J0,T.keep _ _ _ st3 fun b hb o e=>hk b o e,fun b hb=>(f3 b hb).1,w0⟩
  rintro n s4 ⟨i,σ4,H4,I4,st4,fr4,w4⟩
  rcases turn i n H4 w4 with⟨stop,qn⟩|⟨go,step⟩
  ·refine thn (T.done (cxF X scope cl (tgs++cps) s3 H3 C fp pins) rfl rfl rfl hc i [] s4 σ4 H4 _ I4 (stat fr4) st4 stop) fun r s5 zz=>?_
   obtain⟨hr,I5⟩:=zz
   subst hr
   exact hR s5 H4 σ4 I5 qn
  ·refine thn (T.item (cxF X scope cl (tgs++cps) s3 H3 C fp pins) rfl rfl rfl hc i [] s4 σ4 H4 _ I4 (stat fr4) st4 go) fun r s5 zz=>?_
   obtain⟨u,hr,h5⟩:=zz
   subst hr
   refine thn h5 fun _ s6 zz=>?_
   obtain⟨x,H6,I6,r6,y6,st6,fr6⟩:=zz
   have I6w:=I6.reset hsc hl hcap
   have I6':=I6w.pinned (stat fr6) (T.obj _ _ st6)
   refine wpAny_mono (hg cl s3 H3 C fp pins _ s6 _ H6 x u _ I6' r6 (step x H6 y6)) (fun _ s7 ⟨σ7,H7,I7,q7⟩=>?_) fun _ _ z=>z.elim
   refine wpAny_mono (hq cl s3 H3 C fp pins _ s7 σ7 H7 _ I7 q7) (fun b s7' ⟨H7',I7',q7'⟩=>?_) fun _ _ z=>z.elim
   cases b with
   | false =>
    obtain⟨m',hm,w8⟩:=q7'
    refine⟨m',hm,i+1,σ7,H7',I7'.unpinned,T.keep _ _ _ st6 fun b hb o e=>(I7'.pin (b,o) (c7a _ (c7a _ (F8 hb e)))).1,fun b hb=>?_,w8⟩
    obtain⟨o,e,d⟩:=T.obj _ _ st6 b hb
    exact(I7'.pin (b,o) (c7a _ (c7a _ (F8 hb e)))).2.1
   | true =>
    refine wpAny_mono (he cl s3 H3 C fp pins _ s7' σ7 H7' _ I7' q7') (fun v s8 ⟨y,H8,I8,r8,q8⟩=>?_) fun _ _ z=>z.elim
    obtain⟨ys,hy,hz,m',hm,w8⟩:=q8
    refine wpAny_mono (a5D (X:=cxF X scope cl (tgs++cps) s3 H3 C fp pins) _ s8 σ7 H8 (.ref D) [y] (.ref D) [v] (fun _ H9=>W (i+1) m' H9) I8 rfl (.cons r8 .nil) ⟨D,ys,y,rfl,rfl,hy,hz,w8⟩) (fun _ s9 ⟨_,H9,I9,_,w9⟩=>?_) fun _ _ z=>z.elim
    refine⟨m',hm,i+1,σ7,H9,I9.unpinned,T.keep _ _ _ st6 fun b hb o e=>(I9.pin (b,o) (c7a _ (c7a _ (F8 hb e)))).1,fun b hb=>?_,w9⟩
    obtain⟨o,e,d⟩:=T.obj _ _ st6 b hb
    exact(I9.pin (b,o) (c7a _ (c7a _ (F8 hb e)))).2.1
 exact codeAny_compStart_list loop (T.self _ 0 _ _ _ (T.keep _ _ _ st3 fun b hb o e=>hk b o e) loop)
theorem a5N(hc:X.calm=true)(hcell:∀ x∈scope.names,x.2 ≠ .cell)(hkind:scope.kind = .function)(hnames:∀ x∈scope.names,x.2 = .local→scope.names.lookup x.1=some .local)
  (hfr:∀ x∈scope.names,x.2 = .free→x.1∈cps) (hN:caps.map (fun i=>X.N[i]?)=cps.map some) (hX:∀ x∈cps,X.env.scope.names.lookup x=some .cell∧scope.names.lookup x=some .free)
  (hsc:∀ x∈cps,(relabel scope X.env).names.lookup x=some .cell∨(relabel scope X.env).names.lookup x=some .free)
  (hi:PI X tg iter wi) (hg:∀ cl s3 H3 C fp pins,PG (cxF X scope cl (tgs++cps) s3 H3 C fp pins) tg g) (hq:∀ cl s3 H3 C fp pins,a1R (cxF X scope cl (tgs++cps) s3 H3 C fp pins) ifs tc) (he:∀ cl s3 H3 C fp pins,PE (cxF X scope cl (tgs++cps) s3 H3 C fp pins) elt te)
  (hs:∀ x,foldedSetIterable iter X.env x=pure x) {use:Option (Value→Sem Unit)} {Qf:Value→Shared→Prop} {pins:List (Addr × Obj)} {s:Shared} {σ:St} {H:Hp} {Q:VK} (I:Inv X pins σ H s) (h:a82 tgs.length caps wi g tc te σ H Q)
  (hU:∀(D C:Addr) (s':Shared) (H4:Hp) (m4:Str→Option Value),s'.heap.Ns C m4→a0T X pins H4 C→(∀ h',Heap.SameBut C s'.heap h'→Inv X pins σ H4 { s' with heap:=h' })→Q (.ref D) H4→compPost (model X.prog X.w) X.A X.xe use Qf (.ref D) C (.ok .next) s') :
  wpAny (model X.prog X.w) X.A (comprehension (.ListComp elt [⟨tg,iter,ifs,0⟩] scope pos) scope X.env (firstIterPos [⟨tg,iter,ifs,0⟩] pos) (newList []) false (eval iter X.env) use) Qf X.xe s:=by
 have hl:caps.length=cps.length:=by
  have:=congrArg c9k hN
  simpa using this
 have hcells:∀ n,(n,NameKind.free)∈scope.names→∃ c,X.env.cells.lookup n=some c:=fun n hn=>I.ok.has n (.inl (hX n (hfr _ hn rfl)).1)
 refine wpAny_comprehension_free (use:=use) rfl hs (a8H hcells) hkind hnames (thn (hi pins s σ H _ I h) fun v s1 h1=>thn h1 fun itv s2 h2=>?_)
 obtain⟨it,fp,tn,J,H',e,I2,T,st2,f2,hW⟩:=h2
 subst e
 refine wpAny_newObj_type (hd:=by size_fits) (wpAny_newFunctionEnv hcell (by intro y hy;simp at hy) (fun h₁ hns₁ hsb₁=>?_) hkind)
 dsimp only at hns₁ hsb₁ ⊢
 have I3:=I2.lnew (ys:=[]) (its:=[]) (t':=s2.toks) .nil (c7m _)
 obtain⟨W,⟨m0,w0⟩,turn⟩:=hW _ I2.fresh
 have st3:tn 0 (s2.heap.push { cls:=.type "list",data:=.seq ([]:List Value).toArray }):=T.keep _ _ _ st2 fun b hb o e=>c6y _ e
 have f3:∀ b∈fp,a0T X pins (upd H' s2.heap.objs.size (.lst [])) b:=fun b hb=>by
  obtain⟨q0,q⟩:=f2 b hb
  obtain⟨o,e,_⟩:=T.obj 0 _ st2 b hb
  exact⟨by rw[j4 (c7h (c6I e))];exact q0,q⟩
 have old:∀ b o,(s2.heap.push { cls:=.type "list",data:=.seq ([]:List Value).toArray }).get? b=some o→h₁.get? b=some o:=fun b o e =>
  hsb₁.extBut b o (c7h (c6I e)) (c6y _ e)
 have hcap:∀(j:Nat) (x:Str) (v:V),cps[j]? = some x→(caps.map fun i=>(σ[i]?).getD none)[j]? = some (some v) →
   b5r { s2 with heap:=s2.heap.push { cls:=.type "list",data:=.seq ([]:List Value).toArray },toks:=s2.toks } (upd H' s2.heap.objs.size (.lst [])) fp (X3 X.env.cells scope.names []) x v:=fun j x v ex ev=>by
  have hx:=hX x (c6J ex)
  have hj:(caps.map (fun i=>X.N[i]?))[j]? = some (some x):=by rw[hN,c6K,ex];rfl
  rw[c6K]at ev hj
  cases hcj:caps[j]? with
  | none=>rw[hcj]at ev;cases ev
  | some i =>
   rw[hcj]at ev hj
   have ev':(σ[i]?).getD none=some v:=by simpa using ev
   have hj':X.N[i]? = some x:=by simpa using hj
   have es:σ[i]? = some (some v):=by
    cases q:σ[i]? with
    | none=>rw[q]at ev';cases ev'
    | some w=>rw[q]at ev';rw[show w=some v by simpa using ev']
   obtain⟨m,hn,hlook⟩:=I3.loc
   obtain⟨u,ru,lk⟩:=hlook i x v hj' es (.inr (.inl hx.1))
   rcases lk with⟨k1,_⟩|⟨_,c,hc1,o,ho,hd⟩
   ·have k1':X.env.scope.names.lookup x=some .local:=k1
    rw[hx.1]at k1';cases k1'
   ·have hmem:(x,NameKind.free)∈scope.names:=by
     have hlk:=hx.2
     have go:∀ l:List (Str × NameKind),l.lookup x=some .free→(x,NameKind.free)∈l:=by
      intro l
      induction l with
      | nil=>intro z;cases z
      | cons p r ih =>
       intro z
       obtain⟨n,k⟩:=p
       rw[c8d]at z
       split at z
       ·rename_i q;have q':x=n:=by simpa using q
        have z':k = .free:=by simpa using z
        rw[q',z'];exact c7j
       ·exact c6Y _ (ih z)
     exact go _ hlk
    obtain⟨c',hc'⟩:=a0h (cells:=X.env.cells) scope.names [] (.inl hmem)
    have:=T1 scope.names [] hcells (fun y d z=>by cases z) hc'
    rw[hc1]at this
    cases this
    refine⟨u,c,o,ru,hc',ho,hd,I3.freeC x c hc1,fun hb=>?_⟩
    exact(f3 c hb).2.2.2.2.1 x c hc1 rfl
 refine a8E (s3:={ s2 with heap:=s2.heap.push { cls:=.type "list",data:=.seq ([]:List Value).toArray },toks:=s2.toks }) (Qd:=fun H=>Q (.ref s2.heap.objs.size) H) (tk:=s2.toks+([]:List (Str × Value)).length) (cl:=X3 X.env.cells scope.names [])
  hc hcell hkind (fun x c z=>T1 scope.names [] hcells (fun y d z=>by cases z) z) (fun x z=>a0h scope.names [] (.inl z)) hsc hl hcap hg hq he I3 T st3 f3 rfl hns₁ old W m0 w0 turn fun s' H4 σ4 I4 q4=>?_
 obtain⟨m4,hn4,_⟩:=I4.loc
 have hCfree:H4 _=none:=I4.free
 have nC:∀ b u,H4 b=some u→b≠(s2.heap.push { cls:=.type "list",data:=.seq ([]:List Value).toArray }).objs.size:=fun b u e z=>by
  rw[z]at e
  have:=e.symm.trans hCfree
  cases this
 have lt:∀ b o,(s2.heap.push { cls:=.type "list",data:=.seq ([]:List Value).toArray }).get? b=some o→b≠(s2.heap.push { cls:=.type "list",data:=.seq ([]:List Value).toArray }).objs.size:=fun b o e=>c7h (c6I e)
 have ub:=I4.base
 have fC:a0T X pins H4 (s2.heap.push { cls:=.type "list",data:=.seq ([]:List Value).toArray }).objs.size:=I3.fpOk (c6U _) hCfree
 refine hU _ _ s' H4 m4 hn4 fC (fun h' hsb=>?_) q4
 have un:Un (frs X.stack) fp (upd H' s2.heap.objs.size (.lst [])) H4 (s2.heap.push { cls:=.type "list",data:=.seq ([]:List Value).toArray }) h':={
  keep:=fun b o e n x y=>(hsb.2 b (lt b o e)).trans (ub.keep b o e n x y)
  slot:=fun b o e n x y=>let ⟨q,z⟩:=ub.slot b o e n x y;⟨q,(hsb.2 b (lt b o e)).trans z⟩
  free:=ub.free
  there:=fun b o e y=>let ⟨q,z⟩:=ub.there b o e y;⟨q,(hsb.2 b (lt b o e)).trans z⟩
  tups:=ub.tups
  frzs:=ub.frzs
  tbls:=ub.tbls }
 refine I3.call' (s':={ s' with heap:=h' }) I4.os un (fun b u e=>?_) I4.bare fun b hb=>?_
 ·refine(I4.hok b u e).stay (fun c v hcv q=>(hsb.2 c ?_).trans q) (fun _ q=>q) fun _ _ q=>q
  rcases hcv with z|z
  ·rw[z];exact nC b u e
  ·exact nC c _ z
 ·obtain⟨q0,q1,q2,q3,q4,q5⟩:=f3 b hb
  exact⟨q3,q1,q4,q5⟩
theorem a77(hc:X.calm=true)(hcell:∀ x∈scope.names,x.2 ≠ .cell)(hkind:scope.kind = .function)(hnames:∀ x∈scope.names,x.2 = .local→scope.names.lookup x.1=some .local)
  (hfr:∀ x∈scope.names,x.2 = .free→x.1∈cps) (hN:caps.map (fun i=>X.N[i]?)=cps.map some) (hX:∀ x∈cps,X.env.scope.names.lookup x=some .cell∧scope.names.lookup x=some .free)
  (hsc:∀ x∈cps,(relabel scope X.env).names.lookup x=some .cell∨(relabel scope X.env).names.lookup x=some .free)
  (hi:PI X tg iter wi) (hg:∀ cl s3 H3 C fp pins,PG (cxF X scope cl (tgs++cps) s3 H3 C fp pins) tg g) (hq:∀ cl s3 H3 C fp pins,a1R (cxF X scope cl (tgs++cps) s3 H3 C fp pins) ifs tc) (he:∀ cl s3 H3 C fp pins,PE (cxF X scope cl (tgs++cps) s3 H3 C fp pins) elt te)
  (hs:∀ x,foldedSetIterable iter X.env x=pure x:=by intro _;rfl):PE X (.ListComp elt [⟨tg,iter,ifs,0⟩] scope pos) (a82 tgs.length caps wi g tc te):=by
 intro pins s σ H Q I h
 rw[eval_ListComp]
 exact a5N hc hcell hkind hnames hfr hN hX hsc hi hg hq he hs I h fun D C s' H4 m4 hn4 fC hI q4=>⟨m4,hn4,fun h' hsb=>⟨.ref D,H4,hI h' hsb,rfl,q4⟩⟩
noncomputable def PU(X:Cx)(i:Nat)(x:Str)(pos':Pos)(e:Expr)(te:TE):Prop:=∀(pins:List (Addr × Obj)) (s:Shared) (σ:St) (H:Hp) (Q:VK),Inv X pins σ H s→te σ H Q →
 wpAny (model X.prog X.w) X.A (evalThenUse e X.env (assign (.Name x pos') X.env)) (fun _ s'=>∃ v H',Inv X pins (σ.set i (some v)) H' s'∧Q v H') X.xe s
theorem PU.imp{X:Cx}{i:Nat}{x:Str}{pos':Pos}{e:Expr}{t t':TE}(h:PU X i x pos' e t)(f:∀ σ H Q,t' σ H Q→t σ H Q):PU X i x pos' e t':=fun pins s σ H Q I q=>h pins s σ H Q I (f σ H Q q)
theorem b0W{i:Nat}{x:Str}{pos' pos:Pos}{e:Expr}{te:TE}(h:PU X i x pos' e te)(hs:swapsWith e (some (.Name x pos')) pos.line X.env=pure true):PS X (.Assign [.Name x pos'] e pos) (b9i te (b4D i)):=by
 intro pins s σ H D I q
 rw[exec_Assign_Name_used _ _ _ _ hs]
 refine c6u (wpAny_standAt (c6u (thn (h pins s σ H _ I q) fun _ s1 ⟨v,H1,I1,q1⟩=>c6E ?_)))
 exact⟨_,H1,I1,q1⟩
theorem a74(hc:X.calm=true)(hcell:∀ x∈scope.names,x.2 ≠ .cell)(hkind:scope.kind = .function)(hnames:∀ x∈scope.names,x.2 = .local→scope.names.lookup x.1=some .local)
  (hfr:∀ x∈scope.names,x.2 = .free→x.1∈cps) (hN:caps.map (fun i=>X.N[i]?)=cps.map some) (hX:∀ x∈cps,X.env.scope.names.lookup x=some .cell∧scope.names.lookup x=some .free)
  (hsc:∀ x∈cps,(relabel scope X.env).names.lookup x=some .cell∨(relabel scope X.env).names.lookup x=some .free)
  (hi:PI X tg iter wi) (hg:∀ cl s3 H3 C fp pins,PG (cxF X scope cl (tgs++cps) s3 H3 C fp pins) tg g) (hq:∀ cl s3 H3 C fp pins,a1R (cxF X scope cl (tgs++cps) s3 H3 C fp pins) ifs tc) (he:∀ cl s3 H3 C fp pins,PE (cxF X scope cl (tgs++cps) s3 H3 C fp pins) elt te)
  {i:Nat} {x:Str} {pos':Pos} (hNd:X.N.Nodup) (hxi:X.N[i]? = some x) (hx:Loc X.env.scope x) (hf:X.fn x=true∨X.env.scope.names.lookup x=some .local)
  (hs:∀ x,foldedSetIterable iter X.env x=pure x:=by intro _;rfl):PU X i x pos' (.ListComp elt [⟨tg,iter,ifs,0⟩] scope pos) (a82 tgs.length caps wi g tc te):=by
 intro pins s σ H Q I h
 refine c6u (thn (a5N (use:=some (assign (.Name x pos') X.env)) (Qf:=fun _ s'=>∃ v H',Inv X pins (σ.set i (some v)) H' s'∧Q v H') hc hcell hkind hnames hfr hN hX hsc hi hg hq he hs I h fun D C s' H4 m4 hn4 fC hI q4=>?_) fun _ s1 z=>c6E z)
 have I4:Inv X pins σ H4 s':=hI s'.heap (Heap.SameBut.refl _ _)
 show wpAny _ _ (assign (.Name x pos') X.env (.ref D)) _ _ s'
 refine wpAny_assign_Name (a5v (v:=.ref D) I4 hNd hxi hx rfl (fun s2 I2 ⟨a,hsb,ha⟩=>?_) hf)
 have hac:C≠a:=by
  rcases ha with ha|ha
  ·rw[ha];exact fC.2.1
  ·exact Ne.symm (fC.2.2.2.2.1 x a ha)
 refine⟨m4,hn4.sameBut hsb hac,fun h' hs'=>⟨.ref D,H4,?_,q4⟩⟩
 exact I2.turned (t':=s2.toks) (fun b o hb e=>hs'.extBut b o hb e) fC.1 fC.2.1 fC.2.2.2.1 fC.2.2.2.2.1 fC.2.2.2.2.2
end
end L2
namespace L2
open PySem
noncomputable def SI:Bool→Heap→Addr→Addr→Nat→Prop
 | true,h,it,a,i=>h.IsListIter it a i
 | false,h,it,a,i=>h.IsTupleIter it a i
noncomputable def SS:Bool→Heap→Addr→Array Value→Prop
 | true,h,a,xs=>h.IsList a xs
 | false,h,a,xs=>h.IsTuple a xs
theorem SI.at{k:Bool}{h h':Heap}{it a:Addr}{i:Nat}(x:SI k h it a i)(f:∀ o,h.get? it=some o→h'.get? it=some o):SI k h' it a i:=by
 cases k<;>(obtain⟨o,e,r⟩:=x;exact⟨o,f o e,r⟩)
theorem SS.at{k:Bool}{h h':Heap}{a:Addr}{xs:Array Value}(x:SS k h a xs)(f:∀ o,h.get? a=some o→h'.get? a=some o):SS k h' a xs:=by
 cases k<;>(obtain⟨o,e,r⟩:=x;exact⟨o,f o e,r⟩)
theorem SI.obj{k:Bool}{h:Heap}{it a:Addr}{i:Nat}(x:SI k h it a i):∃ o,h.get? it=some o∧∀ v,o.data ≠ .cell v:=by
 cases k<;>(obtain⟨o,e,c,d⟩:=x;exact⟨o,e,fun v z=>by rw[d]at z;cases z⟩)
theorem SS.obj{k:Bool}{h:Heap}{a:Addr}{xs:Array Value}(x:SS k h a xs):∃ o,h.get? a=some o:=by
 cases k<;>(obtain⟨o,e,_⟩:=x;exact⟨o,e⟩)
section
variable {prog:Program} {w:World} {A:Around} {E:Value→Shared→Prop} {s:Shared}
theorem b1x{p t:Addr}{n:Nat}{xs:Array Value}{v:Value}{Q:Value→Shared→Prop}(hp:s.heap.IsTupleIter p t n)(ht:s.heap.IsTuple t xs)(hv:xs[n]? = some v)
  (q:∀ h',h'.IsTupleIter p t (n+1)→Heap.SameBut p s.heap h'→Q v { s with heap:=h' }):wpAny (model prog w) A (Builtin.SmallTypes.nextOf (.ref p)) Q E s:=by
 obtain⟨ob,e1,e2,e3⟩:=id hp
 obtain⟨ot,f1,_,cap,f2⟩:=ht
 unfold Builtin.SmallTypes.nextOf
 refine c6u (wpAny_callSpecial?_slot (name:=Str.ofString "__next__") hp.typeIs F.slot_tuple_iterator_next (wpAny_call_entry F.slot_tuple_iterator_next hp.typeIs F.entry_tuple_iterator_next ?_ (F.args_tuple_iterator_next_1 _)))
 show wpAny _ _ (field (.ref p) 0 >>= _) _ _ s
 refine c6u (wpAny_field e1 e3 (x:=.ref t) rfl ?_)
 show wpAny _ _ (if (Value.ref t == Value.none)=true then _ else _) _ _ s
 rw[if_neg (fun z:(Value.ref t == Value.none)=true=>nomatch z)]
 show wpAny _ _ (field (.ref p) 1 >>= _) _ _ s
 refine c6u (wpAny_field e1 e3 (x:=.int n 0) rfl ?_)
 show wpAny _ _ (seqItems? (.ref t) >>= _) _ _ s
 refine c6u (wpAny_seqItems f1 f2 ?_)
 simp only[c7A,hv]
 refine c6u (wpAny_setField e1 e3 (by simp) (c6E ⟨v,rfl,c6E (q _ ⟨_,c7n _ e1 (Obj.isFreed_of_fields (Obj.data_mapFields e3 _)),(Obj.cls_mapFields ..).trans e2,?_⟩ (Heap.SameBut.update ..))⟩))
 rw[Obj.data_mapFields e3];simp[rawInt]
theorem b3m{p t:Addr}{n:Nat}{xs:Array Value}{Q:Value→Shared→Prop}(hA:A.handled=none)(hp:s.heap.IsTupleIter p t n)(ht:s.heap.IsTuple t xs)(hv:xs[n]? = none)
  (q:∀ h' e,Heap.ExtBut p s.heap h'→(∃ o,h'.get? e=some o∧o.cls = .type "StopIteration")→E (.ref e) { s with heap:=h' }):wpAny (model prog w) A (Builtin.SmallTypes.nextOf (.ref p)) Q E s:=by
 obtain⟨ob,e1,e2,e3⟩:=id hp
 obtain⟨ot,f1,_,cap,f2⟩:=ht
 unfold Builtin.SmallTypes.nextOf
 refine c6u (wpAny_callSpecial?_slot (name:=Str.ofString "__next__") hp.typeIs F.slot_tuple_iterator_next (wpAny_call_entry F.slot_tuple_iterator_next hp.typeIs F.entry_tuple_iterator_next ?_ (F.args_tuple_iterator_next_1 _)))
 show wpAny _ _ (field (.ref p) 0 >>= _) _ _ s
 refine c6u (wpAny_field e1 e3 (x:=.ref t) rfl ?_)
 show wpAny _ _ (if (Value.ref t == Value.none)=true then _ else _) _ _ s
 rw[if_neg (fun z:(Value.ref t == Value.none)=true=>nomatch z)]
 show wpAny _ _ (field (.ref p) 1 >>= _) _ _ s
 refine c6u (wpAny_field e1 e3 (x:=.int n 0) rfl ?_)
 show wpAny _ _ (seqItems? (.ref t) >>= _) _ _ s
 refine c6u (wpAny_seqItems f1 f2 ?_)
 simp only[c7A,hv]
 refine c6u (wpAny_rule (c6u (wpAny_setField e1 e3 (by simp) ?_)))
 show wpAny _ _ (newExc (.type "StopIteration") [] >>= _) _ _ _
 refine c6u ?_;simp only[newExc,newTuple]
 refine c6u (wpAny_newObj_type ?_ (by size_fits));refine c6u (m:=firstArgMember _ _) (wpAny_of_eq (a:=Value.none) (by first|rfl|(simp only[firstArgMember];rfl)) ?_)
 refine wpAny_newObj_type ?_ (by size_fits);simp only[raiseNew];refine c6u (wpAny_handled ?_)
 first|rw[show A.in1.handled=none from hA]|rw[hA]
 refine c6u (c6E (wpAny_throw (q _ _ (((Heap.SameBut.update ..).extBut.push _).push _) ⟨_,c6G _ rfl,rfl⟩)))
theorem a2m{k:Bool}{p a:Addr}{n:Nat}{xs:Array Value}{v:Value}{Q:Value→Shared→Prop}(hp:SI k s.heap p a n)(ha:SS k s.heap a xs)(hv:xs[n]? = some v)
  (q:∀ h',SI k h' p a (n+1)→Heap.SameBut p s.heap h'→Q v { s with heap:=h' }):wpAny (model prog w) A (Builtin.SmallTypes.nextOf (.ref p)) Q E s:=by
 cases k with
 | true=>exact wpAny_nextOf_list_item hp ha hv q
 | false=>exact b1x hp ha hv q
theorem a86{k:Bool}{p a:Addr}{n:Nat}{xs:Array Value}{Q:Value→Shared→Prop}(hA:A.handled=none)(hp:SI k s.heap p a n)(ha:SS k s.heap a xs)(hv:xs[n]? = none)
  (q:∀ h' e,Heap.ExtBut p s.heap h'→(∃ o,h'.get? e=some o∧o.cls = .type "StopIteration")→E (.ref e) { s with heap:=h' }):wpAny (model prog w) A (Builtin.SmallTypes.nextOf (.ref p)) Q E s:=by
 cases k with
 | true=>exact wpAny_nextOf_list_end hA hp ha hv q
 | false=>exact b3m hA hp ha hv q
theorem SI.but{k:Bool}{h h':Heap}{it a b:Addr}{i:Nat}(x:SI k h it a i)(e:Heap.ExtBut b h h')(n:it≠b):SI k h' it a i:=x.at fun o z=>e it o n z
theorem SS.but{k:Bool}{h h':Heap}{a b:Addr}{xs:Array Value}(x:SS k h a xs)(e:Heap.ExtBut b h h')(n:a≠b):SS k h' a xs:=x.at fun o z=>e a o n z
theorem b5t{z TI TO p1 p2 l1 l2:Addr}{c1 c2:Bool}{n1 n2:Nat}{xs ys:Array Value}{v1 v2 u1 u2:Value}{Q:Option Value→Shared→Prop}(D:ZipApart z TI TO p1 p2 l1 l2)
  (iz:IsZip s.heap z TI TO .none) (iI:IsPair s.heap TI (.ref p1) (.ref p2)) (iO:IsPair s.heap TO u1 u2) (g1:SI c1 s.heap p1 l1 n1) (g2:SI c2 s.heap p2 l2 n2) (m1:SS c1 s.heap l1 xs) (m2:SS c2 s.heap l2 ys) (w1:xs[n1]? = some v1) (w2:ys[n2]? = some v2)
  (q:∀ h',IsZip h' z TI TO (rawInt s.heap.objs.size)→IsPair h' TO v1 v2→SI c1 h' p1 l1 (n1+1)→SI c2 h' p2 l2 (n2+1)→IsPair h' s.heap.objs.size v1 v2→h'.objs.size=s.heap.objs.size+1 →
   (∀ b o,b≠z→b≠TO→b≠p1→b≠p2→s.heap.get? b=some o→h'.get? b=some o)→Q (some (.ref s.heap.objs.size)) { s with heap:=h' }):wpAny (model prog w) A (pyNext (.ref z)) Q E s:=by
 have ty:s.TypeIs (.ref z) "zip" := ⟨_,iz,rfl⟩
 unfold pyNext
 refine c6u (wpAny_attempt (wpAny_callSpecial?_slot (name:=Str.ofString "__next__") ty F.slot_zip_next (wpAny_call_entry F.slot_zip_next ty F.entry_zip_next ?_ (F.args_zip_next_1 _))))
 show wpAny _ _ (field (.ref z) 2 >>= _) _ _ _
 refine c6u (wpAny_field iz rfl (x:=.bool false) rfl ?_)
 show wpAny _ _ (field (.ref z) 3 >>= _) _ _ _
 refine c6u (wpAny_field iz rfl (x:=.ref TI) rfl (c6u (wpAny_seqItems iI rfl ?_)))
 show wpAny _ _ (Builtin.SmallTypes.ownedTupleIsFree (.ref z) >>= _) _ _ _
 refine c6u ?_;unfold Builtin.SmallTypes.ownedTupleIsFree
 refine c6u (wpAny_field iz rfl (x:=.none) rfl (c6E ?_));simp only[if_true]
 refine c6u (wpAny_rule (c6u (wpAny_field iz rfl (x:=.ref TO) rfl (c6u (wpAny_setField_rec iz (by simp) fun ha za sa=>?_)))))
 replace za:IsZip ha z TI TO .ellipsis:=za
 refine c6u ?_;simp only[c9N,List.zipIdx_nil,c9c,List.forIn_nil]
 refine c6u (c6u (wpAny_onRaise ?_))
 show wpAny _ _ (Builtin.SmallTypes.nextOf (.ref p1) >>= _) _ _ _
 refine c6u (a2m (g1.but sa.extBut D.i1z) (m1.but sa.extBut D.l1z) w1 fun hb gb sb=>c6E ?_)
 have oB:IsPair hb TO u1 u2:=sb.extBut _ _ D.TOi1 (sa.extBut _ _ D.TOz iO)
 refine c6u (wpAny_seqItems oB rfl (c6u (wpAny_updateSeq_pair oB fun hc oC sc=>?_)))
 replace oC:IsPair hc TO v1 u2:=oC
 refine c6u (wpAny_letGo (c6E (c6u (c6u (wpAny_onRaise ?_)))))
 show wpAny _ _ (Builtin.SmallTypes.nextOf (.ref p2) >>= _) _ _ _
 refine c6u (a2m (((g2.but sa.extBut D.i2z).but sb.extBut D.i12.symm).but sc.extBut D.TOi2.symm) (((m2.but sa.extBut D.l2z).but sb.extBut D.l2i1).but sc.extBut D.l2TO) w2 fun hd gd sd=>c6E ?_)
 have oD:IsPair hd TO v1 u2:=sd.extBut _ _ D.TOi2 oC
 refine c6u (wpAny_seqItems oD rfl (c6u (wpAny_updateSeq_pair oD fun he oE se=>?_)))
 replace oE:IsPair he TO v1 v2:=oE
 refine c6u (wpAny_letGo (c6E (c6E (c6u (wpAny_seqItems oE rfl (c6u (wpAny_newTuple ?_)))))))
 have zs:he.objs.size=s.heap.objs.size:=by rw[se.1,sd.1,sc.1,sb.1,sa.1]
 have zE:IsZip he z TI TO .ellipsis:=se.extBut _ _ D.TOz.symm (sd.extBut _ _ D.i2z.symm (sc.extBut _ _ D.TOz.symm (sb.extBut _ _ D.i1z.symm za)))
 have kE:∀ b o,b≠z→b≠TO→b≠p1→b≠p2→s.heap.get? b=some o→he.get? b=some o:=fun b o b1 b2 b3 b4 e=>se.extBut _ _ b2 (sd.extBut _ _ b4 (sc.extBut _ _ b2 (sb.extBut _ _ b3 (sa.extBut _ _ b1 e))))
 have gE1:SI c1 he p1 l1 (n1+1):=((gb.but sc.extBut D.TOi1.symm).but sd.extBut D.i12).but se.extBut D.TOi1.symm
 have gE2:SI c2 he p2 l2 (n2+1):=gd.but se.extBut D.TOi2.symm
 have ltz:z<he.objs.size:=c6I zE
 show wpAny _ _ (Builtin.SmallTypes.ownedTupleHandOut (.ref z) (.ref he.objs.size) >>= _) _ _ _
 refine c6u ?_;unfold Builtin.SmallTypes.ownedTupleHandOut
 refine c6u (wpAny_setField_rec (c6y _ zE) (by simp) fun hf zf sf=>?_)
 replace zf:IsZip hf z TI TO (rawInt he.objs.size):=zf
 refine wpAny_setField_rec zf (by simp) fun hg zg sg=>?_
 replace zg:IsZip hg z TI TO (rawInt he.objs.size):=zg
 have lift:∀ b o,b≠z→he.get? b=some o→hg.get? b=some o:=fun b o b1 e=>sg.extBut _ _ b1 (sf.extBut _ _ b1 (c6y _ e))
 have tG:IsPair hg he.objs.size v1 v2:=sg.extBut _ _ (c7F ltz) (sf.extBut _ _ (c7F ltz) (c6G _ rfl))
 have zz:hg.objs.size=he.objs.size+1:=by rw[sg.1,sf.1,c7D]
 rw[zs]at zg tG zz
 refine c6E ⟨_,rfl,c6E ?_⟩
 show Q (some (.ref he.objs.size)) _
 rw[zs]
 exact q hg zg (lift _ _ D.TOz oE) (gE1.at fun o e=>lift _ o D.i1z e) (gE2.at fun o e=>lift _ o D.i2z e) tG zz fun b o b1 b2 b3 b4 e=>lift b o b1 (kE b o b1 b2 b3 b4 e)
theorem b85{z TI TO p1 p2 l1 l2:Addr}{c1 c2:Bool}{n1 n2:Nat}{xs ys:Array Value}{u1 u2:Value}{Q:Option Value→Shared→Prop}(hA:A.handled=none)(D:ZipApart z TI TO p1 p2 l1 l2)
  (iz:IsZip s.heap z TI TO .none) (iI:IsPair s.heap TI (.ref p1) (.ref p2)) (iO:IsPair s.heap TO u1 u2) (g1:SI c1 s.heap p1 l1 n1) (g2:SI c2 s.heap p2 l2 n2) (m1:SS c1 s.heap l1 xs) (m2:SS c2 s.heap l2 ys) (fin:xs[n1]? = none∨ys[n2]? = none)
  (q:∀ h',(∀ b o,b≠z→b≠TO→b≠p1→b≠p2→s.heap.get? b=some o→h'.get? b=some o)→Q none { s with heap:=h' }):wpAny (model prog w) A (pyNext (.ref z)) Q E s:=by
 have ty:s.TypeIs (.ref z) "zip" := ⟨_,iz,rfl⟩
 unfold pyNext
 have out:∀(h':Heap) (e:Addr),(∀ b o,b≠z→b≠TO→b≠p1→b≠p2→s.heap.get? b=some o→h'.get? b=some o)→(∃ o,h'.get? e=some o∧o.cls = .type "StopIteration") →
   wpAny (model prog w) A (do if ← isInstance (.ref e) (.type "StopIteration")then pure none else throw (.ref e):Sem (Option Value)) Q E { s with heap:=h' }:=fun h' e k ⟨o,e1,e2⟩ =>
  c6u (wpAny_isInstance (T := "StopIteration") (b:=true) ⟨o,e1,e2⟩ isSubtype_stop (c6E (q h' k)))
 refine c6u (wpAny_attempt (wpAny_callSpecial?_slot (name:=Str.ofString "__next__") ty F.slot_zip_next (wpAny_call_entry F.slot_zip_next ty F.entry_zip_next ?_ (F.args_zip_next_1 _))))
 show wpAny _ _ (field (.ref z) 2 >>= _) _ _ _
 refine c6u (wpAny_field iz rfl (x:=.bool false) rfl ?_)
 show wpAny _ _ (field (.ref z) 3 >>= _) _ _ _
 refine c6u (wpAny_field iz rfl (x:=.ref TI) rfl (c6u (wpAny_seqItems iI rfl ?_)))
 show wpAny _ _ (Builtin.SmallTypes.ownedTupleIsFree (.ref z) >>= _) _ _ _
 refine c6u ?_;unfold Builtin.SmallTypes.ownedTupleIsFree
 refine c6u (wpAny_field iz rfl (x:=.none) rfl (c6E ?_));simp only[if_true]
 refine c6u (wpAny_rule (c6u (wpAny_field iz rfl (x:=.ref TO) rfl (c6u (wpAny_setField_rec iz (by simp) fun ha za sa=>?_)))))
 replace za:IsZip ha z TI TO .ellipsis:=za
 refine c6u ?_;simp only[c9N,List.zipIdx_nil,c9c,List.forIn_nil]
 refine c6u (c6u (wpAny_onRaise ?_))
 show wpAny _ _ (Builtin.SmallTypes.nextOf (.ref p1) >>= _) _ _ _
 cases w1:xs[n1]? with
 | none =>
  refine c6u (a86 hA (g1.but sa.extBut D.i1z) (m1.but sa.extBut D.l1z) w1 fun hb e sb zz=>?_)
  obtain⟨oe,oe1,oe2⟩:=zz
  have zb:IsZip hb z TI TO .ellipsis:=sb _ _ D.i1z.symm za
  have nz:e≠z:=fun y=>by subst y;rw[zb]at oe1;cases oe1;simp at oe2
  refine wpAny_setField_rec zb (by simp) fun hc _ sc=>out hc e (fun b o b1 _ b3 _ y=>sc.extBut _ _ b1 (sb _ _ b3 (sa.extBut _ _ b1 y))) ⟨oe,sc.extBut _ _ nz oe1,oe2⟩
 | some v1 =>
  have w2:ys[n2]? = none:=fin.resolve_left (by rw[w1];exact fun y=>nomatch y)
  refine c6u (a2m (g1.but sa.extBut D.i1z) (m1.but sa.extBut D.l1z) w1 fun hb gb sb=>c6E ?_)
  have oB:IsPair hb TO u1 u2:=sb.extBut _ _ D.TOi1 (sa.extBut _ _ D.TOz iO)
  refine c6u (wpAny_seqItems oB rfl (c6u (wpAny_updateSeq_pair oB fun hc oC sc=>?_)))
  refine c6u (wpAny_letGo (c6E (c6u (c6u (wpAny_onRaise ?_)))))
  show wpAny _ _ (Builtin.SmallTypes.nextOf (.ref p2) >>= _) _ _ _
  refine c6u (a86 hA (((g2.but sa.extBut D.i2z).but sb.extBut D.i12.symm).but sc.extBut D.TOi2.symm) (((m2.but sa.extBut D.l2z).but sb.extBut D.l2i1).but sc.extBut D.l2TO) w2 fun hd e sd zz=>?_)
  obtain⟨oe,oe1,oe2⟩:=zz
  have zd:IsZip hd z TI TO .ellipsis:=sd _ _ D.i2z.symm (sc.extBut _ _ D.TOz.symm (sb.extBut _ _ D.i1z.symm za))
  have nz:e≠z:=fun y=>by subst y;rw[zd]at oe1;cases oe1;simp at oe2
  refine wpAny_setField_rec zd (by simp) fun he _ se=>out he e (fun b o b1 b2 b3 b4 y=>se.extBut _ _ b1 (sd _ _ b4 (sc.extBut _ _ b2 (sb.extBut _ _ b3 (sa.extBut _ _ b1 y))))) ⟨oe,se.extBut _ _ nz oe1,oe2⟩
end
noncomputable abbrev itO(k:Bool)(a:Addr):Obj:={ cls:=.type (if k then "list_iterator" else "tuple_iterator"),data:=.fields #[.ref a,.int 0 0] }
noncomputable abbrev zA(k1:Bool)(h:Heap)(l1:Addr):Heap:=h.push (itO k1 l1)
noncomputable abbrev zB(k1 k2:Bool)(h:Heap)(l1 l2:Addr):Heap:=(zA k1 h l1).push (itO k2 l2)
noncomputable abbrev zC(k1 k2:Bool)(h:Heap)(l1 l2:Addr):Heap:=(zB k1 k2 h l1 l2).push { cls:=.type "tuple",data:=.seq #[.ref h.objs.size,.ref (zA k1 h l1).objs.size] }
noncomputable abbrev zD(k1 k2:Bool)(h:Heap)(l1 l2:Addr):Heap:=(zC k1 k2 h l1 l2).push { cls:=.type "tuple",data:=.seq #[.none,.none] }
noncomputable abbrev zE(k1 k2:Bool)(h:Heap)(l1 l2:Addr):Heap:=(zD k1 k2 h l1 l2).push { cls:=.type "zip",data:=.fields #[.none,.bool false,.bool false,.ref (zB k1 k2 h l1 l2).objs.size,.ref (zC k1 k2 h l1 l2).objs.size] }
set_option maxHeartbeats 2000000 in
theorem b84(k1 k2:Bool)(l1 l2:Addr)(xs ys:Array Value) :
  Meets (Builtin.«zip.__new__» ⟨[.type "zip",.ref l1,.ref l2],[]⟩) (fun _ R s=>SS k1 s.heap l1 xs∧SS k2 s.heap l2 ys∧R (.ok (.ret (.ref (zD k1 k2 s.heap l1 l2).objs.size))) { s with heap:=zE k1 k2 s.heap l1 l2 }) :=
 .of_wp fun prog w A R s h=>by
  obtain⟨hp,g,d,tk,os⟩:=s
  obtain⟨ha,hb,h⟩:=h
  have hsub:=sub_zip
  cases k1 with
  | true =>
   have a1:Heap.IsList (Shared.heap ⟨hp,g,d,tk,os⟩) l1 xs:=ha
   cases k2 with
   | true =>
    have a2:Heap.IsList (Shared.heap ⟨hp.push { cls:=.type "list_iterator",data:=.fields #[.ref l1,.int 0 0] },g,d,tk,os⟩) l2 ys:=Heap.IsList.push hb _
    wp_walk using wpAny_pyIter_list a1,wpAny_pyIter_list a2
    exact⟨_,rfl,h⟩
   | false =>
    have a2:Heap.IsTuple (Shared.heap ⟨hp.push { cls:=.type "list_iterator",data:=.fields #[.ref l1,.int 0 0] },g,d,tk,os⟩) l2 ys:=Heap.IsTuple.push hb _
    wp_walk using wpAny_pyIter_list a1,wpAny_pyIter_tuple a2
    exact⟨_,rfl,h⟩
  | false =>
   have a1:Heap.IsTuple (Shared.heap ⟨hp,g,d,tk,os⟩) l1 xs:=ha
   cases k2 with
   | true =>
    have a2:Heap.IsList (Shared.heap ⟨hp.push { cls:=.type "tuple_iterator",data:=.fields #[.ref l1,.int 0 0] },g,d,tk,os⟩) l2 ys:=Heap.IsList.push hb _
    wp_walk using wpAny_pyIter_tuple a1,wpAny_pyIter_list a2
    exact⟨_,rfl,h⟩
   | false =>
    have a2:Heap.IsTuple (Shared.heap ⟨hp.push { cls:=.type "tuple_iterator",data:=.fields #[.ref l1,.int 0 0] },g,d,tk,os⟩) l2 ys:=Heap.IsTuple.push hb _
    wp_walk using wpAny_pyIter_tuple a1,wpAny_pyIter_tuple a2
    exact⟨_,rfl,h⟩
section
variable {prog:Program} {w:World} {A:Around} {E:Value→Shared→Prop} {s:Shared}
theorem b7D{k1 k2:Bool}{l1 l2:Addr}{xs ys:Array Value}{Q:Value→Shared→Prop}(ha:SS k1 s.heap l1 xs)(hb:SS k2 s.heap l2 ys)
  (q:∀ h',IsZip h' (s.heap.objs.size+4) (s.heap.objs.size+2) (s.heap.objs.size+3) .none→IsPair h' (s.heap.objs.size+2) (.ref s.heap.objs.size) (.ref (s.heap.objs.size+1))→IsPair h' (s.heap.objs.size+3) .none .none →
   SI k1 h' s.heap.objs.size l1 0→SI k2 h' (s.heap.objs.size+1) l2 0→h'.objs.size=s.heap.objs.size+5→(∀ b o,s.heap.get? b=some o→h'.get? b=some o)→Q (.ref (s.heap.objs.size+4)) { s with heap:=h' }) :
  wpAny (model prog w) A (call (.type "zip") [.ref l1,.ref l2]) Q E s:=by
 refine callType_new F.called_zip (by decide) (F.typeCall_zip_2 _ _) (F.newCall_zip_2 _ _) (fun obj=>F.args_object_init_3 obj _ _) F.entry_zip_new (b84 k1 k2 l1 l2 xs ys) ⟨ha,hb,?_⟩
 have s1:(zA k1 s.heap l1).objs.size=s.heap.objs.size+1:=c7D ..
 have s2:(zB k1 k2 s.heap l1 l2).objs.size=s.heap.objs.size+2:=(c7D ..).trans (by rw[s1])
 have s3:(zC k1 k2 s.heap l1 l2).objs.size=s.heap.objs.size+3:=(c7D ..).trans (by rw[s2])
 have s4:(zD k1 k2 s.heap l1 l2).objs.size=s.heap.objs.size+4:=(c7D ..).trans (by rw[s3])
 have s5:(zE k1 k2 s.heap l1 l2).objs.size=s.heap.objs.size+5:=(c7D ..).trans (by rw[s4])
 have o5:(zE k1 k2 s.heap l1 l2).get? (zD k1 k2 s.heap l1 l2).objs.size=some _:=c6G _ rfl
 have up1:∀ b o,(zD k1 k2 s.heap l1 l2).get? b=some o→(zE k1 k2 s.heap l1 l2).get? b=some o:=fun b o e=>c6y _ e
 have o4:(zE k1 k2 s.heap l1 l2).get? (zC k1 k2 s.heap l1 l2).objs.size=some _:=up1 _ _ (c6G _ rfl)
 have up2:∀ b o,(zC k1 k2 s.heap l1 l2).get? b=some o→(zE k1 k2 s.heap l1 l2).get? b=some o:=fun b o e=>up1 b o (c6y _ e)
 have o3:(zE k1 k2 s.heap l1 l2).get? (zB k1 k2 s.heap l1 l2).objs.size=some _:=up2 _ _ (c6G _ rfl)
 have up3:∀ b o,(zB k1 k2 s.heap l1 l2).get? b=some o→(zE k1 k2 s.heap l1 l2).get? b=some o:=fun b o e=>up2 b o (c6y _ e)
 have o2:(zE k1 k2 s.heap l1 l2).get? (zA k1 s.heap l1).objs.size=some (itO k2 l2):=up3 _ _ (c6G _ rfl)
 have up4:∀ b o,(zA k1 s.heap l1).get? b=some o→(zE k1 k2 s.heap l1 l2).get? b=some o:=fun b o e=>up3 b o (c6y _ e)
 have o1:(zE k1 k2 s.heap l1 l2).get? s.heap.objs.size=some (itO k1 l1):=up4 _ _ (c6G _ rfl)
 have mk:∀(k:Bool) (b a:Addr),(zE k1 k2 s.heap l1 l2).get? b=some (itO k a)→SI k (zE k1 k2 s.heap l1 l2) b a 0:=fun k b a e=>by cases k<;>exact⟨_,e,rfl,rfl⟩
 show _∧_
 rw[s2,s3,s4]at o5
 rw[s1,s2]at o3
 rw[s3]at o4
 rw[s1]at o2
 rw[s4]
 exact⟨⟨_,o5,rfl⟩,q _ o5 o3 o4 (mk _ _ _ o1) (mk _ _ _ o2) s5 fun b o e=>up4 b o (c6y _ e)⟩
end
end L2
namespace L2
open PySem PySem.Spec PyProof.Rows
section
variable {X:Cx} {pins:List (Addr × Obj)} {σ:St} {H:Hp} {s:Shared} {h':Heap}
theorem Inv.turnedN{t':Nat}{ch:List Addr}(I:Inv X pins σ H s)(k:∀ b o,b∉ch→s.heap.get? b=some o→h'.get? b=some o)(hf:∀ b∈ch,a0T X pins H b):Inv X pins σ H { s with heap:=h',toks:=t' }:=by
 have nit:∀ b u,H b=some u→b∉ch:=fun b u e z=>by rw[(hf b z).1]at e;cases e
 refine I.step (g':=s.gens) (d':=s.drawn) (ch:=ch) (fun b hb=>?_) (fun b o _ _ hc e _=>k b o hc e) (fun b o _ _ hc e _=>⟨o.slots,k b o hc e⟩) (fun _ _ _ _ n=>n)
  (fun b o hc e=>⟨o,k b o hc e⟩) (fun _ _ e=>e) (fun _ _ _ e=>e) (fun b ps e=>⟨#[],by rw[e];simp⟩) (fun m hm=>?_) (fun b u e=>?_) I.bare
 ·obtain⟨_,q1,_,q3,q4,q5⟩:=hf b hb
  exact⟨q3,q1,q4,q5⟩
 ·obtain⟨o,es,ep,ho,r⟩:=hm
  exact⟨o,es,ep,k _ o (fun z=>(hf _ z).2.1 rfl) ho,r⟩
 ·refine(I.hok b u e).stay (fun c v hc q=>k c v ?_ q) (fun _ q=>q) fun _ _ q=>q
  rcases hc with z|z
  ·rw[z];exact nit b u e
  ·exact nit c _ z
end
noncomputable def SqK(K:c6v)(k:Bool)(H:Hp)(a:Addr)(xs:List V):Prop:=if k=true then SqL K H a xs else SqT K H a xs
theorem Inv.sqk{X:Cx}{pins:List (Addr × Obj)}{σ:St}{H:Hp}{s:Shared}(I:Inv X pins σ H s){k:Bool}{a:Addr}{xs:List V}(h:SqK X.K k H a xs):∃ its:List Value,o8 xs its∧SS k s.heap a its.toArray:=by
 cases k with
 | true =>
  obtain⟨its,r,p,_⟩:=I.list (show SqL X.K H a xs from h)
  exact⟨its,r,p.isList⟩
 | false =>
  obtain⟨its,r,p,_⟩:=I.tuple (show SqT X.K H a xs from h)
  exact⟨its,r,p⟩
theorem Inv.sqk_inj{X:Cx}{pins:List (Addr × Obj)}{σ:St}{H:Hp}{s:Shared}(I:Inv X pins σ H s){k:Bool}{a:Addr}{xs ys:List V}(h:SqK X.K k H a xs)(h2:SqK X.K k H a ys):xs=ys:=by
 cases k with
 | true=>exact I.list_inj (show SqL X.K H a xs from h) (show SqL X.K H a ys from h2)
 | false=>exact I.tuple_inj (show SqT X.K H a xs from h) (show SqT X.K H a ys from h2)
noncomputable def Itz(K:c6v)(k1 k2:Bool)(l1 l2:Addr):It :=
 ⟨fun i H=>∃ xs ys x y,SqK K k1 H l1 xs∧SqK K k2 H l2 ys∧xs[i]? = some x∧ys[i]? = some y,
  fun i H v H'=>∃ T x y,H T=none∧v = .ref T∧H'=upd H T (.tup [x,y])∧(∀ xs,SqK K k1 H l1 xs→xs[i]? = some x)∧∀ ys,SqK K k2 H l2 ys→ys[i]? = some y,
  fun i H=>∃ xs ys,SqK K k1 H l1 xs∧SqK K k2 H l2 ys∧(xs.length≤i∨ys.length≤i)⟩
noncomputable def c2y(k1 k2:Bool)(z TI TO p1 p2 l1 l2:Addr)(i:Nat)(h:Heap):Prop:=IsZip h z TI TO .none∧IsPair h TI (.ref p1) (.ref p2)∧(∃ a b,IsPair h TO a b)∧SI k1 h p1 l1 i∧SI k2 h p2 l2 i
theorem b3l{P:Program}{w:World}{K:c6v}{elts:List Expr}{kx:Nat}{tp:Pos}{k1 k2:Bool}{z TI TO p1 p2 l1 l2:Addr}(D:ZipApart z TI TO p1 p2 l1 l2) :
  a66 P w K (.Tuple elts kx tp) (Itz K k1 k2 l1 l2) [z,TI,TO,p1,p2] z (c2y k1 k2 z TI TO p1 p2 l1 l2) where
 mem:=by simp
 obj:=fun i h ⟨iz,iI,⟨a,b,iO⟩,g1,g2⟩ c hc=>by
  simp only[c6M,c6Q,or_false]at hc
  rcases hc with rfl|rfl|rfl|rfl|rfl
  ·exact⟨_,iz,fun v e=>by cases e⟩
  ·exact⟨_,iI,fun v e=>by cases e⟩
  ·exact⟨_,iO,fun v e=>by cases e⟩
  ·exact g1.obj
  ·exact g2.obj
 keep:=fun i h h' ⟨iz,iI,⟨a,b,iO⟩,g1,g2⟩ k=>⟨k z (by simp) _ iz,k TI (by simp) _ iI,⟨a,b,k TO (by simp) _ iO⟩,g1.at fun o e=>k p1 (by simp) o e,g2.at fun o e=>k p2 (by simp) o e⟩
 item:=by
  intro X hP hw hK hc i pins s σ H E I hf st hg
  subst hP hw hK
  obtain⟨iz,iI,⟨a,b,iO⟩,g1,g2⟩:=st
  obtain⟨xs,ys,x,y,q1,q2,hx,hy⟩:=hg
  obtain⟨is1,r1,m1⟩:=I.sqk q1
  obtain⟨is2,r2,m2⟩:=I.sqk q2
  obtain⟨u1,hu1,ru1⟩:=r1.get hx
  obtain⟨u2,hu2,ru2⟩:=r2.get hy
  refine b5t D iz iI iO g1 g2 m1 m2 (v1:=u1) (v2:=u2) (by simpa using hu1) (by simpa using hu2) fun h' a1 a2 a3 a4 a5 a6 kk=>?_
  refine⟨_,rfl,?_⟩
  refine wpAny_letOwnedTupleGo_zip (s:={ s with heap:=h' }) a1 fun h2 b1 b2=>?_
  have lt:∀{c o},s.heap.get? c=some o→c≠s.heap.objs.size:=fun e=>c7h (c6I e)
  have nz:s.heap.objs.size≠z:=Ne.symm (lt iz)
  have I1:Inv X pins σ (upd H s.heap.objs.size (.tup [x,y])) { s with heap:=s.heap.push { cls:=.type "tuple",data:=.seq #[u1,u2] },toks:=s.toks } :=
   I.laid (o:=.tup [x,y]) (fun b ob q=>c6y _ q) (c6U _) ⟨(show 2≤sizeLine by decide),[u1,u2],.cons ru1 (.cons ru2 .nil),IsTup.new _ _⟩
  have nfp:∀ c∈[z,TI,TO,p1,p2],c≠s.heap.objs.size:=fun c hc=>by
   simp only[c6M,c6Q,or_false]at hc
   rcases hc with rfl|rfl|rfl|rfl|rfl
   ·exact lt iz
   ·exact lt iI
   ·exact lt iO
   ·obtain⟨o,e,_⟩:=g1.obj;exact lt e
   ·obtain⟨o,e,_⟩:=g2.obj;exact lt e
  have hf':∀ c∈[z,TI,TO,p1,p2],a0T X pins (upd H s.heap.objs.size (.tup [x,y])) c:=fun c hc=>by
   obtain⟨f0,f1⟩:=hf c hc
   exact⟨by rw[j4 (nfp c hc)];exact f0,f1⟩
  have I2:Inv X pins σ (upd H s.heap.objs.size (.tup [x,y])) { s with heap:=h2,toks:=s.toks }:=by
   refine Inv.turnedN (s:={ s with heap:=s.heap.push { cls:=.type "tuple",data:=.seq #[u1,u2] },toks:=s.toks }) (t':=s.toks) (h':=h2) (ch:=[z,TI,TO,p1,p2]) I1 (fun c o hcn e=>?_) hf'
   simp only[c6M,c6Q,or_false,not_or]at hcn
   obtain⟨n1,n2,n3,n4,n5⟩:=hcn
   refine b2.extBut c o n1 ?_
   by_cases hcs:c=s.heap.objs.size
   ·subst hcs
    have e':(s.heap.push { cls:=.type "tuple",data:=.seq #[u1,u2] }).get? s.heap.objs.size=some o:=e
    rw[c6G _ rfl]at e'
    cases e'
    exact a5
   ·have e':(s.heap.push { cls:=.type "tuple",data:=.seq #[u1,u2] }).get? c=some o:=e
    have hlt:c<s.heap.objs.size:=by
     have:=c6I e'
     rw[c7D]at this
     exact Nat.lt_of_le_of_ne (Nat.le_of_lt_succ this) hcs
    have hold:s.heap.get? c=some o:=by
     have:∃ o',s.heap.get? c=some o':=by
      cases q:s.heap.get? c with
      | some o'=>exact⟨o',rfl⟩
      | none=>exact absurd e' (by rw[c9C _ _ _ hcs];rw[q];exact fun z=>nomatch z)
     obtain⟨o',ho'⟩:=this
     have:=c6y { cls:=.type "tuple",data:=.seq #[u1,u2] } ho'
     rw[e']at this
     cases this;exact ho'
    exact kk c o n1 n3 n4 n5 hold
  refine⟨.ref s.heap.objs.size,_,I2,rfl,⟨_,x,y,I.hok.fresh (c6U _),rfl,rfl,fun zs hz=>by rw[I.sqk_inj hz q1];exact hx,fun zs hz=>by rw[I.sqk_inj hz q2];exact hy⟩,?_,fun c hc=>(hf' c hc).1⟩
  have lift:∀ c o,c≠z→h'.get? c=some o→h2.get? c=some o:=fun c o n e=>b2.extBut c o n e
  exact⟨b1,lift _ _ D.TIz (kk _ _ D.TIz D.TITO D.TIi1 D.TIi2 iI),⟨_,_,lift _ _ D.TOz a2⟩,a3.at fun o e=>lift _ o D.i1z e,a4.at fun o e=>lift _ o D.i2z e⟩
 done:=by
  intro X hP hw hK hc i pins s σ H E I hf st hg
  subst hP hw hK
  obtain⟨iz,iI,⟨a,b,iO⟩,g1,g2⟩:=st
  obtain⟨xs,ys,q1,q2,hx⟩:=hg
  obtain⟨is1,r1,m1⟩:=I.sqk q1
  obtain⟨is2,r2,m2⟩:=I.sqk q2
  have e1:=r1.length
  have e2:=r2.length
  refine b85 (I.ok.hd hc) D iz iI iO g1 g2 m1 m2 (hx.elim (fun h=>.inl (by simp;omega)) fun h=>.inr (by simp;omega)) fun h' kk=>⟨rfl,?_⟩
  refine I.turnedN (t':=s.toks) (ch:=[z,TI,TO,p1,p2]) (fun c o hcn e=>?_) hf
  simp only[c6M,c6Q,or_false,not_or]at hcn
  obtain⟨n1,n2,n3,n4,n5⟩:=hcn
  exact kk c o n1 n3 n4 n5 e
 self:=fun _ _ _ _ _ st h=>wpAny_pyIter_zip st.1 h
noncomputable def c3j(K:c6v)(ta:TA):TI:=fun σ H R=>ta σ H fun vs H1=>∃ k1 k2 l1 l2,vs=[.ref l1,.ref l2]∧(∃ xs,SqK K k1 H1 l1 xs)∧(∃ ys,SqK K k2 H1 l2 ys)∧R (Itz K k1 k2 l1 l2) H1
theorem b9I{X:Cx}{elts:List Expr}{kx:Nat}{tp:Pos}{a b:Expr}{ta:TA}{p pos:Pos}(hg:Gl X "zip")(hm:X.mg "zip" = none)(ha:PA X [a,b] ta)
  (hs:starEach [a,b] X.env=[(false,eval a X.env),(false,eval b X.env)]:=by rfl) (hs2:starEach [b] X.env=[(false,eval b X.env)]:=by rfl):PI X (.Tuple elts kx tp) (.Call (.Name "zip" p) [a,b] [] pos) (c3j X.K ta):=by
 intro pins s σ H R I h
 refine Call_ (S6 I hg hm PyProof.Rows.boot_zip (PyProof.Rows.callWith_type1 (thn (ha pos pins s σ H _ I h) fun us s1 ⟨vs,H1,I1,r1,q1⟩=>?_) (by rw[hs,hs2]) (by rw[hs2];rfl)))
 obtain⟨k1,k2,l1,l2,e,⟨xs,q2⟩,⟨ys,q3⟩,q⟩:=q1
 subst e
 cases r1 with
 | cons r rr =>
  cases rr with
  | cons r' rr =>
   cases rr
   cases r
   cases r'
   obtain⟨is1,_,m1⟩:=I1.sqk q2
   obtain⟨is2,_,m2⟩:=I1.sqk q3
   have lt1:l1<s1.heap.objs.size:=by obtain⟨o,e⟩:=m1.obj;exact c6I e
   have lt2:l2<s1.heap.objs.size:=by obtain⟨o,e⟩:=m2.obj;exact c6I e
   refine b7D m1 m2 fun h' a1 a2 a3 a4 a5 a6 kk=>?_
   refine wpAny_pyIter_zip (s:={ s1 with heap:=h' }) a1 ?_
   have D:ZipApart (s1.heap.objs.size+4) (s1.heap.objs.size+2) (s1.heap.objs.size+3) s1.heap.objs.size (s1.heap.objs.size+1) l1 l2:=PyProof.Rows.zipApart_new lt1 lt2
   refine⟨s1.heap.objs.size+4,_,_,_,H1,rfl,I1.kept (t':=s1.toks) kk,b3l D,⟨a1,a2,⟨_,_,a3⟩,a4,a5⟩,fun c hc=>?_,q⟩
   have hge:s1.heap.objs.size≤c:=by
    simp only[c6M,c6Q,or_false]at hc
    rcases hc with rfl|rfl|rfl|rfl|rfl
    ·exact c8e _ _
    ·exact c8e _ _
    ·exact c8e _ _
    ·exact c6U _
    ·exact c8e _ _
   exact I1.fpOk hge (I1.hok.fresh hge)
end L2
namespace L2
open PySem PySem.Spec PyProof.Rows
section
variable {X:Cx} {pins:List (Addr × Obj)} {σ:St} {H:Hp} {s:Shared} {p:Addr}
theorem Inv.swap{a b:HO}(I:Inv X pins σ H s)(hp:H p=some a)(ha:(∀ x,a ≠ .own x)∧∀ xs,a ≠ .tup xs)(h1:∀ xs,X.H₀ p≠some (.tup xs))(h2:∀ o u,X.H₀ p≠some (.frz o u))(h3:∀ ps,X.H₀ p≠some (.tbl ps))
  (new:D4 X.prog X.w H s.heap p b):Inv X pins σ (upd H p b) s:=by
 have ne:∀{c:Addr},H c=none→c≠p:=fun{c} q z=>by subst z;rw[hp]at q;cases q
 have st:∀{c:Addr} {o:HO},D4 X.prog X.w H s.heap c o→D4 X.prog X.w (upd H p b) s.heap c o:=fun{c o} x =>
  x.stay (fun _ _ _ q=>q) (fun d q=>by
   have:d≠p:=by intro z;subst z;rw[hp]at q;cases q;exact ha.1 _ rfl
   rw[j4 this];exact q) fun d xs q=>by
   have:d≠p:=by intro z;subst z;rw[hp]at q;cases q;exact ha.2 _ rfl
   rw[j4 this];exact q
 refine⟨I.ok,I.os,I.bare,⟨I.base.keep,I.base.slot,fun c o e n x=>?_,I.base.there,fun c xs q=>?_,fun c o u q=>?_,fun c ps q=>?_⟩,I.loc,I.cell,?_,fun x c e=>?_,fun q hq=>?_,fun c o q=>?_,I.len⟩
 ·have:=I.base.free c o e n x
  rw[j4 (ne this)];exact this
 ·have:c≠p:=by intro z;subst z;exact h1 xs q
  rw[j4 this];exact I.base.tups c xs q
 ·have:c≠p:=by intro z;subst z;exact h2 o u q
  rw[j4 this];exact I.base.frzs c o u q
 ·have:c≠p:=by intro z;subst z;exact h3 ps q
  rw[j4 this];exact I.base.tbls c ps q
 ·rw[j4 (ne I.free)];exact I.free
 ·rw[j4 (ne (I.freeC x c e))];exact I.freeC x c e
 ·obtain⟨a1,a2,a3,a4,a5⟩:=I.pin q hq
  exact⟨a1,by rw[j4 (ne a2)];exact a2,a3,a4,a5⟩
 ·by_cases z:c=p
  ·subst z;rw[i9]at q;cases q;exact st new
  ·rw[j4 z]at q;exact st (I.hok c o q)
theorem Inv.freeze{xs:List V}(I:Inv X pins σ H s)(hp:H p=some (.lst xs)):∃ o,Inv X pins σ (upd H p (.frz o (.lst xs))) s:=by
 have k:=I.hok p _ hp
 obtain⟨z,its,n,r,e⟩:=id k
 refine⟨_,I.swap hp ⟨fun _ q=>(nomatch q),fun _ q=>(nomatch q)⟩ (fun ys q=>?_) (fun o u q=>?_) (fun ps q=>?_) ⟨e,k⟩⟩
 ·rw[I.base.tups p ys q]at hp;cases hp
 ·rw[I.base.frzs p o u q]at hp;cases hp
 ·obtain⟨more,q⟩:=I.base.tbls p ps q;rw[q]at hp;cases hp
structure b80(X:Cx)(p:Addr):Prop where
 t:∀ xs,X.H₀ p≠some (.tup xs)
 f:∀ o u,X.H₀ p≠some (.frz o u)
 b:∀ ps,X.H₀ p≠some (.tbl ps)
theorem Inv.loose{xs:List V}(I:Inv X pins σ H s)(hp:H p=some (.lst xs)):b80 X p :=
 ⟨fun ys q=>(by rw[I.base.tups p ys q]at hp;cases hp),fun o u q=>(by rw[I.base.frzs p o u q]at hp;cases hp),fun ps q=>(by obtain⟨more,q⟩:=I.base.tbls p ps q;rw[q]at hp;cases hp)⟩
noncomputable def c1n(t:TE):TE:=fun σ H Q=>t σ H fun v H1=>∃ p xs,v = .ref p∧H1 p=some (.lst xs)∧∀ o,Q v (upd H1 p (.frz o (.lst xs)))
theorem a1K{x:Expr}{t:TE}(h:PE X x t):PE X x (c1n t):=fun pins s σ H Q I q =>
 wpAny_mono (h pins s σ H _ I q) (fun u s1 zz=>by
  obtain⟨v,H1,I1,r,p,xs,e,hp,q1⟩:=zz
  obtain⟨o,I2⟩:=I1.freeze hp
  exact⟨v,_,I2,r,q1 o⟩) fun _ _ z=>z
theorem b9A{i:Nat}{y:Str}{pos':Pos}{x:Expr}{t:TE}(h:PU X i y pos' x t):PU X i y pos' x (c1n t):=fun pins s σ H Q I q =>
 wpAny_mono (h pins s σ H _ I q) (fun u s1 zz=>by
  obtain⟨v,H1,I1,p,xs,e,hp,q1⟩:=zz
  obtain⟨o,I2⟩:=I1.freeze hp
  exact⟨v,_,I2,q1 o⟩) fun _ _ z=>z
noncomputable def c1m(t:TE):TE:=fun σ H Q=>t σ H fun v H1=>(∃ p xs,v = .ref p∧H1 p=some (.lst xs)∧∀ o,Q v (upd H1 p (.frz o (.lst xs))))∨Q v H1
theorem b6R{x:Expr}{t:TE}(h:PE X x t):PE X x (c1m t):=fun pins s σ H Q I q =>
 wpAny_mono (h pins s σ H _ I q) (fun u s1 zz=>by
  obtain⟨v,H1,I1,r,z⟩:=zz
  rcases z with⟨p,xs,e,hp,q1⟩|q1
  ·obtain⟨o,I2⟩:=I1.freeze hp
   exact⟨v,_,I2,r,q1 o⟩
  ·exact⟨v,H1,I1,r,q1⟩) fun _ _ z=>z
noncomputable def a1p(p:Addr)(xs:List V):HO:=.ext fun h=>xs.length≤sizeLine∧∃(its:List Value) (n:Nat),o8 xs its∧h.get? p=some { cls:=.type "list",data:=.seq its.toArray n }
theorem Inv.hide{xs:List V}(I:Inv X pins σ H s)(hp:H p=some (.lst xs)):Inv X pins σ (upd H p (a1p p xs)) s:=by
 have k:=I.hok p _ hp
 have l:=I.loose hp
 obtain⟨z,its,n,r,e⟩:=id k
 exact I.swap hp ⟨fun _ q=>(nomatch q),fun _ q=>(nomatch q)⟩ l.t l.f l.b ⟨⟨z,its,n,r,e⟩,⟨_,e⟩,fun h1 h2 ⟨z,its,n,r,e⟩ k=>⟨z,its,n,r,k _ e⟩⟩
theorem Inv.show'{xs:List V}(I:Inv X pins σ H s)(l:b80 X p)(hp:H p=some (a1p p xs)):Inv X pins σ (upd H p (.lst xs)) s:=by
 obtain⟨k,_,_⟩:=I.hok p _ hp
 exact I.swap hp ⟨fun _ q=>(nomatch q),fun _ q=>(nomatch q)⟩ l.t l.f l.b k
noncomputable def b3q(p:Addr)(t:TE):TE:=fun σ H Q=>∃ xs,H p=some (.lst xs)∧t σ (upd H p (a1p p xs)) fun v H1=>H1 p=some (a1p p xs)∧Q v (upd H1 p (.lst xs))
theorem a2C{x:Expr}{t:TE}(h:PE X x t):PE X x fun σ H Q=>∃ p,b3q p t σ H Q:=fun pins s σ H Q I ⟨p,xs,hp,q⟩ =>
 wpAny_mono (h pins s σ _ _ (I.hide hp) q) (fun u s1 ⟨v,H1,I2,r,hp1,q1⟩=>⟨v,_,I2.show' (I.loose hp) hp1,r,q1⟩) fun _ _ z=>z
noncomputable def b3o(p:Addr)(t:TT):TT:=fun σ H Q=>∃ xs,H p=some (.lst xs)∧t σ (upd H p (a1p p xs)) fun v H1=>H1 p=some (a1p p xs)∧Q v (upd H1 p (.lst xs))
theorem Z6{ifs:List Expr}{t:TT}(h:a1R X ifs t):a1R X ifs fun σ H Q=>∃ p,b3o p t σ H Q:=fun pins s σ H Q I ⟨p,xs,hp,q⟩ =>
 wpAny_mono (h pins s σ _ _ (I.hide hp) q) (fun u s1 ⟨H1,I2,hp1,q1⟩=>⟨_,I2.show' (I.loose hp) hp1,q1⟩) fun _ _ z=>z
noncomputable def b3p(p:Addr)(g:TG):TG:=fun v σ H Q=>∃ xs,H p=some (.lst xs)∧g v σ (upd H p (a1p p xs)) fun σ1 H1=>H1 p=some (a1p p xs)∧Q σ1 (upd H1 p (.lst xs))
theorem a2B{tg:Expr}{g:TG}(h:PG X tg g):PG X tg fun v σ H Q=>∃ p,b3p p g v σ H Q:=fun pins s σ H v u Q I r ⟨p,xs,hp,q⟩ =>
 wpAny_mono (h pins s σ _ v u _ (I.hide hp) r q) (fun u s1 ⟨σ1,H1,I2,hp1,q1⟩=>⟨σ1,_,I2.show' (I.loose hp) hp1,q1⟩) fun _ _ z=>z
end
section
variable {X:Cx} {pos:Pos}
end
end L2
namespace L2
open PySem PySem.Spec PyProof.Rows
section
variable {X:Cx} {e:Expr} {te:TE} {st:Expr} {ts:TO} {pos p2:Pos}
end
end L2
namespace L2
open PySem PySem.Spec PyProof.Rows
theorem b1P:typeLookup (.type "list_reverseiterator") "__len__" = pure none:=by rw[typeLookup_type,builtinLookup_eq_fast];kernel_rfl
theorem a9I:typeLookup (.type "list_reverseiterator") "__length_hint__" = pure (some (.builtin "list_reverseiterator.__length_hint__")):=by rw[typeLookup_type,builtinLookup_eq_fast];kernel_rfl
section
variable {prog:Program} {w:World} {A:Around} {E:Value→Shared→Prop} {s:Shared}
theorem b3I{it l:Addr}{i:Int}{Q:Bool→Shared→Prop}(hit:s.heap.IsRevIter it l i)(h:Q false s):wpAny (model prog w) A (Builtin.List.listLengthHint (.ref it)) Q E s:=by
 have hT:=hit.typeIs
 unfold Builtin.List.listLengthHint
 refine c6u (wpAny_specialOf hT b1P ?_)
 show wpAny _ A (specialOf (Value.ref it) (Str.ofString "__length_hint__") >>= _) Q E s
 refine c6u (wpAny_specialOf hT a9I ?_)
 generalize hv:("list_reverseiterator.__length_hint__" : String)=nm
 wp_delta
 rw[show splitId nm=some ("list_reverseiterator","__length_hint__")by subst hv;decide +kernel]
 subst hv
 refine c6u (wpAny_isInstance (T := "list_reverseiterator") (b:=true) hT (by rw[isSubtype_type];kernel_rfl) ?_)
 refine wpAny_ite_split (fun z=>absurd z (by decide)) (fun _=>?_)
 refine wpAny_ite_split (fun _=>?_) (fun z=>absurd (by decide +kernel) z)
 refine wpAny_ite_split (fun z=>absurd z (by decide)) (fun _=>?_)
 exact c6E h
noncomputable abbrev a2c(items:Array Value):Nat→Value→Prop:=fun j x=>items[items.size - 1 - j]? = some x
noncomputable abbrev a8S(prog:Program)(w:World)(A:Around)(R:Result→Shared→Prop):Fin→Shared→Prop:=fun z s'=>match z with|.done f=>R (.ok f) s'|.again c'=>c'.quiet=true∧codeAny (model prog w) A c' R s'
theorem a9t{R:Result→Shared→Prop}{it l S:Addr}{items:Array Value}{c₀:Nat}(hh:A.handled=none)(hit:s.heap.IsRevIter it l ((items.size:Int) - 1))(hl:s.heap.IsList l items)(hne:l≠it)(hi:S≠it)(hj:S≠l)(hz:items.size≤sizeLine)
  (hS:s.heap.get? S=some { cls:=.type "list",data:=.seq #[] c₀ })
  (fin:∀ h' tk acc c1,(∀ b o,b≠S→b≠it→s.heap.get? b=some o→h'.get? b=some o)→h'.get? S=some { cls:=.type "list",dict:=none,data:=.seq acc c1,slots:=#[] }→ItemsOf (a2c items) acc items.size→R (.ok (.ret .none)) { s with heap:=h',toks:=tk }) :
  wpAny (model prog w) A.in1 (Builtin.List.listExtendWith (.ref S) (.ref it) .none) (a8S prog w A R) (fun e s'=>R (.error e) s') s:=by
 have V:=(Walks.listRev (prog:=prog) (w:=w) (A:=A.in1) hh it l hne items).toS
 have nf:S∉[it,l]:=fun q=>by
  rcases c6M.mp q with q|q
  ·exact hi q
  ·exact hj (c6N.mp q)
 unfold Builtin.List.listExtendWith
 refine c6u (wpAny_typeOf hit.typeIs ?_)
 have n1:Builtin.List.listSameRef (.ref S) (.ref it)=false:=by simp[Builtin.List.listSameRef,hi]
 have n2:(Value.type "list_reverseiterator" == Value.type "list")=false:=by decide
 have n3:(Value.type "list_reverseiterator" == Value.type "tuple")=false:=by decide
 simp only[n1,n2,n3,Bool.or_false,c7J,if_false]
 refine c6u (wpAny_pyIter_revIter hit (c6u (wpAny_holding (b3I hit ?_))))
 refine wpAny_ite_split (fun z=>absurd z (by decide +kernel)) (fun _=>?_)
 refine c6E ⟨plainId_quiet F.plain_extend_loop _,?_⟩
 have h0:((items.size:Int) - 1 - ((0:Nat):Int))=(items.size:Int) - 1:=by omega
 refine codeAny_extend_loopS V hz S nf .none items.size 0 s #[] c₀ rfl (c7m _) ⟨c7m _,by rw[h0];exact hit,hl⟩ hS (ItemsOf.nil _) fun s2 acc c1 mv g1 g2=>?_
 rw[Moved.eq_with mv]
 exact fin s2.heap s2.toks acc c1 (fun b o q1 q2 q3=>mv.heap b o (fun q=>(c6M.mp q).elim q1 fun q'=>q2 (c6N.mp q')) q3) g1 g2
theorem b3H{R:Result→Shared→Prop}{it l S:Addr}{items:Array Value}(hh:A.handled=none)(hit:s.heap.IsRevIter it l ((items.size:Int) - 1))(hl:s.heap.IsList l items)(hne:l≠it)(hi:S≠it)(hj:S≠l)(hz:items.size≤sizeLine)
  (hS:s.heap.get? S=some { cls:=.type "list",data:=.seq #[] })
  (fin:∀ h' tk acc c1,(∀ b o,b≠S→b≠it→s.heap.get? b=some o→h'.get? b=some o)→h'.get? S=some { cls:=.type "list",dict:=none,data:=.seq acc c1,slots:=#[] }→ItemsOf (a2c items) acc items.size→R (.ok (.ret .none)) { s with heap:=h',toks:=tk }) :
  wpAny (model prog w) A.in1 (Builtin.«list.__init__» ⟨[.ref S,.ref it],[]⟩) (a8S prog w A R) (fun e s'=>R (.error e) s') s:=by
 show wpAny _ A.in1 (Builtin.List.listItems (.ref S) >>= fun was=>Builtin.List.listUpdate (.ref S) (fun _=>#[]) >>= fun _=>letGo was.toList.reverse >>= fun _=>Builtin.List.listExtendWith (.ref S) (.ref it) .none) (a8S prog w A R) (fun e s'=>R (.error e) s') s
 unfold Builtin.List.listItems
 refine c6u (c6u (wpAny_seqItems hS rfl (c6E ?_)))
 show wpAny _ A.in1 (updateSeq S (fun _=>#[]) >>= fun _=>letGo (#[]:Array Value).toList.reverse >>= fun _=>Builtin.List.listExtendWith (.ref S) (.ref it) .none) (a8S prog w A R) (fun e s'=>R (.error e) s') s
 refine c6u (wpAny_updateSeq hS rfl (c6u (wpAny_letGo ?_)))
 have g:=c7n (Obj.mapSeq fun _=>(#[]:Array Value)) hS rfl
 have oth:∀ b o,b≠S→s.heap.get? b=some o→(s.heap.update S (Obj.mapSeq fun _=>(#[]:Array Value))).get? b=some o:=fun b o q1 q2=>(c7l _ _ (Ne.symm q1)).trans q2
 refine a9t hh (hit.at fun o e=>oth it o (Ne.symm hi) e) (hl.at fun o e=>oth l o (Ne.symm hj) e) hne hi hj hz g fun h' tk acc c1 q1 q2 q3=>?_
 exact fin h' tk acc c1 (fun b o b1 b2 e=>q1 b o b1 b2 (oth b o b1 e)) q2 q3
theorem a4P{it l:Addr}{items:Array Value}{Q:Value→Shared→Prop}(hh:A.handled=none)(hit:s.heap.IsRevIter it l ((items.size:Int) - 1))(hl:s.heap.IsList l items)(hne:l≠it)(hz:items.size≤sizeLine)
  (fin:∀ h' tk acc c1,(∀ b o,b≠it→s.heap.get? b=some o→h'.get? b=some o)→h'.get? s.heap.objs.size=some { cls:=.type "list",dict:=none,data:=.seq acc c1,slots:=#[] }→ItemsOf (a2c items) acc items.size→Q (.ref s.heap.objs.size) { s with heap:=h',toks:=tk }) :
  wpAny (model prog w) A (call (.type "list") [.ref it]) Q E s:=by
 obtain⟨oi,hoi,_⟩:=id hit
 obtain⟨ol,hol,_⟩:=id hl
 have i1:s.heap.objs.size≠it:=c7F (c6I hoi)
 have i2:s.heap.objs.size≠l:=c7F (c6I hol)
 let h1:=s.heap.push { cls:=.type "list",data:=.seq #[] }
 have up:∀ b o,s.heap.get? b=some o→h1.get? b=some o:=fun b o e=>c6y _ e
 have gS:h1.get? s.heap.objs.size=some { cls:=.type "list",data:=.seq #[] }:=c6G _ rfl
 refine callType_codes (Q₁:=fun x s1=>x = .ref s.heap.objs.size∧s1 = { s with heap:=h1 }) F.called_list (F.typeCall_list_1 _) F.entry_list_init (code_list_new _ ⟨rfl,rfl⟩) ?_
 rintro x s1 ⟨rfl,rfl⟩
 refine⟨⟨_,gS,rfl⟩,F.args_list_init_2 _ _,b3H (A:=A.in1) hh (hit.at fun o e=>up it o e) (hl.at fun o e=>up l o e) hne i1 i2 hz gS fun h' tk acc c1 q1 q2 q3=>?_⟩
 exact⟨rfl,fin h' tk acc c1 (fun b o b1 e=>q1 b o (c7h (c6I e)) b1 (up b o e)) q2 q3⟩
end
section
variable {X:Cx}
noncomputable def a37(H:Hp)(a:Addr):Hp:=fun b=>if b=a then none else H b
theorem a36{H:Hp}{a b:Addr}(h:b≠a):a37 H a b=H b:=if_neg h
theorem a35{H:Hp}{a:Addr}:a37 H a a=none:=if_pos rfl
theorem b1E{items:Array Value}{acc:Array Value}(h:ItemsOf (a2c items) acc items.size):acc.toList=items.toList.reverse:=by
 obtain⟨h1,h2⟩:=h
 apply c8v
 ·rw[c7d,Array.length_toList,Array.length_toList,h1]
 ·intro j g1 g2
  rw[Array.length_toList]at g1
  have e:=h2 j acc[j] (Array.getElem?_eq_getElem g1)
  have e2:items.size - 1 - j<items.size:=by omega
  have e3:items[items.size - 1 - j]? = some (items[items.size - 1 - j]'e2):=Array.getElem?_eq_getElem e2
  have e4:items[items.size - 1 - j]'e2=acc[j]:=Option.some.inj (e3.symm.trans e)
  rw[c9h,Array.getElem_toList,Array.getElem_toList,← e4]
  congr 1
end
theorem o8.take':∀{xs:List V} {us:List Value} (k:Nat),o8 xs us→o8 (xs.take k) (us.take k)
 | _,_,0,_=>.nil
 | _,_,_+1,.nil=>.nil
 | _,_,k+1,.cons r t=>.cons r (o8.take' k t)
theorem o8.drop':∀{xs:List V} {us:List Value} (k:Nat),o8 xs us→o8 (xs.drop k) (us.drop k)
 | _,_,0,h=>h
 | _,_,_+1,.nil=>.nil
 | _,_,k+1,.cons _ t=>o8.drop' k t
section
variable {X:Cx}
noncomputable def b0R:V→List V→Hp→VK→Prop:=fun x vs H Q=>∃ l xs y,∃ k:Nat,x = .ref l∧vs=[.int (k:Int),y]∧H l=some (.lst xs)∧k≤xs.length∧xs.length<sizeLine∧Q .non (upd H l (.lst (xs.take k++y :: xs.drop k)))
theorem b1M:MtM X "list.insert" b0R:=by
 intro pins s σ H x vs v us Q I rx rv h
 obtain⟨l,xs,y,k,rfl,rfl,hH,hk,hz,q⟩:=h
 cases rx
 ·obtain⟨u1,u,rfl,⟨t,rfl⟩,ru⟩:=b3j rv
  obtain⟨z,its,n,r,hl,e⟩:=I.lstM hH
  have hlen:=r.length
  have hb:(-(2 ^ 63:Int)≤(k:Int))∧(k:Int)<2 ^ 63:=by
   have h1:k<sizeLine:=c6O hk hz
   have h2:(sizeLine:Int)≤2 ^ 62:=by decide +kernel
   omega
  have hf:Builtin.List.listFitsIndex (k:Int)=true:=by
   unfold Builtin.List.listFitsIndex
   rw[decide_eq_true hb.1,decide_eq_true hb.2];rfl
  generalize hx:(k:Int)=x at *
  refine call_meets F.slot_list_insert ⟨_,e,rfl⟩ F.entry_list_insert (F.args_list_insert_3 _ _ _) (AutoSeq1.list_insert_list_int_val_1 l its.toArray n x t u (by rw[hf];exact c6S) (by rw[c6L];omega)) ⟨e,?_⟩
  refine⟨.non,_,I.lset (its':=its.take k++u :: its.drop k) hH e ?_ ((r.take' k).append (.cons ru (r.drop' k))) ?_,rfl,q⟩
  ·have ek:(if x<0 then(x+(its.toArray.size:Int)).toNat else min x.toNat its.toArray.size)=k:=by
    rw[if_neg (by omega),c6L];omega
   show(its.toArray.extract 0 (if x<0 then(x+(its.toArray.size:Int)).toNat else min x.toNat its.toArray.size)).push u++its.toArray.extract (if x<0 then(x+(its.toArray.size:Int)).toNat else min x.toNat its.toArray.size)=_
   rw[ek]
   apply Array.toList_inj.mp
   simp
   exact c7y (by rw[c7K];exact c6U _)
  ·rw[c6H,c7p,c7f,c7K];omega
end
theorem a3X(r:Addr)(m:Int)(t u v:Tok)(hs:(c6z 0 && c6z m && c6z 1 && c6z (-1) && c6z (0 - 1) && c6z (Builtin.Range.rangeSize 0 m 1))=true) :
  Meets (Builtin.«range.__reversed__» ⟨[.ref r],[]⟩) (fun _ R s=>s.heap.get? r=some { cls:=.type "range",dict:=none,data:=.fields #[.int 0 t,.int m u,.int 1 v],slots:=#[] } ∧
   R (.ok (.ret (Value.ref s.heap.objs.size))) { s with heap:=s.heap.push { cls:=Value.type "range_iterator",data:=Data.fields #[rawInt (0+(Builtin.Range.rangeSize 0 m 1 - 1)*1),rawInt (Builtin.Range.rangeSize 0 m 1),rawInt (-1)] },toks:=s.toks }) :=
 .of_wp fun prog w A R s h=>by
  obtain⟨hp,g,d,tk,os⟩:=s
  obtain⟨hl,h⟩:=h
  wp_walk
  rw[hs]
  simp only[Bool.not_true,c7J,if_false,if_true]
  wp_walk
  exact⟨_,rfl,h⟩
section
variable {prog:Program} {w:World} {A:Around} {E:Value→Shared→Prop} {s:Shared}
noncomputable abbrev a1H(m:Int)(t u v:Tok):Obj:={ cls:=.type "range",data:=.fields #[.int 0 t,.int m u,.int 1 v] }
noncomputable abbrev G4(m:Int):Obj:={ cls:=.type "range_iterator",data:=.fields #[rawInt (0+(Builtin.Range.rangeSize 0 m 1 - 1)*1),rawInt (Builtin.Range.rangeSize 0 m 1),rawInt (-1)] }
theorem a72:isSubtype (.type "range_iterator") (.type "reversed")=pure false:=by rw[isSubtype_type];kernel_rfl
theorem a8K{r:Addr}{m:Int}{t u v:Tok}{Q:Value→Shared→Prop}(hr:s.heap.get? r=some (a1H m t u v))(hs:(c6z 0 && c6z m && c6z 1 && c6z (-1) && c6z (0 - 1) && c6z (Builtin.Range.rangeSize 0 m 1))=true)
  (h:Q (.ref s.heap.objs.size) { s with heap:=s.heap.push (G4 m) }):wpAny (model prog w) A (call (.builtin "range.__reversed__") [.ref r]) Q E s :=
 call_meets F.slot_range_reversed ⟨_,hr,rfl⟩ F.entry_range_reversed (F.args_range_reversed_1 _) (a3X r m t u v hs) ⟨hr,h⟩
theorem a8G{r:Addr}{m:Int}{t u v:Tok}{Q:Value→Shared→Prop}(hr:s.heap.get? r=some (a1H m t u v))(hs:(c6z 0 && c6z m && c6z 1 && c6z (-1) && c6z (0 - 1) && c6z (Builtin.Range.rangeSize 0 m 1))=true)
  (h:Q (.ref s.heap.objs.size) { s with heap:=s.heap.push (G4 m) }):codeAny (model prog w) A (.call (.builtin "reversed.__new__") ⟨[.type "reversed",.ref r],[]⟩) (wants Q E) s:=by
 have hT:s.TypeIs (.ref r) "range" := ⟨_,hr,rfl⟩
 refine codeAny_of_tree ?_
 show wpAny _ A.in1 (checkBuiltinCall "reversed.__new__" ⟨[.type "reversed",.ref r],[]⟩ >>= fun _=>again (.builtin "reversed.__new__" ⟨[.type "reversed",.ref r],[]⟩)) _ _ s
 refine c6u (wpAny_of_eq (F.newCall_reversed_1 _) (c6E ⟨plainId_quiet F.plain_reversed_new _,codeAny_builtin F.entry_reversed_new ?_⟩))
 rw[Around.under_plainId F.plain_reversed_new _]
 unfold Builtin.«reversed.__new__»
 refine c6u (wpAny_of_eq (newClass_reversed _) ?_)
 try dsimp only
 refine c6u (wpAny_of_eq (a:=()) (by first|rfl|kernel_rfl) ?_)
 refine c6u (wpAny_of_eq (a:=()) (by first|rfl|kernel_rfl) ?_)
 try dsimp only
 refine c6u (wpAny_specialOf hT F.slot_range_reversed.lookup ?_)
 try dsimp only
 refine c6u (wpAny_of_eq (F.slot_range_reversed.bind _) ?_)
 try dsimp only
 have ng:¬ ((Value.builtin "range.__reversed__" == Value.none)=true):=c6S
 first
 | rw[if_neg ng]
 | (show wpAny _ _ (if (Value.builtin "range.__reversed__" == Value.none)=true then _ else _) _ _ _;rw[if_neg ng])
 refine c6u (wpAny_rule ?_)
 refine c6u (m:=runValue (.call (.builtin "range.__reversed__") ⟨[.ref r],[]⟩)) (show wpAny _ _ (call (.builtin "range.__reversed__") [.ref r]) _ _ _ from a8K hr hs ?_)
 first
 | exact c6E h
 | exact c6u (c6E (c6E h))
end
section
variable {prog:Program} {w:World} {A:Around} {E:Value→Shared→Prop} {s:Shared}
theorem a4N{r:Addr}{m:Int}{t u v:Tok}{Q:Value→Shared→Prop}(hr:s.heap.get? r=some (a1H m t u v))(hs:(c6z 0 && c6z m && c6z 1 && c6z (-1) && c6z (0 - 1) && c6z (Builtin.Range.rangeSize 0 m 1))=true)
  (h:Q (.ref s.heap.objs.size) { s with heap:=s.heap.push (G4 m) }):wpAny (model prog w) A (call (.type "reversed") [.ref r]) Q E s:=by
 refine callType_other (U := "range_iterator") (Q₁:=fun x s1=>x = .ref s.heap.objs.size∧s1 = { s with heap:=s.heap.push (G4 m) }) (by decide +kernel) F.create_reversed ⟨_,_,F.mro_reversed⟩ F.made_reversed a72
  (F.typeCall_reversed_1 _) (a8G hr hs ⟨rfl,rfl⟩) ?_
 rintro x s1 ⟨rfl,rfl⟩
 exact⟨⟨_,c6G _ rfl,rfl⟩,h⟩
end
noncomputable def Itd(hi:Int)(n:Nat):It:=⟨fun i _=>i<n,fun i H x H'=>H'=H∧x = .int (hi - i),fun i _=>n≤i⟩
theorem b1v{P:Program}{w:World}{K:c6v}{tg:Expr}(it:Addr)(hi:Int)(n:Nat):a66 P w K tg (Itd hi n) [it] it (fun i h=>IsRangeIter h it (hi+(i:Nat)*(-1)) ((n:Int) - (i:Nat)) (-1)) where
 mem:=by simp
 obj:=fun i h st b hb=>by
  obtain rfl:b=it:=by simpa using hb
  exact⟨_,st,fun v z=>by
   have q:Data.fields _=Data.cell v:=z
   cases q⟩
 keep:=fun i h h' st k=>k it (by simp) _ st
 item:=by
  intro X hP hw hK hc i pins s σ H E I hf st hg
  subst hP hw hK
  obtain⟨f0,f1,f2,f3,f4,f5⟩:=hf it (by simp)
  have W:=Walks.range (prog:=X.prog) (w:=X.w) (I.ok.hd hc) it hi (-1) n
  refine W.item i s _ _ hg st fun v h' tk hv st' kk=>?_
  obtain⟨t,rfl⟩:=hv
  have I1:Inv X pins σ H { s with heap:=h',toks:=tk }:=I.turned (fun b o hb e=>kk b o (by simpa using hb) e) f0 f1 f3 f4 f5
  refine⟨_,rfl,a8w (s:={ s with heap:=h',toks:=tk }) (n := "range_iterator") st' rfl rfl (by decide) ⟨.int (hi - i),H,I1,⟨t,?_⟩,⟨rfl,rfl⟩,st',fun b hb=>(hf b hb).1⟩⟩
  rw[show hi+(i:Int) * -1=hi - i by omega]
 done:=by
  intro X hP hw hK hc i pins s σ H E I hf st hg
  subst hP hw hK
  obtain⟨f0,f1,f2,f3,f4,f5⟩:=hf it (by simp)
  exact wpAny_pyNext_range_end (I.ok.hd hc) st (by have:n≤i:=hg;omega) fun h' eb=>⟨rfl,I.turned (t':=s.toks) (fun b o hb e=>eb b o hb e) f0 f1 f3 f4 f5⟩
 self:=fun _ _ _ _ _ st h=>wpAny_pyIter_rangeiter st h
section
variable {X:Cx}
noncomputable def b9v(p:Addr)(j:Int):Heap→Prop:=fun h=>∃ t u v,h.get? p=some (a1H j t u v)
theorem b4Y:C5 X (.type "range") (fun xs H Q=>∃ j:Int,xs=[.int j]∧∀ p,H p=none→X.s₀.heap.objs.size≤p→Q (.ref p) (upd H p (.ext (b9v p j)))):=by
 intro pins s σ H xs us Q I rv h
 obtain⟨j,rfl,q⟩:=h
 obtain⟨u,rfl,t,rfl⟩:=a12 rv
 have e:(s.heap.push (a1H j s.toks t (s.toks+1))).get? s.heap.objs.size=some (a1H j s.toks t (s.toks+1)):=c6G _ rfl
 refine call_range_1 ⟨.ref s.heap.objs.size,_,I.laid (t':=s.toks+1+1) (o:=.ext (b9v s.heap.objs.size j)) (fun b u e=>c6y _ e) (c6U _) ?_,rfl,q _ I.fresh I.sz⟩
 exact⟨⟨_,_,_,e⟩,⟨_,e⟩,fun h1 h2 z k=>by
  obtain⟨t,u,v,z⟩:=z
  exact⟨t,u,v,k _ z⟩⟩
theorem b7w{j:Int}(h1:-(2 ^ 62)≤j)(h2:j<2 ^ 62):(c6z 0 && c6z j && c6z 1 && c6z (-1) && c6z (0 - 1) && c6z (Builtin.Range.rangeSize 0 j 1))=true:=by
 have f:∀ x:Int,-(2 ^ 62)≤x→x<2 ^ 62→c6z x=true:=fun x a b=>by
  unfold c6z
  rw[decide_eq_true (show -(2 ^ 63)≤x by omega),decide_eq_true (show x<2 ^ 63 by omega)];rfl
 rw[f 0 (by decide) (by decide),f j h1 h2,f 1 (by decide) (by decide),f (-1) (by decide) (by decide),f (0 - 1) (by decide) (by decide),f _ (by rw[rangeSize_one];split<;>omega) (by rw[rangeSize_one];split<;>omega)];rfl
noncomputable def c3l(ta:TA):TI:=fun σ H R=>ta σ H fun vs H1=>∃ j:Int,∃ p,vs=[.ref p]∧H1 p=some (.ext (b9v p j))∧0≤j∧j<2 ^ 62∧R (Itd (j - 1) j.toNat) H1
theorem b9K{tg:Expr}{a:Expr}{ta:TA}{p pos:Pos}(hg:Gl X "reversed")(hm:X.mg "reversed" = none)(hv:bootBuiltins "reversed" = some (.type "reversed"))(ha:PA X [a] ta)(hs:starEach [a] X.env=[(false,eval a X.env)]:=by rfl):PI X tg (.Call (.Name "reversed" p) [a] [] pos) (c3l ta):=by
 intro pins s σ H R I h
 refine Call_ (S6 I hg hm hv (PyProof.Rows.callWith_type1 (thn (ha pos pins s σ H _ I h) fun us s1 zz=>?_) hs rfl))
 obtain⟨vs,H1,I1,r1,q1⟩:=zz
 obtain⟨j,r,e,hH,b1,b2,q⟩:=q1
 subst e
 obtain⟨u,rfl,ru⟩:=a12 r1
 cases ru
 obtain⟨t,u,v,hr⟩:=(I1.hok r _ hH).1
 refine a4N hr (b7w (by omega) b2) ?_
 have e0:(s1.heap.push (G4 j)).get? s1.heap.objs.size=some (G4 j):=c6G _ rfl
 have en:Builtin.Range.rangeSize 0 j 1=((j.toNat:Nat):Int):=by rw[rangeSize_one];split<;>omega
 have I2:Inv X pins σ H1 { s1 with heap:=s1.heap.push (G4 j) }:=I1.kept (t':=s1.toks) fun b o e=>c6y _ e
 have st:IsRangeIter (s1.heap.push (G4 j)) s1.heap.objs.size ((j - 1)+((0:Nat):Int)*(-1)) ((j.toNat:Int) - ((0:Nat):Int)) (-1):=by
  show(s1.heap.push (G4 j)).get? s1.heap.objs.size=some _
  rw[e0]
  unfold G4
  rw[en,show 0+(((j.toNat:Nat):Int) - 1)*1=(j - 1)+((0:Nat):Int)*(-1)by omega,show(j.toNat:Int) - ((0:Nat):Int)=((j.toNat:Nat):Int)by omega]
 refine wpAny_pyIter_rangeiter st ⟨s1.heap.objs.size,[s1.heap.objs.size],_,_,H1,rfl,I2,b1v _ (j - 1) j.toNat,st,fun b hb=>?_,q⟩
 obtain rfl:b=s1.heap.objs.size:=by simpa using hb
 exact I1.fpOk (c6U _) (I1.hok.fresh (c6U _))
end
end L2
namespace L2
open PySem PySem.Spec PyProof.Rows
theorem b1z:typeLookup (.type "reversed") "__len__" = pure none:=by rw[typeLookup_type,builtinLookup_eq_fast];kernel_rfl
theorem a8Z:typeLookup (.type "reversed") "__length_hint__" = pure (some (.builtin "reversed.__length_hint__")):=by rw[typeLookup_type,builtinLookup_eq_fast];kernel_rfl
theorem b1y:typeLookup (.type "tuple") "__reversed__" = pure none:=by rw[typeLookup_type,builtinLookup_eq_fast];kernel_rfl
theorem a9y:Manifest.owners.lookup (String.ofList ['d','e','s','r','e','v','e','r'].reverse)=some Manifest.sig_reversed:=by kernel_rfl
theorem G7:Slot "reversed" "__next__" "reversed.__next__" := .of (owner := "reversed") (n := "__next__")
 (by rw[typeLookup_type,builtinLookup_eq_fast];kernel_rfl) (by decide +kernel) (by decide +kernel) (by decide +kernel)
 (by first|exact .inl (by decide +kernel)|exact .inr (by decide +kernel)) (by rw[isSubtype_type];kernel_rfl)
theorem a19:entryFor table "reversed.__next__" = some Builtin.«reversed.__next__»:=entryFor_of_tree (by kernel_rfl)
theorem a2b(a:Value):argsOk "reversed.__next__" ⟨[a],[]⟩:=by
 unfold argsOk
 rw[signature?_of (id := "reversed.__next__") (n:=['_','_','t','x','e','n','_','_']) (o:=['d','e','s','r','e','v','e','r']) (by kernel_rfl) a9y]
 kernel_rfl
theorem a14:Slot "reversed" "__iter__" "reversed.__iter__" := .of (owner := "reversed") (n := "__iter__")
 (by rw[typeLookup_type,builtinLookup_eq_fast];kernel_rfl) (by decide +kernel) (by decide +kernel) (by decide +kernel)
 (by first|exact .inl (by decide +kernel)|exact .inr (by decide +kernel)) (by rw[isSubtype_type];kernel_rfl)
theorem a8N(a:Value):argsOk "reversed.__iter__" ⟨[a],[]⟩:=by
 unfold argsOk
 rw[signature?_of (id := "reversed.__iter__") (n:=['_','_','r','e','t','i','_','_']) (o:=['d','e','s','r','e','v','e','r']) (by kernel_rfl) a9y]
 kernel_rfl
theorem a8x:entryFor table "reversed.__iter__" = some Builtin.«dict_keyiterator.__iter__»:=entryFor_alias (id' := "dict_keyiterator.__iter__")
 (by kernel_rfl) (by first|rfl|decide +kernel|(unfold String.splitOn;simp +decide [String.splitOnAux])) (by decide +kernel) (by kernel_rfl)
theorem a15:Slot "reversed" "__length_hint__" "reversed.__length_hint__" := .of (owner := "reversed") (n := "__length_hint__")
 (by rw[typeLookup_type,builtinLookup_eq_fast];kernel_rfl) (by decide +kernel) (by decide +kernel) (by decide +kernel)
 (by first|exact .inl (by decide +kernel)|exact .inr (by decide +kernel)) (by rw[isSubtype_type];kernel_rfl)
theorem a8y:entryFor table "reversed.__length_hint__" = some Builtin.«reversed.__length_hint__»:=entryFor_of_tree (by kernel_rfl)
theorem a8O(a:Value):argsOk "reversed.__length_hint__" ⟨[a],[]⟩:=by
 unfold argsOk
 rw[signature?_of (id := "reversed.__length_hint__") (n:=['_','_','t','n','i','h','_','h','t','g','n','e','l','_','_']) (o:=['d','e','s','r','e','v','e','r']) (by kernel_rfl) a9y]
 kernel_rfl
theorem a7P:Slot "reversed" "__init__" "object.__init__" := .of (owner := "object") (n := "__init__")
 (by rw[typeLookup_type,builtinLookup_eq_fast];kernel_rfl) (by decide +kernel) (by decide +kernel) (by decide +kernel)
 (by first|exact .inl (by decide +kernel)|exact .inr (by decide +kernel)) (by rw[isSubtype_type];kernel_rfl)
theorem a9Q:TypeCalled "reversed" "reversed.__new__" "object.__init__" :=
 ⟨by decide +kernel,by decide +kernel,⟨_,_,F.mro_reversed⟩,F.made_reversed,by decide +kernel,F.sub_reversed_self,a7P⟩
noncomputable def a5T(l:Addr)(i:Int):Obj:={ cls:=.type "reversed",data:=.fields #[.ref l,rawInt i] }
noncomputable def N7(h:Heap)(a l:Addr)(i:Int):Prop:=∃ o,h.get? a=some o∧o.cls = .type "reversed" ∧ o.data = .fields #[.ref l,rawInt i]
theorem N7.typeIs{s:Shared}{a l:Addr}{i:Int}(x:N7 s.heap a l i):s.TypeIs (.ref a) "reversed" := let ⟨o,ho,hc,_⟩:=x;⟨o,ho,hc⟩
theorem N7.at{h h':Heap}{a l:Addr}{i:Int}(x:N7 h a l i)(e:∀ o,h.get? a=some o→h'.get? a=some o):N7 h' a l i:=let ⟨o,ho,r⟩:=x;⟨o,e _ ho,r⟩
theorem b1O(l:Addr)(items:Array Value)(hz:(items.size:Int)<2 ^ 63):Meets (Builtin.«reversed.__new__» ⟨[.type "reversed",.ref l],[]⟩) (fun _ R s=>IsTup s.heap l items∧∀ t,R (.ok (.ret (.ref s.heap.objs.size))) { s with heap:=s.heap.push (a5T l ((items.size:Int) - 1)),toks:=t }) :=
 .of_wp fun prog w A R s h=>by
  obtain⟨ht,h⟩:=h
  unfold Builtin.«reversed.__new__»
  refine c6u (wpAny_of_eq (newClass_reversed _) ?_)
  try dsimp only
  refine c6u (wpAny_of_eq (a:=()) (by first|rfl|kernel_rfl) ?_)
  refine c6u (wpAny_of_eq (a:=()) (by first|rfl|kernel_rfl) ?_)
  try dsimp only
  refine c6u (wpAny_specialOf ht.typeIs b1y ?_)
  try dsimp only
  refine c6u ?_
  wp_delta
  refine c6u (wpAny_isInstance (T := "tuple") (b:=false) ht.typeIs (by rw[isSubtype_type];kernel_rfl) ?_)
  try dsimp only
  rw[if_neg (by decide)]
  refine c6u (wpAny_specialOf ht.typeIs slot_tuple_getitem.lookup ?_)
  try dsimp only
  rw[if_pos (by decide +kernel)]
  refine c6E ?_
  rw[if_neg (by decide)]
  refine c6u (len_tuple ht hz ?_)
  refine c6u (wpAny_of_eq (a:=some (items.size:Int)) rfl ?_)
  try dsimp only
  show wpAny _ _ (newObj (.type "reversed") (.fields #[Value.ref l,rawInt ((items.size:Int) - 1)]) >>= _) _ _ _
  refine c6u (wpAny_newObj_type ?_)
  exact c6E ⟨_,rfl,h _⟩
section
variable {prog:Program} {w:World} {A:Around} {E:Value→Shared→Prop} {s:Shared}
theorem b5b{l:Addr}{items:Array Value}{Q:Value→Shared→Prop}(ht:IsTup s.heap l items)(hz:(items.size:Int)<2 ^ 63)
  (h:∀ t,Q (.ref s.heap.objs.size) { s with heap:=s.heap.push (a5T l ((items.size:Int) - 1)),toks:=t }):wpAny (model prog w) A (call (.type "reversed") [.ref l]) Q E s:=by
 refine callType_new a9Q (by decide) (F.typeCall_reversed_1 _) (F.newCall_reversed_1 _) (fun obj=>F.args_object_init_2 obj _) F.entry_reversed_new (b1O l items hz) ⟨ht,fun t=>?_⟩
 exact⟨⟨_,c6G _ rfl,rfl⟩,h t⟩
theorem b4g{it l:Addr}{i:Nat}{items:Array Value}{x:Value}{Q:Option Value→Shared→Prop}(hit:N7 s.heap it l (i:Int))(hl:IsTup s.heap l items)(hz:(items.size:Int)<2 ^ 63)(hx:items[i]? = some x)
  (hQ:∀ h' t,N7 h' it l ((i:Int) - 1)→Heap.SameBut it s.heap h'→Q (some x) { s with heap:=h',toks:=t }):wpAny (model prog w) A (pyNext (.ref it)) Q E s:=by
 obtain⟨o,ho,hc,hd⟩:=id hit
 have hi:i<items.size:=(Array.getElem?_eq_some_iff.mp hx).1
 unfold pyNext
 refine c6u (wpAny_attempt (wpAny_callSpecial?_slot (name:=Str.ofString "__next__") hit.typeIs G7
  (wpAny_call_entry G7 hit.typeIs a19 ?_ (a2b _))))
 unfold Builtin.«reversed.__next__»
 refine c6u (wpAny_of_eq (a:=(Value.ref it,[])) rfl ?_)
 try dsimp only
 refine c6u (wpAny_field ho hd (x:=.ref l) rfl ?_)
 refine c6u (wpAny_field ho hd (x:=rawInt (i:Int)) rfl ?_)
 show wpAny _ _ (if (i:Int)<0 then _ else _) _ _ s
 rw[if_neg (by omega)]
 refine c6u (wpAny_specialOf hl.typeIs slot_tuple_getitem.lookup ?_)
 try dsimp only
 rw[if_neg (by decide)]
 refine c6u (wpAny_mkInt ?_)
 refine c6u (wpAny_attempt (getItem_tuple (j:=i) (x:=x) hl (by omega) (by omega) ?_ hx ?_))
 ·unfold seqIndex?
  rw[if_neg (show ¬ (i:Int)<0 by omega),if_pos (by rw[c8u,decide_eq_true_eq,decide_eq_true_eq];omega)]
  rfl
 ·try dsimp only
  refine c6u (wpAny_field ho hd (x:=rawInt (i:Int)) rfl ?_)
  try dsimp only
  refine c6u (wpAny_setField ho hd (by simp) ?_)
  refine c6E ⟨x,rfl,c6E (hQ _ _ ?_ (Heap.SameBut.update ..))⟩
  exact⟨_,c7n _ ho (Obj.isFreed_of_fields (Obj.data_mapFields hd _)),(Obj.cls_mapFields ..).trans hc,by
   rw[Obj.data_mapFields hd];simp⟩
theorem b3t{it l:Addr}{Q:Option Value→Shared→Prop}(hh:A.handled=none)(hit:N7 s.heap it l (-1))
  (hQ:∀ h',Heap.ExtBut it s.heap h'→Q none { s with heap:=h' }):wpAny (model prog w) A (pyNext (.ref it)) Q E s:=by
 obtain⟨o,ho,hc,hd⟩:=id hit
 unfold pyNext
 refine c6u (wpAny_attempt (wpAny_callSpecial?_slot (name:=Str.ofString "__next__") hit.typeIs G7
  (wpAny_call_entry G7 hit.typeIs a19 ?_ (a2b _))))
 unfold Builtin.«reversed.__next__»
 refine c6u (wpAny_of_eq (a:=(Value.ref it,[])) rfl ?_)
 try dsimp only
 refine c6u (wpAny_field ho hd (x:=.ref l) rfl ?_)
 refine c6u (wpAny_field ho hd (x:=rawInt (-1)) rfl ?_)
 show wpAny _ _ (if (-1:Int)<0 then _ else _) _ _ s
 rw[if_pos (by decide)]
 refine c6u (wpAny_rule ?_)
 refine c6u ?_
 wp_delta
 refine c6u (wpAny_setField ho hd (by simp) ?_)
 have g1:=c7n (Obj.mapFields (·.setIfInBounds 1 (rawInt (-1)))) ho (Obj.isFreed_of_fields (Obj.data_mapFields hd _))
 have d1:(Obj.mapFields (·.setIfInBounds 1 (rawInt (-1))) o).data = .fields (#[Value.ref l,rawInt (-1)].setIfInBounds 1 (rawInt (-1))):=Obj.data_mapFields hd _
 refine wpAny_setField g1 d1 (by simp) ?_
 refine c6u ?_
 show wpAny _ _ (newExc (.type "StopIteration") [] >>= _) _ _ _
 refine c6u ?_
 simp only[newExc,newTuple]
 refine c6u (wpAny_newObj_type ?_ (by size_fits))
 refine c6u (m:=firstArgMember _ _) (wpAny_of_eq (a:=Value.none) (by first|rfl|(simp only[firstArgMember];rfl)) ?_)
 refine wpAny_newObj_type ?_ (by size_fits)
 simp only[raiseNew]
 refine c6u (wpAny_handled ?_)
 rw[show A.in1.handled=none from hh]
 refine c6u (c6E (wpAny_throw ?_))
 refine c6u (wpAny_isInstance (T := "StopIteration") (b:=true) ⟨_,c6G _ rfl,rfl⟩ isSubtype_stop ?_)
 refine c6E (hQ _ ((Heap.ExtBut.push (Heap.ExtBut.push ?_ _) _)))
 exact fun b o hb e=>by
  rw[c7l _ _ (Ne.symm hb),c7l _ _ (Ne.symm hb)];exact e
theorem a8v{it l:Addr}{i:Int}{Q:Value→Shared→Prop}(hit:N7 s.heap it l i)(h:Q (.ref it) s):wpAny (model prog w) A (pyIter (.ref it)) Q E s:=by
 refine wpAny_pyIter_slot hit.typeIs a14 (wpAny_call_entry a14 hit.typeIs a8x ?_ (a8N _))
 show wpAny _ _ (ret (.ref it)) _ _ s
 exact c6E ⟨_,rfl, "reversed",_,hit.typeIs,G7.lookup,h⟩
theorem b4u{it l:Addr}{items:Array Value}{Q:Bool→Shared→Prop}(hit:N7 s.heap it l ((items.size:Int) - 1))(hl:IsTup s.heap l items)(hz:items.size≤sizeLine)(h:∀ t,Q (decide ((items.size:Int)≠0)) { s with toks:=t }):wpAny (model prog w) A (Builtin.List.listLengthHint (.ref it)) Q E s:=by
 have hT:=hit.typeIs
 obtain⟨o,ho,hc,hd⟩:=id hit
 unfold Builtin.List.listLengthHint
 refine c6u (wpAny_specialOf hT b1z ?_)
 show wpAny _ A (specialOf (Value.ref it) (Str.ofString "__length_hint__") >>= _) Q E s
 refine c6u (wpAny_specialOf hT a8Z ?_)
 generalize hv:("reversed.__length_hint__" : String)=nm
 wp_delta
 rw[show splitId nm=some ("reversed","__length_hint__")by subst hv;decide +kernel]
 subst hv
 refine c6u (wpAny_isInstance (T := "reversed") (b:=true) hT (by rw[isSubtype_type];kernel_rfl) ?_)
 refine wpAny_ite_split (fun z=>absurd z (by decide)) (fun _=>?_)
 have hzl:(items.size:Int)<2 ^ 63:=by
  have:sizeLine<2 ^ 62:=by decide
  omega
 refine wpAny_ite_split (fun z=>absurd z (by decide +kernel)) (fun _=>?_)
 refine c6u (wpAny_rule ?_)
 refine c6u (wpAny_of_eq (a15.bind _) ?_)
 try dsimp only
 refine c6u (wpAny_attempt (wpAny_call_entry a15 hT a8y ?_ (a8O _)))
 unfold Builtin.«reversed.__length_hint__»
 refine c6u (wpAny_of_eq (a:=Value.ref it) rfl ?_)
 try dsimp only
 refine c6u (wpAny_field ho hd (x:=.ref l) rfl ?_)
 try dsimp only
 rw[if_neg (show ¬ (Value.ref l == Value.none)=true from c6S)]
 refine c6u (len_tuple hl hzl ?_)
 refine c6u (wpAny_of_eq (a:=some (items.size:Int)) rfl ?_)
 try dsimp only
 refine c6u (wpAny_field ho hd (x:=rawInt ((items.size:Int) - 1)) rfl ?_)
 try dsimp only
 show wpAny _ _ (if (items.size:Int)<((items.size:Int) - 1)+1 then _ else _) _ _ _
 rw[if_neg (by omega)]
 refine c6u (wpAny_mkInt (c6E ⟨_,rfl,?_⟩))
 refine c6u (wpAny_of_eq (a:=some ((items.size:Int) - 1+1)) rfl ?_)
 try dsimp only
 rw[show(items.size:Int) - 1+1=items.size by omega]
 rw[if_neg (by
  unfold Builtin.List.listFitsIndex
  rw[c9D,decide_eq_true (show -(2 ^ 63:Int)≤(items.size:Int)by omega),decide_eq_true hzl];decide),if_neg (by omega),if_neg (by
  unfold Builtin.List.listTooLong
  rw[decide_eq_true_eq,c7A];omega)]
 refine c6E ?_
 have e:((items.size:Int) != 0)=decide ((items.size:Int)≠0):=by
  by_cases z:(items.size:Int)=0
  ·rw[z];rfl
  ·rw[decide_eq_true z,bne_iff_ne.mpr z]
 rw[e]
 exact h _
theorem b1p(hh:A.handled=none)(I l:Addr)(hne:l≠I)(items:Array Value)(hz:(items.size:Int)<2 ^ 63) :
  Walks prog w A I [I,l] [I] items.size (fun i v=>items[items.size - 1 - i]? = some v) (fun i h=>i≤items.size∧N7 h I l ((items.size:Int) - 1 - (i:Int))∧IsTup h l items) where
 sub:=fun b hb=>by simp at hb;simp[hb]
 frame:=fun _ _ _ x hk=>⟨x.1,x.2.1.at fun o e=>hk I (by simp) o e,let ⟨o,ho,r⟩:=x.2.2;⟨o,hk l (by simp) o ho,r⟩⟩
 item:=fun i s Q E hi x hQ=>by
  have e:(items.size:Int) - 1 - (i:Int)=((items.size - 1 - i:Nat):Int):=by omega
  have hit:=x.2.1
  rw[e]at hit
  have hx:items[items.size - 1 - i]? = some (items[items.size - 1 - i]'(by omega)):=Array.getElem?_eq_getElem (by omega)
  refine b4g hit x.2.2 hz hx fun h' t hit' hs'=>?_
  have e2:((items.size - 1 - i:Nat):Int) - 1=(items.size:Int) - 1 - ((i+1:Nat):Int):=by omega
  rw[e2]at hit'
  exact hQ _ h' t hx ⟨hi,hit',let ⟨o,ho,r⟩:=x.2.2;⟨o,(hs'.2 l hne).trans ho,r⟩⟩ fun b o hb eo=>hs'.extBut b o (fun h=>hb (by simp[h])) eo
 done:=fun s Q E x hQ=>by
  have e:(items.size:Int) - 1 - (items.size:Int) = -1:=by omega
  have hit:=x.2.1
  rw[e]at hit
  exact b3t hh hit fun h' he'=>hQ h' s.toks fun b o hb eo=>he' b o (fun h=>hb (by simp[h])) eo
 self:=fun _ _ _ _ x hQ=>a8v x.2.1 hQ
theorem a80{R:Result→Shared→Prop}{it l S:Addr}{items:Array Value}{c₀:Nat}(hh:A.handled=none)(hit:N7 s.heap it l ((items.size:Int) - 1))(hl:IsTup s.heap l items)(hne:l≠it)(hi:S≠it)(hj:S≠l)(hz:items.size≤sizeLine)
  (hS:s.heap.get? S=some { cls:=.type "list",data:=.seq #[] c₀ })
  (fin:∀ h' tk acc c1,(∀ b o,b≠S→b≠it→s.heap.get? b=some o→h'.get? b=some o)→h'.get? S=some { cls:=.type "list",dict:=none,data:=.seq acc c1,slots:=#[] }→ItemsOf (a2c items) acc items.size→R (.ok (.ret .none)) { s with heap:=h',toks:=tk }) :
  wpAny (model prog w) A.in1 (Builtin.List.listExtendWith (.ref S) (.ref it) .none) (a8S prog w A R) (fun e s'=>R (.error e) s') s:=by
 have hz2:(items.size:Int)<2 ^ 63:=by
  have:sizeLine<2 ^ 62:=by decide
  omega
 have V:=(b1p (prog:=prog) (w:=w) (A:=A.in1) hh it l hne items hz2).toS
 have nf:S∉[it,l]:=fun q=>by
  rcases c6M.mp q with q|q
  ·exact hi q
  ·exact hj (c6N.mp q)
 unfold Builtin.List.listExtendWith
 refine c6u (wpAny_typeOf hit.typeIs ?_)
 have n1:Builtin.List.listSameRef (.ref S) (.ref it)=false:=by simp[Builtin.List.listSameRef,hi]
 have n2:(Value.type "reversed" == Value.type "list")=false:=by decide
 have n3:(Value.type "reversed" == Value.type "tuple")=false:=by decide
 simp only[n1,n2,n3,Bool.or_false,c7J,if_false]
 refine c6u (a8v hit (c6u (wpAny_holding (b4u hit hl hz fun t=>?_))))
 have h0:((items.size:Int) - 1 - ((0:Nat):Int))=(items.size:Int) - 1:=by omega
 refine wpAny_ite_split (fun _=>?_) (fun _=>?_)
 ·refine c6u (wpAny_rule ?_)
  refine c6u ?_
  show wpAny _ A.in1 (updateSeq S (·.push .none) >>= fun _=>updateSeq S (·.pop)) _ _ _
  refine c6u (wpAny_updateSeq hS rfl ?_)
  have g2:=c7n (Obj.mapSeq (·.push Value.none)) hS rfl
  refine wpAny_updateSeq (hz:=by seq_fits) g2 rfl ?_
  have g3:=c7n (Obj.mapSeq (·.pop)) g2 rfl
  have oth:∀ b o,b≠S→s.heap.get? b=some o→((s.heap.update S (Obj.mapSeq (·.push Value.none))).update S (Obj.mapSeq (·.pop))).get? b=some o :=
   fun b o q1 q2=>(c7l _ _ (Ne.symm q1)).trans ((c7l _ _ (Ne.symm q1)).trans q2)
  refine c6E ⟨plainId_quiet F.plain_extend_loop _,?_⟩
  refine codeAny_extend_loopS V hz S nf .none items.size 0 _ #[] _ rfl (c7m _) ⟨c7m _,by rw[h0];exact hit.at fun o e=>oth it o (Ne.symm hi) e,let ⟨o,ho,r⟩:=hl;⟨o,oth l o (Ne.symm hj) ho,r⟩⟩ g3 (ItemsOf.nil _) fun s2 acc c1 mv g1 g2=>?_
  rw[Moved.eq_with mv]
  exact fin s2.heap s2.toks acc c1 (fun b o q1 q2 q3=>mv.heap b o (fun q=>(c6M.mp q).elim q1 fun q'=>q2 (c6N.mp q')) (oth b o q1 q3)) g1 g2
 ·refine c6E ⟨plainId_quiet F.plain_extend_loop _,?_⟩
  refine codeAny_extend_loopS V hz S nf .none items.size 0 _ #[] c₀ rfl (c7m _) ⟨c7m _,by rw[h0];exact hit,hl⟩ hS (ItemsOf.nil _) fun s2 acc c1 mv g1 g2=>?_
  rw[Moved.eq_with mv]
  exact fin s2.heap s2.toks acc c1 (fun b o q1 q2 q3=>mv.heap b o (fun q=>(c6M.mp q).elim q1 fun q'=>q2 (c6N.mp q')) q3) g1 g2
theorem b3n{R:Result→Shared→Prop}{it l S:Addr}{items:Array Value}(hh:A.handled=none)(hit:N7 s.heap it l ((items.size:Int) - 1))(hl:IsTup s.heap l items)(hne:l≠it)(hi:S≠it)(hj:S≠l)(hz:items.size≤sizeLine)
  (hS:s.heap.get? S=some { cls:=.type "list",data:=.seq #[] })
  (fin:∀ h' tk acc c1,(∀ b o,b≠S→b≠it→s.heap.get? b=some o→h'.get? b=some o)→h'.get? S=some { cls:=.type "list",dict:=none,data:=.seq acc c1,slots:=#[] }→ItemsOf (a2c items) acc items.size→R (.ok (.ret .none)) { s with heap:=h',toks:=tk }) :
  wpAny (model prog w) A.in1 (Builtin.«list.__init__» ⟨[.ref S,.ref it],[]⟩) (a8S prog w A R) (fun e s'=>R (.error e) s') s:=by
 show wpAny _ A.in1 (Builtin.List.listItems (.ref S) >>= fun was=>Builtin.List.listUpdate (.ref S) (fun _=>#[]) >>= fun _=>letGo was.toList.reverse >>= fun _=>Builtin.List.listExtendWith (.ref S) (.ref it) .none) (a8S prog w A R) (fun e s'=>R (.error e) s') s
 unfold Builtin.List.listItems
 refine c6u (c6u (wpAny_seqItems hS rfl (c6E ?_)))
 show wpAny _ A.in1 (updateSeq S (fun _=>#[]) >>= fun _=>letGo (#[]:Array Value).toList.reverse >>= fun _=>Builtin.List.listExtendWith (.ref S) (.ref it) .none) (a8S prog w A R) (fun e s'=>R (.error e) s') s
 refine c6u (wpAny_updateSeq hS rfl (c6u (wpAny_letGo ?_)))
 have g:=c7n (Obj.mapSeq fun _=>(#[]:Array Value)) hS rfl
 have oth:∀ b o,b≠S→s.heap.get? b=some o→(s.heap.update S (Obj.mapSeq fun _=>(#[]:Array Value))).get? b=some o:=fun b o q1 q2=>(c7l _ _ (Ne.symm q1)).trans q2
 refine a80 hh (hit.at fun o e=>oth it o (Ne.symm hi) e) (let ⟨o,ho,r⟩:=hl;⟨o,oth l o (Ne.symm hj) ho,r⟩) hne hi hj hz g fun h' tk acc c1 q1 q2 q3=>?_
 exact fin h' tk acc c1 (fun b o b1 b2 e=>q1 b o b1 b2 (oth b o b1 e)) q2 q3
theorem a4O{it l:Addr}{items:Array Value}{Q:Value→Shared→Prop}(hh:A.handled=none)(hit:N7 s.heap it l ((items.size:Int) - 1))(hl:IsTup s.heap l items)(hne:l≠it)(hz:items.size≤sizeLine)
  (fin:∀ h' tk acc c1,(∀ b o,b≠it→s.heap.get? b=some o→h'.get? b=some o)→h'.get? s.heap.objs.size=some { cls:=.type "list",dict:=none,data:=.seq acc c1,slots:=#[] }→ItemsOf (a2c items) acc items.size→Q (.ref s.heap.objs.size) { s with heap:=h',toks:=tk }) :
  wpAny (model prog w) A (call (.type "list") [.ref it]) Q E s:=by
 obtain⟨oi,hoi,_⟩:=id hit
 obtain⟨ol,hol,_⟩:=id hl
 have i1:s.heap.objs.size≠it:=c7F (c6I hoi)
 have i2:s.heap.objs.size≠l:=c7F (c6I hol)
 let h1:=s.heap.push { cls:=.type "list",data:=.seq #[] }
 have up:∀ b o,s.heap.get? b=some o→h1.get? b=some o:=fun b o e=>c6y _ e
 have gS:h1.get? s.heap.objs.size=some { cls:=.type "list",data:=.seq #[] }:=c6G _ rfl
 refine callType_codes (Q₁:=fun x s1=>x = .ref s.heap.objs.size∧s1 = { s with heap:=h1 }) F.called_list (F.typeCall_list_1 _) F.entry_list_init (code_list_new _ ⟨rfl,rfl⟩) ?_
 rintro x s1 ⟨rfl,rfl⟩
 refine⟨⟨_,gS,rfl⟩,F.args_list_init_2 _ _,b3n (A:=A.in1) hh (hit.at fun o e=>up it o e) (let ⟨o,ho,r⟩:=hl;⟨o,up l o ho,r⟩) hne i1 i2 hz gS fun h' tk acc c1 q1 q2 q3=>?_⟩
 exact⟨rfl,fin h' tk acc c1 (fun b o b1 e=>q1 b o (c7h (c6I e)) b1 (up b o e)) q2 q3⟩
end
end L2
namespace L2
open PySem PySem.Spec PyProof.Rows
section
variable {X:Cx}
noncomputable def rvO(k:Bool)(a:Addr)(n:Nat):Obj:=if k=true then revObj a ((n:Int) - 1)else a5T a ((n:Int) - 1)
noncomputable def rvφ(k:Bool)(p a:Addr)(n:Nat):Heap→Prop:=fun h=>h.get? p=some (rvO k a n)
theorem a60:C5 X (.type "reversed") (fun xs H Q=>∃ a k ys,xs=[.ref a]∧SqK X.K k H a ys∧∀ p,H p=none→p≠a→X.s₀.heap.objs.size≤p→Q (.ref p) (upd H p (.ext (rvφ k p a ys.length)))):=by
 intro pins s σ H xs us Q I rv h
 obtain⟨a,k,ys,rfl,sq,q⟩:=h
 obtain⟨u,rfl,ru⟩:=rv.one
 cases ru
 cases k with
 | true =>
  obtain⟨its,r,ht,hz⟩:=I.list sq
  have hl:=r.length
  obtain⟨o,ho,_⟩:=id ht.isList
  refine call_reversed_list ht.isList ⟨.ref s.heap.objs.size,_,I.laid (t':=s.toks) (o:=.ext (rvφ true s.heap.objs.size a ys.length)) (fun b u e=>c6y _ e) (c6U _) ?_,rfl,q _ I.fresh (c7F (c6I ho)) I.sz⟩
  have e:(s.heap.push (revObj a ((its.toArray.size:Int) - 1))).get? s.heap.objs.size=some (rvO true a ys.length):=by
   rw[c6G _ rfl,hl];rfl
  exact⟨e,⟨_,e⟩,fun h1 h2 z k=>k _ z⟩
 | false =>
  obtain⟨its,r,ht,hz⟩:=I.tuple sq
  have hl:=r.length
  obtain⟨o,ho,_⟩:=id ht
  have hz2:((its.toArray.size:Nat):Int)<2 ^ 63:=by
   have:sizeLine<2 ^ 62:=by decide
   rw[c6L]
   omega
  refine b5b ht hz2 fun t=>⟨.ref s.heap.objs.size,_,I.laid (t':=t) (o:=.ext (rvφ false s.heap.objs.size a ys.length)) (fun b u e=>c6y _ e) (c6U _) ?_,rfl,q _ I.fresh (c7F (c6I ho)) I.sz⟩
  have e:(s.heap.push (a5T a ((its.toArray.size:Int) - 1))).get? s.heap.objs.size=some (rvO false a ys.length):=by
   rw[c6G _ rfl,hl];rfl
  exact⟨e,⟨_,e⟩,fun h1 h2 z k=>k _ z⟩
theorem a8C(hc:X.calm=true):C5 X (.type "list") (fun xs H Q=>∃ it a k ys,xs=[.ref it]∧H it=some (.ext (rvφ k it a ys.length))∧SqK X.K k H a ys∧a≠it∧X.s₀.heap.objs.size≤it∧∀ p,H p=none→Q (.ref p) (a37 (upd H p (.lst ys.reverse)) it)):=by
 intro pins s σ H xs us Q I rv h
 obtain⟨it,a,k,ys,rfl,hit,sq,hne,hge,q⟩:=h
 obtain⟨u,rfl,ru⟩:=rv.one
 cases ru
 have hob:s.heap.get? it=some (rvO k a ys.length):=(I.hok it _ hit).1
 obtain⟨its,r,hz,hcall⟩:∃ its:List Value,o8 ys its∧ys.length≤sizeLine∧∀(A:Around) (E:Value→Shared→Prop) (Q:Value→Shared→Prop),A.handled=none→(∀ h' tk acc c1,(∀ b o,b≠it→s.heap.get? b=some o→h'.get? b=some o)→h'.get? s.heap.objs.size=some { cls:=.type "list",dict:=none,data:=.seq acc c1,slots:=#[] }→ItemsOf (a2c its.toArray) acc its.toArray.size→Q (.ref s.heap.objs.size) { s with heap:=h',toks:=tk })→wpAny (model X.prog X.w) A (call (.type "list") [.ref it]) Q E s:=by
  cases k with
  | true =>
   obtain⟨its,r,ht,hz⟩:=I.list sq
   have hsz:its.toArray.size=ys.length:=by rw[c6L];exact r.length.symm
   exact⟨its,r,hz,fun A E Q hA fin=>a4P hA ⟨_,hob,rfl,by rw[hsz];rfl⟩ ht.isList hne (by rw[hsz];exact hz) fin⟩
  | false =>
   obtain⟨its,r,ht,hz⟩:=I.tuple sq
   have hsz:its.toArray.size=ys.length:=by rw[c6L];exact r.length.symm
   exact⟨its,r,hz,fun A E Q hA fin=>a4O hA ⟨_,hob,rfl,by rw[hsz];rfl⟩ ht hne (by rw[hsz];exact hz) fin⟩
 refine hcall _ _ _ (I.ok.hd hc) fun h' tk acc c1 k1 k2 k3=>?_
 have hacc:=b1E k3
 have fr:=I.fresh
 have ex:∀{b o},s.heap.get? b=some o→b≠s.heap.objs.size:=fun e=>c7h (c6I e)
 have old:∀{b u},H b=some u→b≠s.heap.objs.size:=fun{b u} e z=>by rw[z,fr]at e;cases e
 have nit:∀{b u},H b=some u→u ≠ .ext (rvφ k it a ys.length)→b≠it:=fun{b u} e n z=>by
  rw[z,hit]at e;exact n (Option.some.inj e).symm
 have here:∀{b},b≠s.heap.objs.size→b≠it→a37 (upd H s.heap.objs.size (.lst ys.reverse)) it b=H b:=fun b1 b2=>by rw[a36 b2,j4 b1]
 have un:Un (frs X.stack) [it] H (a37 (upd H s.heap.objs.size (.lst ys.reverse)) it) s.heap h':={
  keep:=fun b o e n _ hx=>k1 b o (fun z=>hx (by simp[z])) e
  slot:=fun b o e n _ hx=>⟨o.slots,k1 b o (fun z=>hx (by simp[z])) e⟩
  free:=fun b o e n hx=>by rw[here (ex e) (fun z=>hx (by simp[z]))];exact n
  there:=fun b o e hx=>⟨o,k1 b o (fun z=>hx (by simp[z])) e⟩
  tups:=fun b xs e=>by rw[here (old e) (nit e (by simp))];exact e
  frzs:=fun b o u e=>by rw[here (old e) (nit e (by simp))];exact e
  tbls:=fun b ps e=>⟨#[],by rw[here (old e) (nit e (by simp))];simpa using e⟩ }
 have ok:HOk X.prog X.w (a37 (upd H s.heap.objs.size (.lst ys.reverse)) it) h':=fun b u e=>by
  have b2:b≠it:=fun z=>by rw[z,a35]at e;cases e
  rw[a36 b2]at e
  by_cases b1:b=s.heap.objs.size
  ·subst b1
   rw[i9]at e
   cases e
   exact⟨by rw[c7d];exact hz,acc.toList,c1,by rw[hacc];exact r.reverse,k2⟩
  ·rw[j4 b1]at e
   refine(I.hok b u e).stay (fun c v hcv z=>k1 c v ?_ z) (fun c z=>?_) fun c xs z=>?_
   ·rcases hcv with z2|z2
    ·rw[z2];exact b2
    ·exact nit z2 (by simp)
   ·rw[here (old z) (nit z (by simp))];exact z
   ·rw[here (old z) (nit z (by simp))];exact z
 refine⟨.ref s.heap.objs.size,_,I.call (g':=s.gens) (d':=s.drawn) (t':=tk) un ok I.bare (fun b hb=>?_),rfl,q _ fr⟩
 obtain rfl:b=it:=by simpa using hb
 refine⟨.inr hge,fun z=>?_,fun x c e z=>?_,fun p hp z=>?_⟩
 ·rw[z,I.free]at hit;cases hit
 ·rw[← z,I.freeC x c e]at hit;cases hit
 ·rw[← z,(I.pin p hp).2.1]at hit;cases hit
end
end L2
namespace L2
open PySem PySem.Spec PyProof.Rows
section
variable {prog:Program} {w:World} {A:Around} {E:Value→Shared→Prop} {s:Shared}
theorem b01{h h2:Heap}{a b:Addr}{its:Array Value}(x:h.IsList a its)(hs:Heap.ExtBut b h h2)(ne:a≠b):h2.IsList a its:=x.at fun o e=>hs a o ne e
theorem a8z{it l:Addr}{its:Array Value}(hne:l≠it):∀(n i:Nat) (s:Shared) (Q:List Value→Shared→Prop),s.heap.IsListIter it l i→s.heap.IsList l its→i+n≤its.size →
  (∀ h2,h2.IsListIter it l (i+n)→Heap.SameBut it s.heap h2→Q ((its.toList.drop i).take n) { s with heap:=h2 })→wpAny (model prog w) A (draw (.ref it) n) Q E s
 | 0,i,s,Q,hi,_,_,k=>by
  show wpAny _ _ (pure []) Q E s
  refine c6E ?_
  simpa using k s.heap hi (Heap.SameBut.refl ..)
 | n+1,i,s,Q,hi,hl,hle,k=>by
  have lt:i<its.size:=by omega
  show wpAny _ _ (pyNext (.ref it) >>= _) Q E s
  refine c6u (wpAny_pyNext_list_item hi hl (x:=its[i]) (by simp[lt]) fun h1 hi1 hs1=>c6u (wpAny_holding ?_))
  refine a8z hne n (i+1) _ _ hi1 (b01 hl hs1.extBut hne) (by omega) fun h2 hi2 hs2=>c6E ?_
  have e:its.toList.drop i=its[i] :: its.toList.drop (i+1):=by simp[List.drop_eq_getElem_cons,lt]
  have z:=k h2 (by rw[show i+(n+1)=i+1+n by omega];exact hi2) (hs1.trans hs2)
  rw[e,List.take_succ_cons]at z
  exact z
theorem a8W{l:Addr}{its:Array Value}{ts:List (Bool × (Value→Sem Unit))}{Q:Unit→Shared→Prop}(hh:A.handled=none)(hl:s.heap.IsList l its)(hn:ts.length=its.size)(hst:ts.findIdx? (·.1)=none)
  (k:∀ h2,Heap.ExtBut s.heap.objs.size s.heap h2→wpAny (model prog w) A (assignInOrder (ts.map (·.2)) its.toList) Q E { s with heap:=h2 }):wpAny (model prog w) A (unpack (.ref l) ts) Q E s:=by
 have ne:l≠s.heap.objs.size:=by obtain⟨o,ho,_⟩:=hl;exact c7h (c6I ho)
 unfold unpack
 rw[hn,hst]
 refine c6u (wpAny_holding ?_)
 unfold unpackItems
 refine c6u ?_
 unfold notIterableAtAll
 refine c6u (wpAny_specialOf hl.typeIs F.slot_list_iter.lookup (c6E ?_))
 simp only[c7J,if_false]
 refine c6u (wpAny_holding (wpAny_pyIter_list hl ?_))
 refine c6u (wpAny_holding (a8z ne its.size 0 _ _ ⟨_,c6G _ rfl,rfl,rfl⟩ (hl.at fun o e=>c6y _ e) (by omega) fun h1 hi1 hs1=>?_))
 have all:List.take its.size (List.drop 0 its.toList)=its.toList:=by
  rw[List.drop_zero];exact c7y (by simp)
 rw[all,if_neg (by simp)]
 have hl1:h1.IsList l its:=b01 (hl.at fun o e=>c6y _ e) hs1.extBut ne
 refine c6u (wpAny_holding (wpAny_pyNext_list_end hh hi1 hl1 (by simp) fun h2 he=>?_))
 simp only[Option.isSome_none,c7J,if_false]
 exact c6E (k h2 fun b o hb e=>he b o hb (hs1.extBut b o hb (c6y _ e)))
end
section
variable {X:Cx} {pos:Pos}
noncomputable def c0l(K:c6v)(n:Nat)(t:TGs):TG:=fun v σ H Q=>∃ a xs,v = .ref a∧SqL K H a xs∧xs.length=n∧t xs σ H Q
theorem b6O{es:List Expr}{k:Nat}{t:TGs}{n:Nat}(hc:X.calm=true)(h:PGs X es t)(hn:(assignEach es X.env).length=n:=by rfl)
  (hst:(assignEach es X.env).findIdx? (·.1)=none:=by rfl):PG X (.Tuple es k pos) (c0l X.K n t):=by
 intro pins s σ H v u Q I r hw
 obtain⟨a,xs,e1,hq,hl,hw⟩:=hw
 subst e1
 cases r
 obtain⟨its,rv,ht,hz⟩:=I.list hq
 rw[assign_Tuple]
 refine c6u (wpAny_standAt (a8W (I.ok.hd hc) ht.isList (by simp[hn,← hl,rv.length]) hst fun h2 hx=>?_))
 have I1:Inv X pins σ H { s with heap:=h2 }:=I.kept (t':=s.toks) fun b o e=>hx b o (c7h (c6I e)) e
 exact h pins _ σ H xs _ Q I1 (by simpa using rv) hw
end
end L2
namespace L2
open PySem PySem.Spec PyProof.Rows
noncomputable def Itb(K:c6v)(a:Addr)(n:Nat):It :=
 ⟨fun i H=>i<n∧∃ xs x,SqL K H a xs∧xs[n - 1 - i]? = some x,fun i H x H'=>H'=H∧∀ xs,SqL K H a xs→xs[n - 1 - i]? = some x,fun i _=>n≤i⟩
theorem b1w{P:Program}{w:World}{K:c6v}{tg:Expr}(a it:Addr)(n:Nat):a66 P w K tg (Itb K a n) [it] it (fun i h=>i≤n∧h.IsRevIter it a ((n:Int) - 1 - (i:Int))) where
 mem:=by simp
 obj:=fun i h st b hb=>by
  obtain rfl:b=it:=by simpa using hb
  obtain⟨_,o,e,c,d⟩:=st
  exact⟨o,e,fun v z=>by rw[d]at z;cases z⟩
 keep:=fun i h h2 st k=>⟨st.1,st.2.at fun o e=>k it (by simp) o e⟩
 item:=by
  intro X hP hw hK hc i pins s σ H E I hf st hg
  subst hP hw hK
  obtain⟨hi,xs,x,hq,hx⟩:=hg
  obtain⟨its,rv,p,hz⟩:=I.list hq
  obtain⟨u,hu,ru⟩:=rv.get hx
  obtain⟨f0,f1,f2,f3,f4,f5⟩:=hf it (by simp)
  have e:(n:Int) - 1 - (i:Int)=((n - 1 - i:Nat):Int):=by omega
  have st2:=st.2
  rw[e]at st2
  refine wpAny_pyNext_rev_item st2 p.isList (x:=u) (by simpa using hu) fun h2 st3 sb=>?_
  have I1:Inv X pins σ H { s with heap:=h2 }:=I.turned (t':=s.toks) (fun b o hb e=>(sb.2 b hb).trans e) f0 f1 f3 f4 f5
  have e2:((n - 1 - i:Nat):Int) - 1=(n:Int) - 1 - ((i+1:Nat):Int):=by omega
  rw[e2]at st3
  obtain⟨o,e3,c,d⟩:=id st3
  exact⟨u,rfl,a8w (s:={ s with heap:=h2 }) e3 c d (by decide) ⟨x,H,I1,ru,⟨rfl,fun ys hy=>by rw[I.list_inj hy hq];exact hx⟩,⟨by omega,st3⟩,fun b hb=>(hf b hb).1⟩⟩
 done:=by
  intro X hP hw hK hc i pins s σ H E I hf st hg
  subst hP hw hK
  have hi:i=n:=Nat.le_antisymm st.1 hg
  obtain⟨f0,f1,f2,f3,f4,f5⟩:=hf it (by simp)
  have st2:=st.2
  rw[hi,show(n:Int) - 1 - (n:Int) = -1 by omega]at st2
  refine wpAny_pyNext_rev_end (I.ok.hd hc) st2 fun h2 he=>?_
  exact⟨rfl,I.turned (t':=s.toks) (fun b o hb e=>he b o hb e) f0 f1 f3 f4 f5⟩
 self:=fun A i s Q E st k=>wpAny_pyIter_revIter st.2 k
section
variable {X:Cx}
noncomputable def c1Y(K:c6v)(ta:TA):TI:=fun σ H R=>ta σ H fun vs H1=>∃ a xs,vs=[.ref a]∧SqL K H1 a xs∧R (Itb K a xs.length) H1
theorem b6M{tg e:Expr}{ta:TA}{p pos:Pos}(hg:Gl X "reversed")(hm:X.mg "reversed" = none)(hv:bootBuiltins "reversed" = some (.type "reversed"))(ha:PA X [e] ta)
  (hs:starEach [e] X.env=[(false,eval e X.env)]:=by rfl):PI X tg (.Call (.Name "reversed" p) [e] [] pos) (c1Y X.K ta):=by
 intro pins s σ H R I h
 refine Call_ (S6 I hg hm hv (PyProof.Rows.callWith_type1 (thn (ha pos pins s σ H _ I h) fun us s1 zz=>?_) hs rfl))
 ·obtain⟨vs,H1,I1,r1,a,xs,rfl,hq,q⟩:=zz
  obtain⟨u,rfl,ru⟩:=a12 r1
  cases ru
  obtain⟨its,rv,pl,hz⟩:=I1.list hq
  have hl:=rv.length
  refine call_reversed_list pl.isList ?_
  have I2:Inv X pins σ H1 { s1 with heap:=s1.heap.push (revObj a ((its.toArray.size:Int) - 1)) }:=I1.kept (t':=s1.toks) fun b o e=>c6y _ e
  have st:(s1.heap.push (revObj a ((its.toArray.size:Int) - 1))).IsRevIter s1.heap.objs.size a ((xs.length:Int) - 1 - ((0:Nat):Int)):=by
   refine⟨_,c6G _ rfl,rfl,?_⟩
   rw[c6L,← hl]
   show Data.fields _=_
   rw[show(xs.length:Int) - 1 - ((0:Nat):Int)=(xs.length:Int) - 1 by omega]
  refine wpAny_pyIter_revIter st ⟨s1.heap.objs.size,[s1.heap.objs.size],_,_,H1,rfl,I2,b1w a _ xs.length,⟨c7m _,st⟩,fun b hb=>?_,q⟩
  obtain rfl:b=s1.heap.objs.size:=by simpa using hb
  exact I1.fpOk (c6U _) (I1.hok.fresh (c6U _))
end
end L2
namespace L2
open PySem PySem.Spec PyProof.Rows
section
variable {prog:Program} {w:World} {A:Around} {E:Value→Shared→Prop} {s:Shared}
end
end L2
namespace L2
open PySem
section
variable {prog:Program} {w:World} {A:Around} {E:Value→Shared→Prop} {s:Shared}
theorem b4G{k:Bool}{e p l:Addr}{n:Nat}{xs:Array Value}{v old:Value}{Q:Option Value→Shared→Prop}(ie:IsEnum s.heap e p n old)(g:SI k s.heap p l n)(m:SS k s.heap l xs)(hv:xs[n]? = some v)(hne:e≠p)
  (q:∀ h',IsEnumOut h' e p ((n:Int)+1) v s.heap.objs.size→SI k h' p l (n+1)→h'.get? s.heap.objs.size=some { cls:=.type "tuple",data:=.seq #[.int n s.toks,v] }→h'.objs.size=s.heap.objs.size+1 →
   (∀ b o,b≠e→b≠p→s.heap.get? b=some o→h'.get? b=some o)→Q (some (.ref s.heap.objs.size)) { s with heap:=h',toks:=s.toks+1 }):wpAny (model prog w) A (pyNext (.ref e)) Q E s:=by
 have ty:s.TypeIs (.ref e) "enumerate" := ⟨_,ie,rfl⟩
 unfold pyNext
 refine c6u (wpAny_attempt (wpAny_callSpecial?_slot (name:=Str.ofString "__next__") ty F.slot_enumerate_next (wpAny_call_entry F.slot_enumerate_next ty F.entry_enumerate_next ?_ (F.args_enumerate_next_1 _))))
 obtain⟨hp,gs,dr,tk,os⟩:=s
 show wpAny _ _ (field (.ref e) 2 >>= _) _ _ _
 refine c6u (wpAny_field ie rfl (x:=.ref p) rfl (c6u (a2m g m hv fun ha ga sa=>?_)))
 replace sa:Heap.SameBut p hp ha:=sa
 have ea:IsEnum ha e p n old:=(sa.2 e hne).trans ie
 show wpAny _ _ (field (.ref e) 3 >>= _) _ _ ⟨ha,gs,dr,tk,os⟩
 refine c6u (wpAny_field ea rfl (x:=rawInt n) rfl ?_)
 show wpAny _ _ (field (.ref e) 4 >>= _) _ _ ⟨ha,gs,dr,tk,os⟩
 refine c6u (wpAny_field ea rfl (x:=.none) rfl ?_)
 show wpAny _ _ (mkInt n >>= _) _ _ ⟨ha,gs,dr,tk,os⟩
 refine c6u (wpAny_mkInt ?_)
 show wpAny _ _ (setField (.ref e) 3 (rawInt ((n:Int)+1)) >>= _) _ _ ⟨ha,gs,dr,tk+1,os⟩
 refine c6u (wpAny_setField_rec ea (by simp) fun hb eb sb=>?_)
 replace sb:Heap.SameBut e ha hb:=sb
 replace eb:IsEnum hb e p ((n:Int)+1) old:=eb
 show wpAny _ _ (setField (.ref e) 4 .none >>= _) _ _ ⟨hb,gs,dr,tk+1,os⟩
 refine c6u (wpAny_setField_rec eb (by simp) fun hc ec sc=>?_)
 replace sc:Heap.SameBut e hb hc:=sc
 replace ec:IsEnum hc e p ((n:Int)+1) old:=ec
 show wpAny _ _ (newTuple [.int n tk,v] >>= _) _ _ ⟨hc,gs,dr,tk+1,os⟩
 refine c6u (wpAny_newTuple ?_)
 have zc:hc.objs.size=hp.objs.size:=by rw[sc.1,sb.1,sa.1]
 have ltE:e<hp.objs.size:=c6I ie
 obtain⟨hd,hhd⟩:∃ hd,hd=hc.push { cls:=.type "tuple",data:=.seq #[.int n tk,v] }:=⟨_,rfl⟩
 have ed:IsEnum hd e p ((n:Int)+1) old:=by rw[hhd];exact c6y _ ec
 have td:hd.get? hp.objs.size=some { cls:=.type "tuple",data:=.seq #[.int n tk,v] }:=by rw[hhd,← zc];exact c6G _ rfl
 have zd:hd.objs.size=hp.objs.size+1:=by rw[hhd,c7D,zc]
 have kd:∀ b o,b≠e→b≠p→hp.get? b=some o→hd.get? b=some o:=fun b o b1 b2 z=>by rw[hhd];exact c6y _ (sc.extBut b o b1 (sb.extBut b o b1 (sa.extBut b o b2 z)))
 have gd:SI k hd p l (n+1):=((ga.but sb.extBut (Ne.symm hne)).but sc.extBut (Ne.symm hne)).at fun o z=>by rw[hhd];exact c6y _ z
 show wpAny _ _ (Builtin.SmallTypes.ownedTupleIsFree (.ref e) >>= _) _ _ ⟨hc.push { cls:=.type "tuple",data:=.seq #[.int n tk,v] },gs,dr,tk+1,os⟩
 rw[← hhd,zc]
 refine c6u ?_;unfold Builtin.SmallTypes.ownedTupleIsFree
 refine c6u (wpAny_field ed rfl (x:=.none) rfl (c6E ?_));simp only[if_true]
 refine c6u (wpAny_rule (c6u (wpAny_field ed rfl (x:=old) rfl (c6u (wpAny_setField_rec ed (by simp) fun hf ef sf=>?_)))))
 replace sf:Heap.SameBut e hd hf:=sf
 replace ef:IsEnum hf e p ((n:Int)+1) v:=ef
 show wpAny _ _ (Builtin.SmallTypes.ownedTupleHandOut (.ref e) (.ref hp.objs.size) >>= _) _ _ ⟨hf,gs,dr,tk+1,os⟩
 refine c6u ?_;unfold Builtin.SmallTypes.ownedTupleHandOut
 refine c6u (wpAny_setField_rec ef (by simp) fun hg eg sg=>?_)
 replace sg:Heap.SameBut e hf hg:=sg
 replace eg:IsEnumOut hg e p ((n:Int)+1) v hp.objs.size:=eg
 refine wpAny_setField_rec eg (by simp) fun hh eh sh=>?_
 replace sh:Heap.SameBut e hg hh:=sh
 replace eh:IsEnumOut hh e p ((n:Int)+1) v hp.objs.size:=eh
 refine c6u (wpAny_letGo (c6E ⟨_,rfl,c6E (q hh eh ?_ ?_ ?_ ?_)⟩))
 ·exact((gd.but sf.extBut (Ne.symm hne)).but sg.extBut (Ne.symm hne)).but sh.extBut (Ne.symm hne)
 ·exact sh.extBut _ _ (c7F ltE) (sg.extBut _ _ (c7F ltE) (sf.extBut _ _ (c7F ltE) td))
 ·show hh.objs.size=hp.objs.size+1
  rw[sh.1,sg.1,sf.1,zd]
 ·exact fun b o b1 b2 z=>sh.extBut b o b1 (sg.extBut b o b1 (sf.extBut b o b1 (kd b o b1 b2 z)))
theorem b7z{k:Bool}{e p l:Addr}{n:Nat}{xs:Array Value}{old:Value}{Q:Option Value→Shared→Prop}(hA:A.handled=none)(ie:IsEnum s.heap e p n old)(g:SI k s.heap p l n)(m:SS k s.heap l xs)(hv:xs[n]? = none)
  (q:∀ h',Heap.ExtBut p s.heap h'→Q none { s with heap:=h' }):wpAny (model prog w) A (pyNext (.ref e)) Q E s:=by
 have ty:s.TypeIs (.ref e) "enumerate" := ⟨_,ie,rfl⟩
 unfold pyNext
 refine c6u (wpAny_attempt (wpAny_callSpecial?_slot (name:=Str.ofString "__next__") ty F.slot_enumerate_next (wpAny_call_entry F.slot_enumerate_next ty F.entry_enumerate_next ?_ (F.args_enumerate_next_1 _))))
 show wpAny _ _ (field (.ref e) 2 >>= _) _ _ _
 refine c6u (wpAny_field ie rfl (x:=.ref p) rfl (c6u (a86 hA g m hv fun h' x he' zz=>?_)))
 obtain⟨o,ho,hc⟩:=zz
 exact c6u (wpAny_isInstance (T := "StopIteration") (b:=true) ⟨o,ho,hc⟩ isSubtype_stop (c6E (q _ he')))
end
set_option maxHeartbeats 2000000 in
theorem b4H(l:Addr)(xs:Array Value)(n:Nat)(dct:Option Addr)(sl:Array (Option Value)) :
  Meets (Builtin.«enumerate.__new__» ⟨[.type "enumerate",.ref l],[]⟩) (fun _ R s=>s.heap.get? l=some { cls:=.type "tuple",dict:=dct,data:=.seq xs n,slots:=sl } ∧
   R (.ok (.ret (.ref (zA false s.heap l).objs.size))) { s with heap:=(zA false s.heap l).push { cls:=.type "enumerate",data:=.fields #[.none,.bool false,.ref s.heap.objs.size,rawInt 0,.none,.none] } }) :=
 .of_wp fun prog w A R s h=>by
  obtain⟨hp,g,d,tk,os⟩:=s
  obtain⟨hl,h⟩:=h
  have hsub:=sub_enumerate
  have hT:Heap.IsTuple (Shared.heap ⟨hp,g,d,tk,os⟩) l xs:=⟨_,hl,rfl,n,rfl⟩
  wp_walk using AutoSeq1.wpAny_loadPart' hl
  refine wpAny_stack_any fun st=>c6E ?_
  split
  ·rename_i c _ _ _ _ _
   cases(c == Value.type "enumerate")
   ·wp_walk using AutoSeq1.wpAny_loadPart' hl,wpAny_pyIter_tuple hT
    exact⟨_,rfl,h⟩
   ·wp_walk using AutoSeq1.wpAny_loadPart' hl,wpAny_pyIter_tuple hT
    exact⟨_,rfl,h⟩
  ·wp_walk using AutoSeq1.wpAny_loadPart' hl,wpAny_pyIter_tuple hT
   exact⟨_,rfl,h⟩
section
variable {prog:Program} {w:World} {A:Around} {E:Value→Shared→Prop} {s:Shared}
theorem b5d{k:Bool}{l:Addr}{xs:Array Value}{Q:Value→Shared→Prop}(m:SS k s.heap l xs)
  (q:∀ h',IsEnum h' (s.heap.objs.size+1) s.heap.objs.size 0 .none→SI k h' s.heap.objs.size l 0→h'.objs.size=s.heap.objs.size+2→(∀ b o,s.heap.get? b=some o→h'.get? b=some o)→Q (.ref (s.heap.objs.size+1)) { s with heap:=h' }) :
  wpAny (model prog w) A (call (.type "enumerate") [.ref l]) Q E s:=by
 cases k with
 | true=>exact call_enumerate_list m q
 | false =>
  obtain⟨⟨c,dct,dt,sl⟩,hl,hc,n,hd⟩:=m
  simp only at hc hd
  subst hc;subst hd
  refine callType_new F.called_enumerate (by decide) (F.typeCall_enumerate_1 _) (F.newCall_enumerate_1 _) (fun obj=>F.args_object_init_2 obj _) F.entry_enumerate_new (b4H l xs n dct sl) ⟨hl,?_⟩
  have s1:(zA false s.heap l).objs.size=s.heap.objs.size+1:=c7D ..
  have o1:((zA false s.heap l).push { cls:=.type "enumerate",data:=.fields #[.none,.bool false,.ref s.heap.objs.size,rawInt 0,.none,.none] }).get? (zA false s.heap l).objs.size=some _:=c6G _ rfl
  show _∧_
  rw[s1]at o1 ⊢
  exact⟨⟨_,o1,rfl⟩,q _ o1 ⟨_,c6y _ (c6G _ rfl),rfl,rfl⟩ (by rw[c7D,s1]) fun b o e=>c6y _ (c6y _ e)⟩
end
end L2
namespace L2
open PySem PySem.Spec PyProof.Rows
noncomputable def Ite(K:c6v)(k:Bool)(l:Addr):It :=
 ⟨fun i H=>∃ xs x,SqK K k H l xs∧xs[i]? = some x,
  fun i H v H'=>∃ T x,H T=none∧v = .ref T∧H'=upd H T (.tup [.int i,x])∧∀ xs,SqK K k H l xs→xs[i]? = some x,
  fun i H=>∃ xs,SqK K k H l xs∧xs.length≤i⟩
noncomputable def c0K(k:Bool)(e p l:Addr)(i:Nat)(h:Heap):Prop:=(∃ old,IsEnum h e p i old)∧SI k h p l i
theorem b1u{P:Program}{w:World}{K:c6v}{elts:List Expr}{kx:Nat}{tp:Pos}{k:Bool}{e p l:Addr}(hne:e≠p):a66 P w K (.Tuple elts kx tp) (Ite K k l) [e,p] e (c0K k e p l) where
 mem:=by simp
 obj:=fun i h ⟨⟨old,ie⟩,g⟩ c hc=>by
  simp only[c6M,c6Q,or_false]at hc
  rcases hc with rfl|rfl
  ·exact⟨_,ie,fun v z=>by cases z⟩
  ·exact g.obj
 keep:=fun i h h' ⟨⟨old,ie⟩,g⟩ kk=>⟨⟨old,kk e (by simp) _ ie⟩,g.at fun o z=>kk p (by simp) o z⟩
 item:=by
  intro X hP hw hK hc i pins s σ H E I hf st hg
  subst hP hw hK
  obtain⟨⟨old,ie⟩,g⟩:=st
  obtain⟨xs,x,q1,hx⟩:=hg
  obtain⟨is1,r1,m1⟩:=I.sqk q1
  obtain⟨u1,hu1,ru1⟩:=r1.get hx
  refine b4G ie g m1 (v:=u1) (by simpa using hu1) hne fun h' a1 a2 a3 a4 kk=>?_
  refine⟨_,rfl,?_⟩
  refine wpAny_letOwnedTupleGo_enum (s:={ s with heap:=h',toks:=s.toks+1 }) a1 fun h2 b1 b2=>?_
  have lt:∀{c o},s.heap.get? c=some o→c≠s.heap.objs.size:=fun z=>c7h (c6I z)
  have I1:Inv X pins σ (upd H s.heap.objs.size (.tup [.int i,x])) { s with heap:=s.heap.push { cls:=.type "tuple",data:=.seq #[.int i s.toks,u1] },toks:=s.toks+1 } :=
   I.laid (o:=.tup [.int i,x]) (fun b ob q=>c6y _ q) (c6U _) ⟨(show 2≤sizeLine by decide),[.int i s.toks,u1],.cons ⟨_,rfl⟩ (.cons ru1 .nil),IsTup.new _ _⟩
  have nfp:∀ c∈[e,p],c≠s.heap.objs.size:=fun c hc=>by
   simp only[c6M,c6Q,or_false]at hc
   rcases hc with rfl|rfl
   ·exact lt ie
   ·obtain⟨o,z,_⟩:=g.obj;exact lt z
  have hf':∀ c∈[e,p],a0T X pins (upd H s.heap.objs.size (.tup [.int i,x])) c:=fun c hc=>by
   obtain⟨f0,f1⟩:=hf c hc
   exact⟨by rw[j4 (nfp c hc)];exact f0,f1⟩
  have I2:Inv X pins σ (upd H s.heap.objs.size (.tup [.int i,x])) { s with heap:=h2,toks:=s.toks+1 }:=by
   refine Inv.turnedN (s:={ s with heap:=s.heap.push { cls:=.type "tuple",data:=.seq #[.int i s.toks,u1] },toks:=s.toks+1 }) (t':=s.toks+1) (h':=h2) (ch:=[e,p]) I1 (fun c o hcn z=>?_) hf'
   simp only[c6M,c6Q,or_false,not_or]at hcn
   obtain⟨n1,n2⟩:=hcn
   refine b2.extBut c o n1 ?_
   have z':(s.heap.push { cls:=.type "tuple",data:=.seq #[.int i s.toks,u1] }).get? c=some o:=z
   by_cases hcs:c=s.heap.objs.size
   ·subst hcs
    rw[c6G _ rfl]at z'
    cases z'
    exact a3
   ·rw[c9C _ _ _ hcs]at z'
    exact kk c o n1 n2 z'
  refine⟨.ref s.heap.objs.size,_,I2,rfl,⟨_,x,I.hok.fresh (c6U _),rfl,rfl,fun zs hz=>by rw[I.sqk_inj hz q1];exact hx⟩,?_,fun c hc=>(hf' c hc).1⟩
  have ec:((i+1:Nat):Int)=(i:Int)+1:=by omega
  exact⟨⟨u1,by rw[ec];exact b1⟩,a2.at fun o z=>b2.extBut p o (Ne.symm hne) z⟩
 done:=by
  intro X hP hw hK hc i pins s σ H E I hf st hg
  subst hP hw hK
  obtain⟨⟨old,ie⟩,g⟩:=st
  obtain⟨xs,q1,hx⟩:=hg
  obtain⟨is1,r1,m1⟩:=I.sqk q1
  have e1:=r1.length
  refine b7z (I.ok.hd hc) ie g m1 (by simp;omega) fun h' kk=>⟨rfl,?_⟩
  refine I.turnedN (t':=s.toks) (ch:=[e,p]) (fun c o hcn z=>?_) hf
  simp only[c6M,c6Q,or_false,not_or]at hcn
  exact kk c o hcn.2 z
 self:=fun _ _ _ _ _ st h=>let ⟨⟨_,ie⟩,_⟩:=st;wpAny_pyIter_enum ie h
noncomputable def c1X(K:c6v)(ta:TA):TI:=fun σ H R=>ta σ H fun vs H1=>∃ k l,vs=[.ref l]∧(∃ xs,SqK K k H1 l xs)∧R (Ite K k l) H1
theorem b6L{X:Cx}{elts:List Expr}{kx:Nat}{tp:Pos}{a:Expr}{ta:TA}{p pos:Pos}(hg:Gl X "enumerate")(hm:X.mg "enumerate" = none)(ha:PA X [a] ta)(hs:starEach [a] X.env=[(false,eval a X.env)]:=by rfl) :
  PI X (.Tuple elts kx tp) (.Call (.Name "enumerate" p) [a] [] pos) (c1X X.K ta):=by
 intro pins s σ H R I h
 refine Call_ (S6 I hg hm PyProof.Rows.boot_enumerate (PyProof.Rows.callWith_type1 (thn (ha pos pins s σ H _ I h) fun us s1 ⟨vs,H1,I1,r1,q1⟩=>?_) hs rfl))
 obtain⟨k,l,e,⟨xs,q2⟩,q⟩:=q1
 subst e
 cases r1 with
 | cons r rr =>
  cases rr
  cases r
  obtain⟨is1,_,m1⟩:=I1.sqk q2
  refine b5d m1 fun h' a1 a2 a3 kk=>?_
  refine wpAny_pyIter_enum (s:={ s1 with heap:=h' }) a1 ?_
  refine⟨s1.heap.objs.size+1,_,_,_,H1,rfl,I1.kept (t':=s1.toks) kk,b1u (Nat.succ_ne_self _),⟨⟨_,a1⟩,a2⟩,fun c hc=>?_,q⟩
  have hge:s1.heap.objs.size≤c:=by
   simp only[c6M,c6Q,or_false]at hc
   rcases hc with rfl|rfl
   ·exact c8e _ _
   ·exact c6U _
  exact I1.fpOk hge (I1.hok.fresh hge)
end L2
namespace L2
open PySem
theorem PE.imp{X:Cx}{x:Expr}{t t':TE}(h:PE X x t)(i:∀ σ H Q,t' σ H Q→t σ H Q):PE X x t':=fun pins s σ H Q I q=>h pins s σ H Q I (i σ H Q q)
theorem PT.imp{X:Cx}{x:Expr}{t t':TT}(h:PT X x t)(i:∀ σ H Q,t' σ H Q→t σ H Q):PT X x t':=fun pins s σ H Q I q=>h pins s σ H Q I (i σ H Q q)
theorem PW.imp{X:Cx}{x:Expr}{t t':TT}(h:PW X x t)(i:∀ σ H Q,t' σ H Q→t σ H Q):PW X x t':=fun wh pins s σ H Q I q=>h wh pins s σ H Q I (i σ H Q q)
theorem PA.imp{X:Cx}{x:List Expr}{t t':TA}(h:PA X x t)(i:∀ σ H Q,t' σ H Q→t σ H Q):PA X x t':=fun pos pins s σ H Q I q=>h pos pins s σ H Q I (i σ H Q q)
theorem PS.imp{X:Cx}{x:Stmt}{t t':TS}(h:PS X x t)(i:∀ E σ H,t' E σ H→t E σ H):PS X x t':=fun pins s σ H D I q=>h pins s σ H D I (i D σ H q)
theorem PSs.imp{X:Cx}{x:List Stmt}{t t':TS}(h:PSs X x t)(i:∀ E σ H,t' E σ H→t E σ H):PSs X x t':=fun pins s σ H D I q=>h pins s σ H D I (i D σ H q)
theorem OpR.imp{X:Cx}{f:Value→Value→Sem Value}{r r':R2}(h:OpR X f r)(i:∀ x y H Q,r' x y H Q→r x y H Q):OpR X f r':=fun pins s σ H x y v u Q I rx ry q=>h pins s σ H x y v u Q I rx ry (i x y H Q q)
theorem IxR.imp{X:Cx}{r r':R2}(h:IxR X r)(i:∀ x y H Q,r' x y H Q→r x y H Q):IxR X r':=fun va sl pins s σ H x y v u Q I rx ry q=>h va sl pins s σ H x y v u Q I rx ry (i x y H Q q)
theorem PG.imp{X:Cx}{x:Expr}{t t':TG}(h:PG X x t)(i:∀ v σ H Q,t' v σ H Q→t v σ H Q):PG X x t':=fun pins s σ H v u Q I r q=>h pins s σ H v u Q I r (i v σ H Q q)
theorem PGs.imp{X:Cx}{x:List Expr}{t t':TGs}(h:PGs X x t)(i:∀ v σ H Q,t' v σ H Q→t v σ H Q):PGs X x t':=fun pins s σ H v u Q I r q=>h pins s σ H v u Q I r (i v σ H Q q)
end L2
namespace DL
open PySem PySem.Spec L2
open PyProof.Rows hiding St
inductive D where
 | non|bl (b:Bool)|int (i:Int)|str (x:Str)|ref (a:Addr)|tup (ds:List D)|vl (ds:List D)|ty (n:String)|dic
noncomputable def KL(K:c6v)(a:Addr)(xs:List V):Prop:=∀ H:Hp,SqL K H a xs
mutual
inductive Has (K:c6v) (H:Hp):V→D→Prop
 | non:Has K H .non .non
 | bl (b:Bool):Has K H (.bl b) (.bl b)
 | int (i:Int):Has K H (.int i) (.int i)
 | str (x:Str):Has K H (.str x) (.str x)
 | ref (a:Addr):Has K H (.ref a) (.ref a)
 | ty (n:String):Has K H (.ty n) (.ty n)
 | tup {a:Addr} {xs:List V} {ds:List D}:SqT K H a xs→HasL K H xs ds→Has K H (.ref a) (.tup ds)
 | vl {a:Addr} {xs:List V} {ds:List D}:((∃ o,H a=some (.frz o (.lst xs)))∨KL K a xs)→HasL K H xs ds→Has K H (.ref a) (.vl ds)
 | dic {a:Addr}:(∃ o:Obj,H a=some (.frz o (.own 0))∧o.cls = .type "dict")→Has K H (.ref a) .dic
inductive HasL (K:c6v) (H:Hp):List V→List D→Prop
 | nil:HasL K H [] []
 | cons {v:V} {d:D} {vs:List V} {ds:List D}:Has K H v d→HasL K H vs ds→HasL K H (v :: vs) (d :: ds)
end
structure KT0(H H':Hp):Prop where
 tp:∀ a xs,Rd H a (.tup xs)→Rd H' a (.tup xs)
 fz:∀ a o u,H a=some (.frz o u)→H' a=some (.frz o u)
structure KT(H H':Hp):Prop extends KT0 H H' where
 ex:∀ a φ,H a=some (.ext φ)→H' a=some (.ext φ)
theorem KT.refl(H:Hp):KT H H:=⟨⟨fun _ _ h=>h,fun _ _ _ h=>h⟩,fun _ _ h=>h⟩
theorem KT.trans{H H1 H2:Hp}(a:KT H H1)(b:KT H1 H2):KT H H2:=⟨⟨fun p xs h=>b.tp p xs (a.tp p xs h),fun p o xs h=>b.fz p o xs (a.fz p o xs h)⟩,fun p φ h=>b.ex p φ (a.ex p φ h)⟩
theorem KT0.sq{K:c6v}{H H':Hp}(k:KT0 H H'){a:Addr}{xs:List V}(h:SqT K H a xs):SqT K H' a xs:=h.elim (fun z=>.inl (k.tp a xs z)) .inr
theorem KT.sq{K:c6v}{H H':Hp}(k:KT H H'){a:Addr}{xs:List V}(h:SqT K H a xs):SqT K H' a xs:=k.toKT0.sq h
theorem KT0.at{H:Hp}{p:Addr}{o:HO}(h1:∀ xs,¬ Rd H p (.tup xs))(h2:∀ q u,H p≠some (.frz q u)):KT0 H (upd H p o) where
 tp:=fun a xs r=>by
  have hn:a≠p:=by intro e;subst e;exact h1 xs r
  rcases r with r|⟨q,r⟩
  ·exact .inl (by rw[j4 hn];exact r)
  ·exact .inr ⟨q,by rw[j4 hn];exact r⟩
 fz:=fun a q xs r=>by
  have hn:a≠p:=by intro e;subst e;exact h2 q xs r
  rw[j4 hn];exact r
theorem KT.at{H:Hp}{p:Addr}{o:HO}(h1:∀ xs,¬ Rd H p (.tup xs))(h2:∀ q u,H p≠some (.frz q u))(h3:∀ φ,H p≠some (.ext φ)):KT H (upd H p o):=⟨KT0.at h1 h2,fun a φ r=>by
  have hn:a≠p:=by intro e;subst e;exact h3 φ r
  rw[j4 hn];exact r⟩
theorem KT.alloc{H:Hp}{p:Addr}{o:HO}(h:H p=none):KT H (upd H p o):=KT.at (fun xs r=>by rcases r with r|⟨_,r⟩<;>(rw[h]at r;cases r)) (fun q xs r=>by rw[h]at r;cases r) fun φ r=>by rw[h]at r;cases r
theorem KT.any{H:Hp}{p:Addr}{xs:List V}{o:HO}(h:H p=some (.lst xs)):KT H (upd H p o):=KT.at (fun xs r=>by rcases r with r|⟨_,r⟩<;>(rw[h]at r;cases r)) (fun q xs r=>by rw[h]at r;cases r) fun φ r=>by rw[h]at r;cases r
theorem KT.write{H:Hp}{p:Addr}{xs ys:List V}(h:H p=some (.lst xs)):KT H (upd H p (.lst ys)):=KT.any h
theorem KT0.ext{H:Hp}{p:Addr}{φ:Heap→Prop}{o:HO}(h:H p=some (.ext φ)):KT0 H (upd H p o):=KT0.at (fun xs r=>by rcases r with r|⟨_,r⟩<;>(rw[h]at r;cases r)) fun q xs r=>by rw[h]at r;cases r
theorem KT.new{H H':Hp}{p:Addr}{o:HO}(k:KT H H')(h:H p=none):KT H (upd H' p o) where
 tp:=fun a xs r=>by
  have hn:a≠p:=by intro e;subst e;rcases r with r|⟨_,r⟩<;>(rw[h]at r;cases r)
  rcases k.tp a xs r with r|⟨q,r⟩
  ·exact .inl (by rw[j4 hn];exact r)
  ·exact .inr ⟨q,by rw[j4 hn];exact r⟩
 fz:=fun a q xs r=>by
  have hn:a≠p:=by intro e;subst e;rw[h]at r;cases r
  rw[j4 hn];exact k.fz a q xs r
 ex:=fun a φ r=>by
  have hn:a≠p:=by intro e;subst e;rw[h]at r;cases r
  rw[j4 hn];exact k.ex a φ r
mutual
theorem Has.mono0{K:c6v}{H H':Hp}(k:KT0 H H'):∀{v:V} {d:D},Has K H v d→Has K H' v d
 | _,_,.non=>.non
 | _,_,.bl b=>.bl b
 | _,_,.int i=>.int i
 | _,_,.str x=>.str x
 | _,_,.ref a=>.ref a
 | _,_,.ty n=>.ty n
 | _,_,.tup s l=>.tup (k.sq s) (HasL.mono0 k l)
 | _,_,.vl h l=>.vl (h.elim (fun⟨o,e⟩=>.inl ⟨o,k.fz _ _ _ e⟩) .inr) (HasL.mono0 k l)
 | _,_,.dic h=>.dic (let ⟨o,e,c⟩:=h;⟨o,k.fz _ _ _ e,c⟩)
theorem HasL.mono0{K:c6v}{H H':Hp}(k:KT0 H H'):∀{v:List V} {d:List D},HasL K H v d→HasL K H' v d
 | _,_,.nil=>.nil
 | _,_,.cons a b=>.cons (Has.mono0 k a) (HasL.mono0 k b)
end
theorem Has.mono{K:c6v}{H H':Hp}(k:KT H H'){v:V}{d:D}(h:Has K H v d):Has K H' v d:=h.mono0 k.toKT0
theorem HasL.mono{K:c6v}{H H':Hp}(k:KT H H'){v:List V}{d:List D}(h:HasL K H v d):HasL K H' v d:=h.mono0 k.toKT0
section
variable {K:c6v} {H H':Hp}
theorem HasL.length:∀{vs:List V} {ds:List D},HasL K H vs ds→vs.length=ds.length
 | _,_,.nil=>rfl
 | _,_,.cons _ b=>congrArg Nat.succ (HasL.length b)
theorem HasL.get:∀{vs:List V} {ds:List D} {i:Nat} {d:D},HasL K H vs ds→ds[i]? = some d→∃ v,vs[i]? = some v∧Has K H v d
 | _,_,_,_,.nil,e=>by simp at e
 | _,_,0,_,.cons a _,e=>by simp at e;subst e;exact⟨_,rfl,a⟩
 | _,_,i+1,d,.cons _ b,e=>by
  obtain⟨v,h1,h2⟩:=HasL.get (i:=i) (d:=d) b (by simpa using e)
  exact⟨v,by simpa using h1,h2⟩
theorem HasL.getV:∀{vs:List V} {ds:List D} {i:Nat} {v:V},HasL K H vs ds→vs[i]? = some v→∃ d,ds[i]? = some d∧Has K H v d
 | _,_,_,_,.nil,e=>by simp at e
 | _,_,0,_,.cons a _,e=>by simp at e;subst e;exact⟨_,rfl,a⟩
 | _,_,i+1,d,.cons _ b,e=>by
  obtain⟨v,h1,h2⟩:=HasL.getV (i:=i) (v:=d) b (by simpa using e)
  exact⟨v,by simpa using h1,h2⟩
theorem HasL.set{v:V}{d:D}(r:Has K H v d):∀{vs:List V} {ds:List D} (i:Nat),HasL K H vs ds→HasL K H (vs.set i v) (ds.set i d)
 | _,_,_,.nil=>.nil
 | _,_,0,.cons _ t=>.cons r t
 | _,_,i+1,.cons q t=>.cons q (HasL.set r i t)
theorem HasL.append:∀{xs ys:List V} {us ws:List D},HasL K H xs us→HasL K H ys ws→HasL K H (xs++ys) (us++ws)
 | _,_,_,_,.nil,s=>s
 | _,_,_,_,.cons r t,s=>.cons r (HasL.append t s)
theorem HasL.take:∀{xs:List V} {us:List D} (n:Nat),HasL K H xs us→HasL K H (xs.take n) (us.take n)
 | _,_,0,_=>.nil
 | _,_,_+1,.nil=>.nil
 | _,_,n+1,.cons r t=>.cons r (HasL.take n t)
theorem HasL.drop:∀{xs:List V} {us:List D} (n:Nat),HasL K H xs us→HasL K H (xs.drop n) (us.drop n)
 | _,_,0,r=>r
 | _,_,_+1,.nil=>.nil
 | _,_,n+1,.cons _ t=>HasL.drop n t
theorem HasL.ints:∀(ns:List Int),HasL K H (ns.map V.int) (ns.map D.int)
 | []=>.nil
 | n :: r=>.cons (.int n) (HasL.ints r)
end
inductive MO where
 | lst (ds:List D)
noncomputable abbrev Mem:=Addr→Option MO
noncomputable def A7(M:Mem)(a:Addr)(o:MO):Mem:=fun b=>if b=a then some o else M b
theorem g6{M:Mem}{a:Addr}{o:MO}:A7 M a o a=some o:=by unfold A7;rw[if_pos rfl]
theorem A0{M:Mem}{a b:Addr}{o:MO}(h:b≠a):A7 M a o b=M b:=by unfold A7;rw[if_neg h]
theorem a3g{M:Mem}{a:Addr}{o u:MO}:A7 (A7 M a o) a u=A7 M a u:=by
 funext b;unfold A7;by_cases h:b=a<;>simp[h]
noncomputable def MOk(K:c6v)(H:Hp)(a:Addr):MO→Prop
 | .lst ds=>∃ xs,H a=some (.lst xs)∧HasL K H xs ds
noncomputable def u6(K:c6v)(H:Hp)(M:Mem):Prop:=∀ a o,M a=some o→MOk K H a o
section
variable {K:c6v} {H H':Hp} {M:Mem}
theorem u6.fresh(h:u6 K H M){p:Addr}(e:H p=none):M p=none:=by
 cases q:M p with
 | none=>rfl
 | some o =>
  cases o with
  | lst ds=>obtain⟨xs,z,_⟩:=h p _ q;rw[e]at z;cases z
theorem u6.alloc(h:u6 K H M){p:Addr}{u:HO}(e:H p=none):u6 K (upd H p u) M:=fun a o m=>by
 have k:KT H (upd H p u):=KT.alloc e
 cases o with
 | lst ds =>
  obtain⟨xs,z,l⟩:=h a _ m
  have hn:a≠p:=F7 z e
  exact⟨xs,by rw[j4 hn];exact z,l.mono k⟩
theorem u6.new(h:u6 K H M){p:Addr}{xs:List V}{ds:List D}(e:H p=none)(l:HasL K H xs ds):u6 K (upd H p (.lst xs)) (A7 M p (.lst ds)):=fun a o m=>by
 by_cases q:a=p
 ·subst q
  rw[g6]at m;cases m
  exact⟨xs,i9,l.mono (KT.alloc e)⟩
 ·rw[A0 q]at m
  exact h.alloc e a o m
theorem u6.write(h:u6 K H M){p:Addr}{xs ys:List V}{ds:List D}(e:H p=some (.lst xs))(l:HasL K H ys ds):u6 K (upd H p (.lst ys)) (A7 M p (.lst ds)):=fun a o m=>by
 have k:KT H (upd H p (.lst ys)):=KT.write e
 by_cases q:a=p
 ·subst q
  rw[g6]at m;cases m
  exact⟨ys,i9,l.mono k⟩
 ·rw[A0 q]at m
  cases o with
  | lst es =>
   obtain⟨zs,z,l⟩:=h a _ m
   exact⟨zs,by rw[j4 q];exact z,l.mono k⟩
theorem u6.lst(h:u6 K H M){a:Addr}{ds:List D}(m:M a=some (.lst ds)):∃ xs,H a=some (.lst xs)∧HasL K H xs ds:=h a _ m
end
noncomputable abbrev Ev:=List (Option D)
structure B7(K:c6v)(H:Hp)(σ:St)(e:Ev):Prop where
 len:σ.length=e.length
 has:∀(i:Nat) (d:D),e[i]? = some (some d)→∃ v,σ[i]? = some (some v)∧Has K H v d
section
variable {K:c6v} {H H':Hp} {σ:St} {e:Ev}
theorem B7.mono(k:KT H H')(h:B7 K H σ e):B7 K H' σ e:=⟨h.len,fun i d z=>let ⟨v,a,b⟩:=h.has i d z;⟨v,a,b.mono k⟩⟩
theorem B7.set(h:B7 K H σ e){v:V}{d:D}(r:Has K H v d)(i:Nat):B7 K H (σ.set i (some v)) (e.set i (some d)):=by
 refine⟨by simp[h.len],fun j x z=>?_⟩
 rw[c8V]at z ⊢
 by_cases q:i=j
 ·subst q
  rw[if_pos rfl]at z ⊢
  by_cases l:i<e.length
  ·rw[if_pos l]at z
   rw[if_pos (by rw[h.len];exact l)]
   cases z
   exact⟨v,rfl,r⟩
  ·rw[if_neg l]at z;cases z
 ·rw[if_neg q]at z ⊢
  exact h.has j x z
end
noncomputable def a0Q(N:List Str)(ds:List D):Ev:=ds.map some++c7b (N.length - ds.length) none
theorem B7.start0{K:c6v}{H:Hp}{N:List Str}{vs:List V}{ds:List D}(h:HasL K H vs ds):B7 K H (L2.start N vs) (a0Q N ds):=by
 have hl:=h.length
 refine⟨by simp[L2.start,a0Q,hl],fun i d z=>?_⟩
 unfold a0Q at z
 unfold L2.start
 rw[c8x]at z ⊢
 simp only[c6x]at z ⊢
 rw[hl]
 by_cases q:i<ds.length
 ·rw[if_pos q]at z ⊢
  rw[c6K]at z ⊢
  cases e:ds[i]? with
  | none=>rw[e]at z;cases z
  | some x =>
   rw[e]at z
   have z':x=d:=by simpa using z
   subst z'
   obtain⟨v,a,b⟩:=h.get e
   exact⟨v,by rw[a];rfl,b⟩
 ·rw[if_neg q]at z
  rw[c7N]at z
  split at z<;>cases z
noncomputable abbrev DK:=D→Mem→Prop
noncomputable abbrev DTE:=Ev→Mem→DK→Prop
noncomputable abbrev DTT:=Ev→Mem→(Bool→Mem→Prop)→Prop
noncomputable abbrev DTA:=Ev→Mem→(List D→Mem→Prop)→Prop
structure a1y where
 nx:Ev→Mem→Prop
 rt:DK
 bk:Ev→Mem→Prop:=fun _ _=>False
 ct:Ev→Mem→Prop:=fun _ _=>False
noncomputable abbrev DTS:=a1y→Ev→Mem→Prop
noncomputable def a39(K:c6v)(H:Hp)(R:DK)(Q:VK):Prop:=∀ d M',R d M'→∀ v H',KT H H'→u6 K H' M'→Has K H' v d→Q v H'
noncomputable def b5o(K:c6v)(H:Hp)(R:Bool→Mem→Prop)(Q:Bool→Hp→Prop):Prop:=∀ b M',R b M'→∀ H',KT H H'→u6 K H' M'→Q b H'
noncomputable def b7K(K:c6v)(H:Hp)(R:List D→Mem→Prop)(Q:List V→Hp→Prop):Prop:=∀ ds M',R ds M'→∀ vs H',KT H H'→u6 K H' M'→HasL K H' vs ds→Q vs H'
noncomputable def a8R(K:c6v)(H:Hp)(R:Ev→Mem→Prop)(Q:St→Hp→Prop):Prop:=∀ e M',R e M'→∀ σ H',KT H H'→u6 K H' M'→B7 K H' σ e→Q σ H'
structure Fit(K:c6v)(H:Hp)(F:a1y)(E:a8T):Prop where
 nx:a8R K H F.nx E.nx
 rt:a39 K H F.rt E.rt
 bk:a8R K H F.bk E.bk
 ct:a8R K H F.ct E.ct
section
variable {K:c6v} {H H':Hp}
theorem a39.mono{R:DK}{Q:VK}(h:a39 K H R Q)(k:KT H H'):a39 K H' R Q:=fun d M r v H2 k2 a b=>h d M r v H2 (k.trans k2) a b
theorem b5o.mono{R:Bool→Mem→Prop}{Q:Bool→Hp→Prop}(h:b5o K H R Q)(k:KT H H'):b5o K H' R Q:=fun d M r H2 k2 a=>h d M r H2 (k.trans k2) a
theorem b7K.mono{R:List D→Mem→Prop}{Q:List V→Hp→Prop}(h:b7K K H R Q)(k:KT H H'):b7K K H' R Q:=fun d M r v H2 k2 a b=>h d M r v H2 (k.trans k2) a b
theorem a8R.mono{R:Ev→Mem→Prop}{Q:St→Hp→Prop}(h:a8R K H R Q)(k:KT H H'):a8R K H' R Q:=fun d M r v H2 k2 a b=>h d M r v H2 (k.trans k2) a b
theorem Fit.mono{F:a1y}{E:a8T}(h:Fit K H F E)(k:KT H H'):Fit K H' F E:=⟨h.nx.mono k,h.rt.mono k,h.bk.mono k,h.ct.mono k⟩
end
noncomputable def up(K:c6v)(t:DTE):TE:=fun σ H Q=>∃ e M R,B7 K H σ e∧u6 K H M∧t e M R∧a39 K H R Q
noncomputable def upT(K:c6v)(t:DTT):TT:=fun σ H Q=>∃ e M R,B7 K H σ e∧u6 K H M∧t e M R∧b5o K H R Q
noncomputable def upA(K:c6v)(t:DTA):TA:=fun σ H Q=>∃ e M R,B7 K H σ e∧u6 K H M∧t e M R∧b7K K H R Q
noncomputable def upS(K:c6v)(t:DTS):TS:=fun E σ H=>∃ e M F,B7 K H σ e∧u6 K H M∧t F e M∧Fit K H F E
noncomputable abbrev DPE(X:Cx)(x:Expr)(t:DTE):Prop:=PE X x (up X.K t)
noncomputable abbrev DPT(X:Cx)(x:Expr)(t:DTT):Prop:=PT X x (upT X.K t)
noncomputable abbrev DPW(X:Cx)(x:Expr)(t:DTT):Prop:=PW X x (upT X.K t)
noncomputable abbrev DPA(X:Cx)(x:List Expr)(t:DTA):Prop:=PA X x (upA X.K t)
noncomputable abbrev DPS(X:Cx)(x:Stmt)(t:DTS):Prop:=PS X x (upS X.K t)
noncomputable abbrev c3v(X:Cx)(x:List Stmt)(t:DTS):Prop:=PSs X x (upS X.K t)
structure JE(X:Cx)(x:Expr)(t:DTE):Prop where
 out:DPE X x t
structure JT(X:Cx)(x:Expr)(t:DTT):Prop where
 out:DPT X x t
structure JW(X:Cx)(x:Expr)(t:DTT):Prop where
 out:DPW X x t
structure JA(X:Cx)(x:List Expr)(t:DTA):Prop where
 out:DPA X x t
structure JS(X:Cx)(x:Stmt)(t:DTS):Prop where
 out:DPS X x t
structure JSs(X:Cx)(x:List Stmt)(t:DTS):Prop where
 out:c3v X x t
section
variable {X:Cx} {a b c:Expr} {ta tb tc:DTE} {pos:Pos}
noncomputable def a0p(i:Nat):DTE:=fun e M R=>∃ d,e[i]? = some (some d)∧R d M
noncomputable def dC(d:D):DTE:=fun _ M R=>R d M
theorem a8(i:Nat){x:Str}{pos:Pos}(hN:X.N[i]? = some x:=by rfl)(hv:Vis X.env.scope x:=by first|exact Or.inl rfl|exact Or.inr (Or.inl rfl)|exact Or.inr (Or.inr rfl))(hd:(x == ("__debug__" : Str))=false:=by decide)
  (hcd:(x == ("__classdict__" : Str))=false:=by decide):JE X (.Name x pos) (a0p i):=⟨(b9N hN hv hd hcd).imp (by
  rintro σ H Q ⟨e,M,R,ok,am,⟨d,z,r⟩,f⟩
  obtain⟨v,h1,h2⟩:=ok.has i d z
  exact⟨v,h1,f d M r v H (KT.refl H) am h2⟩)⟩
theorem a0f{v:V}{d:D}(h:PE X a (tC v))(r:∀ H,Has X.K H v d):DPE X a (dC d) :=
 h.imp (by rintro σ H Q ⟨e,M,R,ok,am,z,f⟩;exact f d M z v H (KT.refl H) am (r H))
theorem d3{i j pos}:JE X (.Constant (.int i) j pos) (dC (.int i)):=⟨a0f b9T fun _=>.int i⟩
theorem A1{b j pos}:JE X (.Constant (.bool b) j pos) (dC (.bl b)):=⟨a0f c1D fun _=>.bl b⟩
theorem C7{j pos}:JE X (.Constant .none j pos) (dC .non):=⟨a0f b9S fun _=>.non⟩
theorem g8{x j pos}:JE X (.Constant (.str x) j pos) (dC (.str x)):=⟨a0f b9P fun _=>.str x⟩
noncomputable def c2C(K:c6v)(v:V)(d:D):Prop:=∀ H,Has K H v d
theorem c0t{x:Str}{v:V}{d:D}{u:Value}{pos:Pos}(hg:Gl X x)(hm:X.mg x=some u)(r:u0 v u)(hk:c2C X.K v d)(hd:(x == ("__debug__" : Str))=false:=by decide):DPE X (.Name x pos) (dC d) :=
 a0f (b6Q hg hm r hd) hk
noncomputable abbrev DR2:=D→D→Mem→DK→Prop
noncomputable def upR(K:c6v)(g:DR2):R2:=fun x y H Q=>∃ dx dy M R,Has K H x dx∧Has K H y dy∧u6 K H M∧g dx dy M R∧a39 K H R Q
noncomputable def DOp(X:Cx)(f:Value→Value→Sem Value)(g:DR2):Prop:=OpR X f (upR X.K g)
noncomputable def dOp(g:DR2)(ta tb:DTE):DTE:=fun e M R=>ta e M fun x M1=>tb e M1 fun y M2=>g x y M2 R
theorem a5S{ta tb:DTE}{g:DR2}{σ:St}{H:Hp}{Q:VK}(h:up X.K (dOp g ta tb) σ H Q):tOp (upR X.K g) (up X.K ta) (up X.K tb) σ H Q:=by
 obtain⟨e,M,R,ok,am,t,f⟩:=h
 refine⟨e,M,_,ok,am,t,fun x M1 h1 v H1 k1 a1 r1=>?_⟩
 refine⟨e,M1,_,ok.mono k1,a1,h1,fun y M2 h2 u H2 k2 a2 r2=>?_⟩
 exact⟨x,y,M2,R,r1.mono k2,r2,a2,h2,f.mono (k1.trans k2)⟩
theorem f7{op:Operator}{g:DR2}(ho:DOp X (binaryOp op) g)(ha:JE X a ta)(hb:JE X b tb):JE X (.BinOp a op b pos) (dOp g ta tb):=⟨have ha:=ha.out;have hb:=hb.out;(b8w ho ha hb).imp fun _ _ _ h=>a5S h⟩
theorem c0e{op:CmpOp}{g:DR2}(ho:DOp X (compareOp op) g)(ha:JE X a ta)(hb:JE X b tb)(hm:behindInMarks op b=false):JE X (.Compare a [op] [b] pos) (dOp g ta tb):=⟨have ha:=ha.out;have hb:=hb.out;(b6S ho ha hb hm).imp fun _ _ _ h=>a5S h⟩
noncomputable def b1g(t:DTE):DTT:=fun e M R=>t e M fun x M'=>∃ k,x = .bl k∧R k M'
theorem a7N{K:c6v}{H:Hp}{R:Bool→Mem→Prop}{Q:Bool→Hp→Prop}(f:b5o K H R Q):a39 K H (fun x M'=>∃ k,x = .bl k∧R k M') (fun x H'=>∃ k,x = .bl k∧Q k H'):=by
 rintro d M' ⟨k,rfl,r⟩ v H' kt am h
 cases h
 exact⟨k,rfl,f k M' r H' kt am⟩
theorem b7j{op:CmpOp}{g:DR2}(ho:DOp X (compareOp op) g)(ha:JE X a ta)(hb:JE X b tb)(hm:behindInMarks op b=false):JT X (.Compare a [op] [b] pos) (b1g (dOp g ta tb)):=⟨have ha:=ha.out;have hb:=hb.out;(b6F ho ha hb hm).imp (by rintro σ H Q ⟨e,M,R,ok,am,t,f⟩;exact a5S (Q:=fun x H'=>∃ k,x = .bl k∧Q k H') ⟨e,M,_,ok,am,t,a7N f⟩)⟩
theorem i0{x:Expr}{t:DTE}(h:JE X x t)(he:∀ whole,isTrue x X.env whole=(do let v ← whole;standAt x.pos;holding [v] (truthy v)):=by intro _;rfl):JT X x (b1g t):=⟨have h:=h.out;(b9B h he).imp (by rintro σ H Q ⟨e,M,R,ok,am,t,f⟩;exact⟨e,M,_,ok,am,t,a7N f⟩)⟩
noncomputable def fI(f:Int→Int→D):D→D→Option D
 | .int i,.int j=>some (f i j)
 | _,_=>none
noncomputable def gF(f:D→D→Option D):DR2:=fun x y M R=>∃ z,f x y=some z∧R z M
noncomputable def gI(C:Int→Int→Prop)(f:Int→Int→D):DR2:=fun x y M R=>∃ i j,x = .int i∧y = .int j∧C i j∧R (f i j) M
theorem a6Y{f:Int→Int→D}{x y z:D}(h:fI f x y=some z):∃ i j,x = .int i∧y = .int j∧z=f i j:=by
 cases x with
 | int i =>
  cases y with
  | int j=>exact⟨i,j,rfl,rfl,(Option.some.inj h).symm⟩
  | _=>cases h
 | _=>cases h
theorem b1c{f:Value→Value→Sem Value}{C:Int→Int→Prop}{g:Int→Int→V}{g':Int→Int→D}(h:OpR X f (rI C g))(hg:∀ i j H,Has X.K H (g i j) (g' i j)):DOp X f (gI C g') :=
 OpR.imp h (by
  rintro x y H Q ⟨dx,dy,M,R,hx,hy,am,⟨i,j,e1,e2,hc,r⟩,f⟩
  subst e1;subst e2
  cases hx;cases hy
  exact⟨i,j,rfl,rfl,hc,f _ M r _ H (KT.refl H) am (hg i j H)⟩)
theorem a38{f:Value→Value→Sem Value}{g:Int→Int→V}{g':Int→Int→D}(h:OpR X f (rI0 g))(hg:∀ i j H,Has X.K H (g i j) (g' i j)):DOp X f (gF (fI g')) :=
 OpR.imp h (by
  rintro x y H Q ⟨dx,dy,M,R,hx,hy,am,⟨z,e,r⟩,f⟩
  obtain⟨i,j,e1,e2,e3⟩:=a6Y e
  subst e1;subst e2;subst e3
  cases hx;cases hy
  exact⟨i,j,rfl,rfl,f _ M r _ H (KT.refl H) am (hg i j H)⟩)
theorem D9:DOp X (binaryOp .Add) (gF (fI fun i j=>.int (i+j))):=a38 b90 fun _ _ _=>.int _
theorem a18:DOp X (binaryOp .Sub) (gF (fI fun i j=>.int (i - j))):=a38 b9W fun _ _ _=>.int _
theorem a0n:DOp X (compareOp .Lt) (gF (fI fun i j=>.bl (decide (i<j)))):=a38 c1F fun _ _ _=>.bl _
theorem c3d:DOp X (compareOp .LtE) (gF (fI fun i j=>.bl (decide (i≤j)))):=a38 c1G fun _ _ _=>.bl _
theorem a2j:DOp X (compareOp .Gt) (gF (fI fun i j=>.bl (decide (j<i)))):=a38 c1H fun _ _ _=>.bl _
theorem a3V:DOp X (binaryOp .Mod) (gI (fun _ j=>0<j) fun i j=>.int (i % j)):=b1c b9Z fun _ _ _=>.int _
theorem W6:DOp X (binaryOp .Pow) (gI a8U fun i j=>.int (i ^ j.toNat)):=b1c b9Y fun _ _ _=>.int _
noncomputable def gU(f:Int→D):D→Mem→DK→Prop:=fun x M R=>∃ i,x = .int i∧R (f i) M
noncomputable def dUn(g:D→Mem→DK→Prop)(ta:DTE):DTE:=fun e M R=>ta e M fun x M1=>g x M1 R
theorem A5(ha:JE X a ta):JE X (.UnaryOp .USub a pos) (dUn (gU fun i=>.int (-i)) ta):=⟨have ha:=ha.out;(c1A b9f ha).imp (by rintro σ H Q ⟨e,M,R,ok,am,t,f⟩;exact⟨e,M,_,ok,am,t,fun x M1 ⟨i,z,r⟩ v H1 k1 a1 r1=>by
  subst z;cases r1;exact⟨i,rfl,f _ M1 r _ H1 k1 a1 (.int _)⟩⟩)⟩
variable {tA tB':DTT} {J4:List Expr}
noncomputable def c2s(t u:DTT):DTT:=fun e M R=>t e M fun c M1=>if c=true then u e M1 R else R false M1
noncomputable def dOr(t u:DTT):DTT:=fun e M R=>t e M fun c M1=>if c=true then R true M1 else u e M1 R
noncomputable def c2l(t:DTT):DTT:=fun e M R=>t e M fun c M1=>R (!c) M1
theorem a0c(ha:JT X a tA):JW X (.BoolOp .And [a] pos) tA:=⟨have ha:=ha.out;b6E ha⟩
theorem A4(ha:JT X a tA):JW X (.BoolOp .Or [a] pos) tA:=⟨have ha:=ha.out;b9y ha⟩
theorem a1O(ha:JT X a tA)(hb:JW X (.BoolOp .And (b :: J4) pos) tB'):JW X (.BoolOp .And (a :: b :: J4) pos) (c2s tA tB'):=⟨have ha:=ha.out;have hb:=hb.out;(b9z ha hb).imp (by rintro σ H Q ⟨e,M,R,ok,am,t,f⟩;exact⟨e,M,_,ok,am,t,fun k M1 h1 H1 k1 a1=>by
  cases k with
  | true=>exact⟨e,M1,R,ok.mono k1,a1,h1,f.mono k1⟩
  | false=>exact f false M1 h1 H1 k1 a1⟩)⟩
theorem u8(ha:JT X a tA)(hb:JW X (.BoolOp .Or (b :: J4) pos) tB'):JW X (.BoolOp .Or (a :: b :: J4) pos) (dOr tA tB'):=⟨have ha:=ha.out;have hb:=hb.out;(c1y ha hb).imp (by rintro σ H Q ⟨e,M,R,ok,am,t,f⟩;exact⟨e,M,_,ok,am,t,fun k M1 h1 H1 k1 a1=>by
  cases k with
  | true=>exact f true M1 h1 H1 k1 a1
  | false=>exact⟨e,M1,R,ok.mono k1,a1,h1,f.mono k1⟩⟩)⟩
theorem w6(ha:JT X a tA):JT X (.UnaryOp .Not a pos) (c2l tA):=⟨have ha:=ha.out;(b9C ha).imp (by rintro σ H Q ⟨e,M,R,ok,am,t,f⟩;exact⟨e,M,_,ok,am,t,fun k M1 h1 H1 k1 a1=>f (!k) M1 h1 H1 k1 a1⟩)⟩
theorem A8{x:Expr}{t:DTT}(h:JW X x t):JT X x t:=⟨have h:=h.out;PW.pt h⟩
noncomputable def b8T(ta tb:DTE):DTE:=fun e M R=>ta e M fun x M1=>∃ c,x = .bl c∧if c=true then tb e M1 R else R (.bl false) M1
noncomputable def b8N(ta:DTE):DTE:=fun e M R=>ta e M fun x M1=>∃ c,x = .bl c∧R (.bl (!c)) M1
theorem v7{op}{t:DTE}(h:JE X a t):JE X (.BoolOp op [a] pos) t:=⟨have h:=h.out;b9Q h⟩
theorem r9(ha:JE X a ta)(hb:JE X (.BoolOp .And (b :: J4) pos) tb):JE X (.BoolOp .And (a :: b :: J4) pos) (b8T ta tb):=⟨have ha:=ha.out;have hb:=hb.out;(b9V ha hb).imp (by rintro σ H Q ⟨e,M,R,ok,am,t,f⟩;exact⟨e,M,_,ok,am,t,fun x M1 ⟨k,z,h1⟩ v H1 k1 a1 r1=>by
  subst z;cases r1
  refine⟨k,rfl,?_⟩
  cases k with
  | true=>exact⟨e,M1,R,ok.mono k1,a1,h1,f.mono k1⟩
  | false=>exact f _ M1 h1 _ H1 k1 a1 (.bl _)⟩)⟩
theorem G5(ha:JE X a ta):JE X (.UnaryOp .Not a pos) (b8N ta):=⟨have ha:=ha.out;(b9R ha).imp (by rintro σ H Q ⟨e,M,R,ok,am,t,f⟩;exact⟨e,M,_,ok,am,t,fun x M1 ⟨k,z,h1⟩ v H1 k1 a1 r1=>by
  subst z;cases r1
  exact⟨k,rfl,f _ M1 h1 _ H1 k1 a1 (.bl _)⟩⟩)⟩
noncomputable def dIf(t:DTT)(ta tb:DTE):DTE:=fun e M R=>t e M fun c M1=>if c=true then ta e M1 R else tb e M1 R
theorem a8t(hc:JT X c tA)(ha:JE X a ta)(hb:JE X b tb):JE X (.IfExp c a b pos) (dIf tA ta tb):=⟨have hc:=hc.out;have ha:=ha.out;have hb:=hb.out;(b3S hc ha hb).imp (by rintro σ H Q ⟨e,M,R,ok,am,t,f⟩;exact⟨e,M,_,ok,am,t,fun k M1 h1 H1 k1 a1=>by
  cases k with
  | true=>exact⟨e,M1,R,ok.mono k1,a1,h1,f.mono k1⟩
  | false=>exact⟨e,M1,R,ok.mono k1,a1,h1,f.mono k1⟩⟩)⟩
noncomputable def c2m:DTA:=fun _ M R=>R [] M
noncomputable def b8R(ta:DTE)(tr:DTA):DTA:=fun e M R=>ta e M fun x M1=>tr e M1 fun xs M2=>R (x :: xs) M2
variable {es:List Expr} {tr:DTA}
theorem a9:JA X [] c2m:=⟨a6C.imp (by rintro σ H Q ⟨e,M,R,ok,am,t,f⟩;exact f [] M t [] H (KT.refl H) am .nil)⟩
theorem a7(ha:JE X a ta)(hr:JA X es tr)(hs:starEach (a :: es) X.env=(false,eval a X.env) :: starEach es X.env:=by rfl):JA X (a :: es) (b8R ta tr):=⟨have ha:=ha.out;have hr:=hr.out;(a2D ha hr hs).imp (by rintro σ H Q ⟨e,M,R,ok,am,t,f⟩;exact⟨e,M,_,ok,am,t,fun x M1 h1 v H1 k1 a1 r1 =>
  ⟨e,M1,_,ok.mono k1,a1,h1,fun xs M2 h2 vs H2 k2 a2 r2=>f _ M2 h2 _ H2 (k1.trans k2) a2 (.cons (r1.mono k2) r2)⟩⟩)⟩
noncomputable def c2g(t:DTA):DTE:=fun e M R=>t e M fun ds M1=>ds.length≤sizeLine∧R (.tup ds) M1
noncomputable def c2n(t:DTA):DTE:=fun e M R=>t e M fun ds M1=>ds.length≤sizeLine∧∀ p,M1 p=none→R (.ref p) (A7 M1 p (.lst ds))
theorem d9{x1}(h:JA X es tr):JE X (.Tuple es x1 pos) (c2g tr):=⟨have h:=h.out;(b9O h).imp (by rintro σ H Q ⟨e,M,R,ok,am,t,f⟩;exact⟨e,M,_,ok,am,t,fun ds M1 ⟨hz,h1⟩ vs H1 k1 a1 r1=>by
  refine⟨by rw[r1.length];exact hz,fun p hp=>?_⟩
  have k2:KT H1 (upd H1 p (.tup vs)):=KT.alloc hp
  exact f _ M1 h1 _ _ (k1.trans k2) (a1.alloc hp) (.tup (SqT.of i9) (r1.mono k2))⟩)⟩
theorem W9(h:JA X es tr):JE X (.List es pos) (c2n tr):=⟨have h:=h.out;(b3R h).imp (by rintro σ H Q ⟨e,M,R,ok,am,t,f⟩;exact⟨e,M,_,ok,am,t,fun ds M1 ⟨hz,h1⟩ vs H1 k1 a1 r1=>by
  refine⟨by rw[r1.length];exact hz,fun p hp=>?_⟩
  have k2:KT H1 (upd H1 p (.lst vs)):=KT.alloc hp
  exact f _ _ (h1 p (a1.fresh hp)) _ _ (k1.trans k2) (a1.new hp r1) (.ref p)⟩)⟩
theorem HasL.at{K:c6v}{H:Hp}{vs:List V}{ds:List D}(h:HasL K H vs ds){i:Int}{z:D}(e:atI ds i=some z):∃ v,atI vs i=some v∧Has K H v z:=by
 unfold atI at e ⊢
 rw[h.length]
 cases q:ixN ds.length i with
 | none=>rw[q]at e;cases e
 | some j =>
  rw[q]at e
  exact h.get e
noncomputable def DIx(X:Cx)(g:DR2):Prop:=IxR X (upR X.K g)
theorem c1R{g:DR2}(hr:DIx X g)(ha:JE X a ta)(hb:JE X b tb)(hs:a67 b):JE X (.Subscript a b pos) (dOp g ta tb):=⟨have ha:=ha.out;have hb:=hb.out;(c1B hr ha hb hs).imp fun _ _ _ h=>a5S h⟩
noncomputable abbrev DXK:=Value→Mem→Prop
noncomputable abbrev DSp:=List D→Mem→DK→DXK→Prop
noncomputable def c0I(K:c6v)(H:Hp)(Y:DXK)(E:XK):Prop:=∀ c M',Y c M'→∀ o H',KT H H'→u6 K H' M'→E c o H'
noncomputable def a7L(K:c6v)(sp:DSp):Sp:=fun vs H Q E=>∃ ds M R Y,HasL K H vs ds∧u6 K H M∧sp ds M R Y∧a39 K H R Q∧c0I K H Y E
noncomputable def b1i(sp:DSp)(dds:List D)(Y:DXK)(t:DTA):DTE:=fun e M R=>t e M fun ds M1=>sp (ds++dds) M1 R Y
end
section
variable {X:Cx} {CX:CXT} {k:Nat} {f C:Addr} {fd:FuncData} {ps:List Str} {sp:DSp} {dvs:List V} {dds:List D} {ds:List Value} {E:XK} {Y:DXK} {x m:Str} {p pos apos:Pos} {e o:Expr} {es:List Expr} {t:DTA}
theorem c0u(F:U2 X.prog X.w X.K X.mg X.base CX k f fd ps (a7L X.K sp))(hr:J7 k X.A)(hg:Gl X x)(hm:X.mg x=some (.ref f))(hk:PySem.W.keepIn X.K (.ref f)=true)(hb:a4c X.K fd ps ds)(hd:o8 dvs ds)(hdd:∀ H,HasL X.K H dvs dds)(hx:a68 CX X E)(hY:∀ H,c0I X.K H Y E)
  (ha:DPA X (e :: es) t) (hdb:(x == ("__debug__" : Str))=false:=by decide) (he:starEach (e :: es) X.env=(false,eval e X.env) :: starEach es X.env:=by rfl) (hpl:(backTo pos (starEach es X.env)).any (·.1)=false:=by rfl) :
  DPE X (.Call (.Name x p) (e :: es) [] pos) (b1i sp dds Y t) :=
 (b6T F hr hg hm hk hb hd hx ha hdb he hpl).imp (by rintro σ H Q ⟨e,M,R,ok,am,t,f⟩;exact⟨e,M,_,ok,am,t,fun xs M1 h1 vs H1 k1 a1 r1 =>
  ⟨xs++dds,M1,R,Y,r1.append (hdd H1),a1,h1,f.mono k1,hY H1⟩⟩)
end
section
variable {X:Cx} {st:Stmt} {J4:List Stmt} {t u:DTS} {e:Expr} {te:DTE} {pos:Pos}
noncomputable def b8O:DTS:=fun F e M=>F.nx e M
noncomputable def c2i(t u:DTS):DTS:=fun F e M=>t { F with nx:=u F } e M
theorem e9:JSs X [] b8O:=⟨b6H.imp (by rintro E σ H ⟨e,M,F,ok,am,t,f⟩;exact f.nx e M t σ H (KT.refl H) am ok)⟩
theorem d4(h1:JS X st t)(h2:JSs X J4 u):JSs X (st :: J4) (c2i t u):=⟨have h1:=h1.out;have h2:=h2.out;(a75 h1 h2).imp (by rintro E σ H ⟨e,M,F,ok,am,t,f⟩;exact⟨e,M,{ F with nx:=u F },ok,am,t,⟨fun e' M' h σ' H' k a o=>⟨e',M',F,o,a,h,f.mono k⟩,f.rt,f.bk,f.ct⟩⟩)⟩
theorem d5(h1:JS X st t):JSs X [st] t:=⟨have h1:=h1.out;b6G h1⟩
noncomputable def b8Q(te:DTE):DTS:=fun F e M=>te e M fun _ M1=>F.nx e M1
theorem C9(he:JE X e te)(hs:swapsWith e none pos.line X.env=pure false:=by rfl):JS X (.Expr e pos) (b8Q te):=⟨have he:=he.out;(b6I he hs).imp (by rintro E σ H ⟨e,M,F,ok,am,t,f⟩;exact⟨e,M,_,ok,am,t,fun d M1 h1 v H1 k1 a1 r1=>f.nx e M1 h1 σ H1 k1 a1 (ok.mono k1)⟩)⟩
noncomputable def c2j(te:DTE):DTS:=fun F e M=>te e M F.rt
theorem d6(he:JE X e te):JS X (.Return (some e) pos) (c2j te):=⟨have he:=he.out;(b9E he).imp (by rintro E σ H ⟨e,M,F,ok,am,t,f⟩;exact⟨e,M,_,ok,am,t,f.rt⟩)⟩
noncomputable def c2o(c:DTT)(t u:DTS):DTS:=fun F e M=>c e M fun b M1=>if b=true then t F e M1 else u F e M1
theorem f6{c:Expr}{a b:List Stmt}{tc:DTT}(hc:JT X c tc)(ha:JSs X a t)(hb:JSs X b u):JS X (.If c a b pos) (c2o tc t u):=⟨have hc:=hc.out;have ha:=ha.out;have hb:=hb.out;(c1z hc ha hb).imp (by rintro E σ H ⟨e,M,F,ok,am,t,f⟩;exact⟨e,M,_,ok,am,t,fun k M1 h1 H1 k1 a1=>by
  cases k with
  | true=>exact⟨e,M1,F,ok.mono k1,a1,h1,f.mono k1⟩
  | false=>exact⟨e,M1,F,ok.mono k1,a1,h1,f.mono k1⟩⟩)⟩
noncomputable def b4V:DTS:=fun _ _ _=>False
theorem a5F:JS X st b4V:=⟨b3L.imp (by rintro E σ H ⟨_,_,_,_,_,t,_⟩;exact t)⟩
noncomputable abbrev DTG:=D→Ev→Mem→(Ev→Mem→Prop)→Prop
noncomputable abbrev X6:=List D→Ev→Mem→(Ev→Mem→Prop)→Prop
noncomputable def upG(K:c6v)(g:DTG):TG:=fun v σ H Q=>∃ d e M R,Has K H v d∧B7 K H σ e∧u6 K H M∧g d e M R∧a8R K H R Q
noncomputable def c2H(K:c6v)(g:X6):TGs:=fun vs σ H Q=>∃ ds e M R,HasL K H vs ds∧B7 K H σ e∧u6 K H M∧g ds e M R∧a8R K H R Q
noncomputable abbrev DPG(X:Cx)(x:Expr)(g:DTG):Prop:=PG X x (upG X.K g)
noncomputable abbrev c3w(X:Cx)(x:List Expr)(g:X6):Prop:=PGs X x (c2H X.K g)
structure JG(X:Cx)(x:Expr)(g:DTG):Prop where
 out:DPG X x g
structure JGs(X:Cx)(x:List Expr)(g:X6):Prop where
 out:c3w X x g
noncomputable def a0R(i:Nat):DTG:=fun d e M R=>R (e.set i (some d)) M
theorem b4q{i:Nat}{x:Str}(hN:X.N.Nodup)(hi:X.N[i]? = some x)(hx:Loc X.env.scope x)(hf:X.fn x=true∨X.env.scope.names.lookup x=some .local:=by first|exact .inl rfl|exact .inr rfl|assumption):JG X (.Name x pos) (a0R i):=⟨PG.imp (b6P hN hi hx hf) (by rintro v σ H Q ⟨d,e,M,R,r,ok,am,g,f⟩;exact f _ M g _ H (KT.refl H) am (ok.set r i))⟩
noncomputable def b8J:X6:=fun ds e M R=>ds=[]∧R e M
noncomputable def b4S(t:DTG)(u:X6):X6:=fun ds e M R=>∃ d r,ds=d :: r∧t d e M fun e' M'=>u r e' M' R
theorem g9:JGs X [] b8J:=⟨PGs.imp b6N (by
 rintro v σ H Q ⟨ds,e,M,R,r,ok,am,⟨z,g⟩,f⟩
 subst z;cases r;exact⟨rfl,f e M g σ H (KT.refl H) am ok⟩)⟩
end
end DL
namespace DL
open PySem PySem.Spec L2
open PyProof.Rows hiding St
section
variable {X:Cx} {st:Stmt} {J4:List Stmt} {t u:DTS} {e:Expr} {te:DTE} {pos:Pos}
theorem d7{x:Expr}{xs:List Expr}{t:DTG}{u:X6}(h1:JG X x t)(h2:JGs X xs u)
  (hs:(assignEach (x :: xs) X.env).map (·.2)=assign x X.env :: (assignEach xs X.env).map (·.2):=by rfl):JGs X (x :: xs) (b4S t u):=⟨have h1:=h1.out;have h2:=h2.out;PGs.imp (b3P h1 h2 hs) (by
  rintro vs σ H Q ⟨ds,e,M,R,r,ok,am,⟨d,dr,z,g⟩,f⟩
  subst z
  cases r with
  | cons r rr=>exact⟨_,_,rfl,d,e,M,_,r,ok,am,g,fun e1 M1 h1 σ1 H1 k1 a1 ok1=>⟨dr,e1,M1,R,rr.mono k1,ok1,a1,h1,f.mono k1⟩⟩)⟩
noncomputable def a8A(n:Nat)(t:X6):DTG:=fun d e M R=>∃ ds,d = .tup ds∧ds.length=n∧t ds e M R
theorem h8{xs:List Expr}{k:Nat}{t:X6}{n:Nat}(hc:X.calm=true)(h:JGs X xs t)
  (hn:(assignEach xs X.env).length=n:=by rfl) (hst:(assignEach xs X.env).findIdx? (·.1)=none:=by rfl):JG X (.Tuple xs k pos) (a8A n t):=⟨have h:=h.out;PG.imp (b9L hc h hn hst) (by
  rintro v σ H Q ⟨d,e,M,R,r,ok,am,⟨ds,z,hl,g⟩,f⟩
  subst z
  cases r with
  | tup s l=>exact⟨_,_,rfl,s,by rw[l.length];exact hl,ds,e,M,R,l,ok,am,g,f⟩)⟩
noncomputable abbrev b5q:=D→D→D→Mem→(Mem→Prop)→Prop
noncomputable def b8B:b5q:=fun o i v M R=>∃ p ds k j,o = .ref p∧i = .int k∧M p=some (.lst ds)∧ixN ds.length k=some j∧R (A7 M p (.lst (ds.set j v)))
noncomputable def b8I(to ti:DTE)(t:b5q):DTG:=fun d e M R=>to e M fun o M1=>ti e M1 fun i M2=>t o i d M2 fun M3=>R e M3
theorem a6T{o i:Expr}{to ti:DTE}(ho:JE X o to)(hi:JE X i ti)
  (ha:∀ v,assign (.Subscript o i pos) X.env v=(do
   let ov ← holding [v] (eval o X.env)
   let iv ← holding [v,ov] (eval i X.env)
   standAt pos
   holding [v,ov,iv] (setItem ov iv v)
   release [v,ov,iv] []):=by intro _;rfl):JG X (.Subscript o i pos) (b8I to ti b8B):=⟨have ho:=ho.out;have hi:=hi.out;PG.imp (b9M ho hi b3u ha) fun v σ H Q ⟨d,e,M,R,r,ok,am,g,f⟩ =>
  ⟨e,M,_,ok,am,g,fun x M1 h1 vo H1 k1 a1 r1=>⟨e,M1,_,ok.mono k1,a1,h1,fun y M2 ⟨p,ds,k,j,e1,e2,e3,e4,h2⟩ vi H2 k2 a2 r2=>by
   subst e1;subst e2
   cases r1;cases r2
   obtain⟨xs,hx,l⟩:=a2.lst e3
   have kt:KT H H2:=k1.trans k2
   have kw:KT H2 (upd H2 p (.lst (xs.set j v))):=KT.write hx
   exact⟨p,xs,k,j,rfl,rfl,hx,by rw[l.length];exact e4,f e _ h2 σ _ (kt.trans kw) (a2.write hx (l.set (r.mono kt) j)) ((ok.mono kt).mono kw)⟩⟩⟩⟩
noncomputable def b2b(te:DTE)(g:DTG):DTS:=fun F e M=>te e M fun x M1=>g x e M1 F.nx
theorem p8{tg x:Expr}{tx:DTE}{g:DTG}(he:JE X x tx)(hg:JG X tg g)(hs:swapsWithSole [tg] x pos.line X.env=pure false:=by rfl)(hw:swappedStores [tg] x X.env=pure none:=by rfl)
  (h1:(assignEach [tg] X.env).map (·.2)=[assign tg X.env]:=by rfl):JS X (.Assign [tg] x pos) (b2b tx g):=⟨have he:=he.out;have hg:=hg.out;(b9H he hg hs hw h1).imp (by rintro E σ H ⟨e,M,F,ok,am,t,f⟩;exact⟨e,M,_,ok,am,t,fun d M1 h1 v H1 k1 a1 r1=>⟨d,e,M1,F.nx,r1,ok.mono k1,a1,h1,f.nx.mono k1⟩⟩)⟩
theorem b7i{i:Nat}{x:Str}{tx:DTE}{pos':Pos}(hN:X.N.Nodup)(hi:X.N[i]? = some x)(hx:Loc X.env.scope x)(he:JE X e tx)(hs:swapsWith e (some (.Name x pos')) pos.line X.env=pure false:=by rfl)(hf:X.fn x=true∨X.env.scope.names.lookup x=some .local:=by first|exact .inl rfl|exact .inr rfl|assumption):JS X (.Assign [.Name x pos'] e pos) (b2b tx (a0R i)):=⟨have he:=he.out;(b9D hN hi hx he hs hf).imp (by rintro E σ H ⟨e,M,F,ok,am,t,f⟩;exact⟨e,M,_,ok,am,t,fun d M1 h1 v H1 k1 a1 r1=>f.nx _ M1 h1 _ H1 k1 a1 ((ok.mono k1).set r1 i)⟩)⟩
noncomputable def c2k(i j:Nat)(ta:DTA):DTS:=fun F e M=>ta e M fun ds M1=>∃ x y,ds=[x,y]∧F.nx ((e.set i (some x)).set j (some y)) M1
theorem a6S{i j:Nat}{x y:Str}{a b:Expr}{ta:DTA}{px py pt:Pos}{kt k2 pt2}(hc:X.calm=true)(hN:X.N.Nodup)(hi:X.N[i]? = some x)(hj:X.N[j]? = some y)(hij:i≠j)
  (hx:X.env.scope.names.lookup x=some .local) (hy:X.env.scope.names.lookup y=some .local) (ha:JA X [a,b] ta)
  (hw:swappedStores [.Tuple [.Name x px,.Name y py] kt pt] (.Tuple [a,b] k2 pt2) X.env=pure (some [x,y]):=by rfl)
  (hs:swapsWithSole [.Tuple [.Name x px,.Name y py] kt pt] (.Tuple [a,b] k2 pt2) pos.line X.env=pure false:=by rfl):JS X (.Assign [.Tuple [.Name x px,.Name y py] kt pt] (.Tuple [a,b] k2 pt2) pos) (c2k i j ta):=⟨have ha:=ha.out;(b9F hc hN hi hj hij hx hy ha hw hs).imp (by rintro E σ H ⟨e,M,F,ok,am,t,f⟩;exact⟨e,M,_,ok,am,t,fun ds M1 ⟨x,y,z,h1⟩ vs H1 k1 a1 r1=>by
  subst z
  cases r1 with
  | cons r1 rr =>
   cases rr with
   | cons r2 rr =>
    cases rr
    exact⟨_,_,rfl,f.nx _ M1 h1 _ H1 k1 a1 (((ok.mono k1).set r1 i).set r2 j)⟩⟩)⟩
noncomputable def b4U(c:DTT)(tb:DTS):DTS:=fun F e M=>∃ W:Nat→Ev→Mem→Prop,(∃ m,W m e M)∧∀ m e M,W m e M →
 c e M fun b M1=>if b=true then tb { F with nx:=fun e' M'=>∃ m',m'<m∧W m' e' M',ct:=fun e' M'=>∃ m',m'<m∧W m' e' M',bk:=F.nx } e M1 else F.nx e M1
theorem a1N{c:Expr}{body:List Stmt}{tc:DTT}{tb:DTS}(hp:PassesOwn (model X.prog X.w) X.A X.env X.xe)(hc:JT X c tc)(hb:JSs X body tb):JS X (.While c body [] pos) (b4U tc tb):=⟨have hc:=hc.out;have hb:=hb.out;(b3K hp hc hb).imp (by
  rintro E σ H ⟨e,M,F,ok,am,⟨W,⟨m0,w0⟩,turn⟩,f⟩
  refine⟨fun m σ' H'=>∃ e' M',KT H H'∧B7 X.K H' σ' e'∧u6 X.K H' M'∧W m e' M',⟨m0,e,M,KT.refl H,ok,am,w0⟩,?_⟩
  rintro m σ1 H1 ⟨e1,M1,k1,ok1,a1,w1⟩
  refine⟨e1,M1,_,ok1,a1,turn m e1 M1 w1,fun b M2 h2 H2 k2 a2=>?_⟩
  cases b with
  | false=>exact f.nx e1 M2 h2 σ1 H2 (k1.trans k2) a2 (ok1.mono k2)
  | true =>
   refine⟨fun σ' H'=>∃ m',m'<m∧∃ e' M',KT H H'∧B7 X.K H' σ' e'∧u6 X.K H' M'∧W m' e' M',fun σ' H' h=>h,e1,M2,_,ok1.mono k2,a2,h2,?_⟩
   have kk:=k1.trans k2
   exact⟨fun e' M' ⟨m',l,w⟩ σ' H' k' a' o'=>⟨m',l,e',M',kk.trans k',o',a',w⟩,f.rt.mono kk,f.nx.mono kk,fun e' M' ⟨m',l,w⟩ σ' H' k' a' o'=>⟨m',l,e',M',kk.trans k',o',a',w⟩⟩)⟩
noncomputable abbrev DTI:=Ev→Mem→(List D→(Mem→Prop)→Mem→Prop)→Prop
noncomputable def c2q(ti:DTI)(g:DTG)(tb:DTS):DTS:=fun F e M=>ti e M fun ds stay M1=>∃ W:Nat→Ev→Mem→Prop,W 0 e M1∧(∀ i e M,i≤ds.length→W i e M→stay M) ∧
 (∀(i:Nat) (d:D) e M,ds[i]? = some d→W i e M→g d e M fun e2 M2=>tb { F with nx:=W (i+1),ct:=W (i+1),bk:=F.nx } e2 M2)∧∀ e M,W ds.length e M→F.nx e M
noncomputable def J5(lo:Int)(n:Nat):List D:=(c7U n).map fun(i:Nat)=>D.int (lo+(i:Int))
theorem o6(lo:Int)(n:Nat):(J5 lo n).length=n:=by simp[J5]
theorem a3I{lo:Int}{n i:Nat}(h:i<n):(J5 lo n)[i]? = some (D.int (lo+(i:Int))):=by simp[J5,h]
theorem a1J{lo:Int}{n i:Nat}{d:D}(h:(J5 lo n)[i]? = some d):i<n∧d=D.int (lo+(i:Int)):=by
 have hl:i<n:=by
  have:=(c6F.mp h).1
  rw[o6]at this;exact this
 rw[a3I hl]at h
 exact⟨hl,(Option.some.inj h).symm⟩
noncomputable def b8H(ta:DTA):DTI:=fun e M R=>ta e M fun ds M1=>∃ j:Int,ds=[.int j]∧-(2 ^ 62)≤j∧j<2 ^ 62∧R (J5 0 j.toNat) (fun _=>True) M1
noncomputable def b4N(ta:DTA):DTI:=fun e M R=>ta e M fun ds M1=>∃ i j:Int,ds=[.int i,.int j]∧(-(2 ^ 62)≤i∧i<2 ^ 62∧-(2 ^ 62)≤j∧j<2 ^ 62)∧R (J5 i (j - i).toNat) (fun _=>True) M1
theorem b4F{K:c6v}{H H1 H2:Hp}{F:a1y}{E:a8T}{W:Nat→Ev→Mem→Prop}{g:DTG}{tb:DTS}{i:Nat}{x:V}{d:D}{σ2:St}{e2:Ev}{M2:Mem}(f:Fit K H F E)(k1:KT H H1)(k2:KT H1 H2)(ok2:B7 K H2 σ2 e2)(a2:u6 K H2 M2)(r:Has K H2 x d)
  (h:g d e2 M2 fun e3 M3=>tb { F with nx:=W (i+1),ct:=W (i+1),bk:=F.nx } e3 M3) :
  upG K g x σ2 H2 fun σ3 H3=>upS K tb { E with nx:=fun σ' H'=>∃ e' M',KT H1 H'∧B7 K H' σ' e'∧u6 K H' M'∧W (i+1) e' M',ct:=fun σ' H'=>∃ e' M',KT H1 H'∧B7 K H' σ' e'∧u6 K H' M'∧W (i+1) e' M',bk:=E.nx } σ3 H3:=by
 refine⟨d,e2,M2,_,r,ok2,a2,h,fun e3 M3 h3 σ3 H3 k3 a3 ok3=>⟨e3,M3,_,ok3,a3,h3,?_⟩⟩
 have kk:KT H H3:=k1.trans (k2.trans k3)
 exact⟨fun e' M' w σ' H' k' a' o'=>⟨e',M',k2.trans (k3.trans k'),o',a',w⟩,f.rt.mono kk,f.nx.mono kk,fun e' M' w σ' H' k' a' o'=>⟨e',M',k2.trans (k3.trans k'),o',a',w⟩⟩
variable {tg iter:Expr} {body:List Stmt} {ti:DTE} {ta:DTA} {g:DTG} {tb:DTS}
theorem Has.il{K:c6v}{H:Hp}{v:V}{ds:List D}(h:Has K H v (.vl ds)):∃ a xs,v = .ref a∧SqL K H a xs∧HasL K H xs ds:=by
 cases h with
 | vl h l=>exact⟨_,_,rfl,h.elim (fun⟨o,e⟩=>.inl (.inr ⟨o,e⟩)) (fun k=>k H),l⟩
end
section
variable {P:Program} {w:World} {K:c6v} {mg:Str→Option Value} {base:Heap}
end
section
variable {X:Cx} {x:Str} {p pos:Pos} {e:Expr} {es:List Expr} {t:DTA} {id T:String}
noncomputable abbrev DRC:=List D→Mem→DK→Prop
noncomputable def upC(K:c6v)(g:DRC):List V→Hp→VK→Prop:=fun xs H Q=>∃ ds M R,HasL K H xs ds∧u6 K H M∧g ds M R∧a39 K H R Q
noncomputable def a1z(X:Cx)(f:Value)(g:DRC):Prop:=C5 X f (upC X.K g)
noncomputable def dCB(g:DRC)(t:DTA):DTE:=fun e M R=>t e M fun ds M1=>g ds M1 R
theorem b8V{g:DRC}{σ:St}{H:Hp}{Q:VK}(h:up X.K (dCB g t) σ H Q):tCB (upC X.K g) (upA X.K t) σ H Q:=by
 obtain⟨e,M,R,ok,am,t,f⟩:=h
 exact⟨e,M,_,ok,am,t,fun ds M1 h1 vs H1 k1 a1 r1=>⟨ds,M1,R,r1,a1,h1,f.mono k1⟩⟩
theorem C5.imp{f:Value}{r r':List V→Hp→VK→Prop}(h:C5 X f r)(i:∀ xs H Q,r' xs H Q→r xs H Q):C5 X f r':=fun pins s σ H xs us Q I rv q=>h pins s σ H xs us Q I rv (i xs H Q q)
theorem HasL.one{K:c6v}{H:Hp}{vs:List V}{d:D}(h:HasL K H vs [d]):∃ v,vs=[v]∧Has K H v d:=by
 cases h with
 | cons r rr=>cases rr;exact⟨_,rfl,r⟩
theorem HasL.two{K:c6v}{H:Hp}{vs:List V}{d d':D}(h:HasL K H vs [d,d']):∃ v v',vs=[v,v']∧Has K H v d∧Has K H v' d':=by
 cases h with
 | cons r rr=>cases rr with|cons r2 rr=>cases rr;exact⟨_,_,rfl,r,r2⟩
noncomputable def c2e:DRC:=fun ds M R=>∃ i:Int,ds=[.int i]∧R (.int (i.natAbs:Int)) M
theorem a0y:a1z X (.builtin "abs") c2e:=C5.imp b5c (by
 rintro xs H Q ⟨ds,M,R,hl,am,⟨i,z,r⟩,f⟩
 subst z
 obtain⟨v,rfl,h⟩:=hl.one
 cases h
 have e:(if i<0 then -i else i)=(i.natAbs:Int):=by split<;>omega
 exact⟨i,rfl,by rw[e];exact f _ M r _ H (KT.refl H) am (.int _)⟩)
noncomputable def c2a:DRC:=fun ds M R=>∃ i j:Int,ds=[.int i,.int j]∧R (.int (max i j)) M
theorem b8W(hc:X.calm=true):a1z X (.builtin "max") c2a:=C5.imp (b2d hc) (by
 rintro xs H Q ⟨ds,M,R,hl,am,⟨i,j,z,r⟩,f⟩
 subst z
 obtain⟨v,v',rfl,h,h'⟩:=hl.two
 cases h;cases h'
 have e:(if j > i then j else i)=max i j:=by
  rw[Int.max_def];split<;>split<;>omega
 exact⟨i,j,rfl,by rw[e];exact f _ M r _ H (KT.refl H) am (.int _)⟩)
noncomputable def b4j(M:Mem):D→Option Nat
 | .tup ds=>some ds.length
 | .ref p=>match M p with
  | some (.lst ds)=>some ds.length
  | _=>none
 | .vl ds=>some ds.length
 | _=>none
noncomputable def b1V:DRC:=fun ds M R=>∃ d n,ds=[d]∧b4j M d=some n∧R (.int (n:Int)) M
theorem C3:a1z X (.builtin "len") b1V:=C5.imp a64 (by
 rintro xs H Q ⟨ds,M,R,hl,am,⟨d,n,z,hn,r⟩,f⟩
 subst z
 obtain⟨v,rfl,h⟩:=hl.one
 cases d with
 | tup es =>
  cases h with
  | tup s l =>
   cases hn
   exact⟨_,_,rfl,.inr s,by rw[l.length];exact f _ M r _ H (KT.refl H) am (.int _)⟩
 | ref p =>
  cases h
  unfold b4j at hn
  cases q:M p with
  | none=>simp[q]at hn
  | some o =>
   cases o with
   | lst es =>
    simp only[q]at hn
    cases hn
    obtain⟨ys,hy,l⟩:=am.lst q
    exact⟨p,ys,rfl,.inl (SqL.of hy),by rw[l.length];exact f _ M r _ H (KT.refl H) am (.int _)⟩
 | vl es =>
  cases hn
  obtain⟨a,xs,rfl,sq,l⟩:=h.il
  exact⟨a,_,rfl,.inl sq,by rw[l.length];exact f _ M r _ H (KT.refl H) am (.int _)⟩
 | _=>cases hn)
end
end DL
namespace DL
open PySem PySem.Spec L2
open PyProof.Rows hiding St
theorem O9:bootBuiltins "abs" = some (.builtin "abs"):=by decide +kernel
theorem b5f:bootBuiltins "max" = some (.builtin "max"):=by decide +kernel
theorem y4:bootBuiltins "len" = some (.builtin "len"):=by decide +kernel
theorem o7:bootBuiltins "isinstance" = some (.builtin "isinstance"):=by decide +kernel
theorem a9R:bootBuiltins "int" = some (.type "int"):=by decide +kernel
theorem a2J:bootBuiltins "bool" = some (.type "bool"):=by decide +kernel
theorem F5:bootBuiltins "tuple" = some (.type "tuple"):=by decide +kernel
theorem T3:bootBuiltins "list" = some (.type "list"):=by decide +kernel
theorem X4:bootBuiltins "reversed" = some (.type "reversed"):=by decide +kernel
section
variable {X:Cx} {a b c:Expr} {ta tb tc:DTE} {pos:Pos}
theorem b6X:OpR X (binaryOp .Mult) (rI IntMulOk fun i j=>.int (i*j)):=opI fun _ _ _ _ _ _ _ hc q=>mul_int q hc
noncomputable def CFd(i j:Int):Prop:=j≠0∧j.natAbs.log2<9000
theorem b3W:OpR X (binaryOp .FloorDiv) (rI CFd fun i j=>.int (i.fdiv j)):=opI fun _ _ _ _ _ _ _ hc q=>floordiv_int hc.1 q (.inl (PyProof.noPylong_of_log2 hc.2))
theorem i8:DOp X (binaryOp .Mult) (gI IntMulOk fun i j=>.int (i*j)):=b1c b6X fun _ _ _=>.int _
theorem E6:DOp X (binaryOp .FloorDiv) (gI CFd fun i j=>.int (i.fdiv j)):=b1c b3W fun _ _ _=>.int _
noncomputable def ixD(M:Mem):D→D→Option D
 | .tup ds,.int i=>atI ds i
 | .ref p,.int i=>match M p with
  | some (.lst ds)=>atI ds i
  | _=>none
 | .vl ds,.int i=>atI ds i
 | _,_=>none
noncomputable def gIx:DR2:=fun x y M R=>∃ z,ixD M x y=some z∧R z M
theorem IxR.or'{r r':R2}(h:IxR X r)(h':IxR X r'){g:R2}(i:∀ x y H Q,g x y H Q→r x y H Q∨r' x y H Q):IxR X g:=IxR.imp (IxR.or h h') i
theorem c1U:DIx X gIx:=IxR.or' c0f b7l (by
 rintro x y H Q ⟨dx,dy,M,R,hx,hy,am,⟨z,e,r⟩,f⟩
 cases dy with
 | int i =>
  cases hy
  cases dx with
  | tup ds =>
   cases hx with
   | tup s l =>
    obtain⟨v,h1,h2⟩:=l.at (show atI ds i=some z from e)
    exact .inl ⟨_,_,i,v,rfl,rfl,s,h1,f z M r v H (KT.refl H) am h2⟩
  | ref p =>
   cases hx
   unfold ixD at e
   cases q:M p with
   | none=>simp[q]at e
   | some o =>
    cases o with
    | lst ds =>
     simp only[q]at e
     obtain⟨xs,h1,h2⟩:=am.lst q
     obtain⟨v,h3,h4⟩:=h2.at e
     exact .inr ⟨_,_,i,v,rfl,rfl,SqL.of h1,h3,f z M r v H (KT.refl H) am h4⟩
  | vl ds =>
   obtain⟨a,xs,rfl,sq,l⟩:=hx.il
   obtain⟨v,h1,h2⟩:=l.at (show atI ds i=some z from e)
   exact .inr ⟨_,_,i,v,rfl,rfl,sq,h1,f z M r v H (KT.refl H) am h2⟩
  | _=>simp[ixD]at e
 | _=>cases dx<;>simp[ixD]at e)
theorem N3{M:Mem}{p:Addr}{ds:List D}{i:Int}{z:D}(m:M p=some (.lst ds))(h:atI ds i=some z):ixD M (.ref p) (.int i)=some z:=by
 unfold ixD;simp only[m];exact h
noncomputable def isD:D→D→Option Bool
 | .bl a,.bl b=>some (a == b)
 | .non,.non=>some true
 | .bl _,.non=>some false
 | .int _,.non=>some false
 | .str _,.non=>some false
 | .ref _,.non=>some false
 | .tup _,.non=>some false
 | .vl _,.non=>some false
 | _,_=>none
theorem a5H{x y:D}{b:Bool}(h:isD x y=some b):(∃ p q,x = .bl p∧y = .bl q∧b=(p == q))∨(y = .non∧((x = .non∧b=true)∨(x ≠ .non∧b=false))):=by
 cases x<;>cases y<;>simp[isD]at h<;>simp[h]
theorem b04{K:c6v}{H:Hp}{v:V}{x:D}(h:Has K H v x)(n:x ≠ .non):v ≠ .non:=by
 intro e;subst e;cases h;exact n rfl
noncomputable def gIs(neg:Bool):DR2:=fun x y M R=>∃ b,isD x y=some b∧R (.bl (neg.xor b)) M
theorem b1L:DOp X (compareOp .Is) (gIs false):=by
 intro pins s σ H x y v u Q I rx ry h
 obtain⟨dx,dy,M,R,hx,hy,am,⟨b,e,r⟩,f⟩:=h
 have fin:EP X pins σ Q (.bool b) s:=⟨.bl b,H,I,rfl,by have:=f _ M r (.bl b) H (KT.refl H) am (by simpa using Has.bl (K:=X.K) (H:=H) b);exact this⟩
 rcases a5H e with⟨p,q,rfl,rfl,rfl⟩|⟨rfl,hx'⟩
 ·cases hx;cases hy;cases rx;cases ry
  exact is_bool fin
 ·cases hy;cases ry
  refine is_none_gen ?_
  rw[u0.none_iff rx]
  rcases hx' with⟨rfl,rfl⟩|⟨n,rfl⟩
  ·cases hx;exact fin
  ·rw[decide_eq_false (b04 hx n)];exact fin
theorem b0Z:DOp X (compareOp .IsNot) (gIs true):=by
 intro pins s σ H x y v u Q I rx ry h
 obtain⟨dx,dy,M,R,hx,hy,am,⟨b,e,r⟩,f⟩:=h
 have fin:EP X pins σ Q (.bool (!b)) s:=⟨.bl (!b),H,I,rfl,by have:=f _ M r (.bl (!b)) H (KT.refl H) am (by simpa using Has.bl (K:=X.K) (H:=H) (!b));exact this⟩
 rcases a5H e with⟨p,q,rfl,rfl,rfl⟩|⟨rfl,hx'⟩
 ·cases hx;cases hy;cases rx;cases ry
  exact isnot_bool fin
 ·cases hy;cases ry
  refine isnot_none_gen ?_
  rw[u0.none_iff rx]
  rcases hx' with⟨rfl,rfl⟩|⟨n,rfl⟩
  ·cases hx;exact fin
  ·rw[decide_eq_false (b04 hx n)];exact fin
mutual
inductive PyR (M:Mem):D→PyData→Prop
 | non:PyR M .non .none
 | bl (b:Bool):PyR M (.bl b) (.bool b)
 | int (i:Int):PyR M (.int i) (.int i)
 | str (x:Str):PyR M (.str x) (.str x)
 | tup {ds:List D} {ps:List PyData}:PyRL M ds ps→PyR M (.tup ds) (.tuple ps)
 | lst {p:Addr} {ds:List D} {ps:List PyData}:M p=some (.lst ds)→PyRL M ds ps→PyR M (.ref p) (.list ps)
 | vl {ds:List D} {ps:List PyData}:PyRL M ds ps→PyR M (.vl ds) (.list ps)
inductive PyRL (M:Mem):List D→List PyData→Prop
 | nil:PyRL M [] []
 | cons {d:D} {p:PyData} {ds:List D} {ps:List PyData}:PyR M d p→PyRL M ds ps→PyRL M (d :: ds) (p :: ps)
end
mutual
theorem W4{pins:List (Addr × Obj)}{s:Shared}{σ:St}{H:Hp}{M:Mem}(I:Inv X pins σ H s)(am:u6 X.K H M):∀{d:D} {p:PyData},PyR M d p→∀{v:V} {u:Value},Has X.K H v d→u0 v u→∃ as,Reads s.heap u p as
 | _,_,.non,_,_,h,r=>by cases h;cases r;exact⟨_,.none⟩
 | _,_,.bl b,_,_,h,r=>by cases h;cases r;exact⟨_,.bool b⟩
 | _,_,.int i,_,_,h,r=>by cases h;obtain⟨t,rfl⟩:=r;exact⟨_,.int i t⟩
 | _,_,.str x,_,_,h,r=>by cases h;obtain⟨t,rfl⟩:=r;exact⟨_,.str x t⟩
 | _,_,.tup l,_,_,h,r=>by
  cases h with
  | tup s' hl =>
   cases r
   obtain⟨its,rv,⟨o,e,hc,n,hd⟩,_⟩:=I.tuple s'
   obtain⟨as,ra⟩:=readsL_of I am l hl rv
   exact⟨as,.tuple e hc hd (by simpa using ra)⟩
 | _,_,.lst m l,_,_,h,r=>by
  cases h
  cases r
  obtain⟨xs,hx,hl⟩:=am.lst m
  obtain⟨its,rv,⟨o,n,e,hc,_,hd⟩,_⟩:=I.list (SqL.of hx)
  obtain⟨as,ra⟩:=readsL_of I am l hl rv
  exact⟨_,.list e hc hd (by simpa using ra)⟩
 | _,_,.vl l,_,_,h,r=>by
  obtain⟨a,xs,rfl,sq,hl⟩:=h.il
  cases r
  obtain⟨its,rv,⟨o,n,e,hc,_,hd⟩,_⟩:=I.list sq
  obtain⟨as,ra⟩:=readsL_of I am l hl rv
  exact⟨_,.list e hc hd (by simpa using ra)⟩
theorem readsL_of{pins:List (Addr × Obj)}{s:Shared}{σ:St}{H:Hp}{M:Mem}(I:Inv X pins σ H s)(am:u6 X.K H M):∀{ds:List D} {ps:List PyData},PyRL M ds ps→∀{vs:List V} {us:List Value},HasL X.K H vs ds→o8 vs us→∃ as,ReadsAll s.heap us ps as
 | _,_,.nil,_,_,h,r=>by cases h;cases r;exact⟨_,.nil⟩
 | _,_,.cons a l,_,_,h,r=>by
  cases h with
  | cons h hl =>
   cases r with
   | cons r rl =>
    obtain⟨as,q⟩:=W4 I am a h r
    obtain⟨bs,q2⟩:=readsL_of I am l hl rl
    exact⟨_,.cons q q2⟩
end
noncomputable def gEq(neg:Bool):DR2:=fun x y M R=>∃ px py,PyR M x px∧PyR M y py∧SeqAt.shaped px=true∧SeqAt.shaped py=true∧R (.bl (neg.xor (PyData.eqv px py))) M
theorem c3e(hu:X.A.units+64<cLine):DOp X (compareOp .Eq) (gEq false):=by
 intro pins s σ H x y v u Q I rx ry h
 obtain⟨dx,dy,M,R,hx,hy,am,⟨px,py,p1,p2,s1,s2,r⟩,f⟩:=h
 obtain⟨as,r1⟩:=W4 I am p1 hx rx
 obtain⟨bs,r2⟩:=W4 I am p2 hy ry
 exact eq_dataH r1 r2 s1 s2 hu ⟨.bl _,H,I,rfl,by have:=f _ M r _ H (KT.refl H) am (.bl _);simpa using this⟩
theorem c3c(hu:X.A.units+64<cLine):DOp X (compareOp .NotEq) (gEq true):=by
 intro pins s σ H x y v u Q I rx ry h
 obtain⟨dx,dy,M,R,hx,hy,am,⟨px,py,p1,p2,s1,s2,r⟩,f⟩:=h
 obtain⟨as,r1⟩:=W4 I am p1 hx rx
 obtain⟨bs,r2⟩:=W4 I am p2 hy ry
 exact ne_dataH r1 r2 s1 s2 hu ⟨.bl _,H,I,rfl,by have:=f _ M r _ H (KT.refl H) am (.bl _);simpa using this⟩
mutual
noncomputable def pyD:D→PyData
 | .int i=>.int i
 | .str x=>.str x
 | .bl b=>.bool b
 | .tup ds=>.tuple (pyDL ds)
 | .vl ds=>.list (pyDL ds)
 | _=>.none
noncomputable def pyDL:List D→List PyData
 | []=>[]
 | d :: r=>pyD d :: pyDL r
end
mutual
noncomputable def cl:Nat→D→Bool
 | _,.int _=>true
 | _,.non=>true
 | _,.str x=>PyData.canLay0 (.str x)
 | k+1,.tup ds=>clL k ds
 | k+1,.vl ds=>clL k ds
 | _,_=>false
noncomputable def clL:Nat→List D→Bool
 | _,[]=>true
 | k,d :: r=>cl k d && clL k r
end
mutual
theorem b4Z{M:Mem}:∀{k:Nat} {d:D},cl k d=true→PyR M d (pyD d)∧(pyD d).canLay0=true∧(pyD d).depth≤k
 | _,.int i,_=>⟨.int i,rfl,c7m _⟩
 | _,.non,_=>⟨.non,rfl,c7m _⟩
 | 0,.tup ds,h=>by simp[cl]at h
 | k+1,.tup ds,h=>by
  obtain⟨a,b,c⟩:=clL_py (M:=M) (k:=k) (ds:=ds) (by simpa[cl]using h)
  exact⟨.tup a,by simpa[pyD,PyData.canLay0]using b,by simp only[pyD,PyData.depth];omega⟩
 | _,.str x,h=>⟨.str x,by simpa[cl,pyD]using h,c7m _⟩
 | _,.bl _,h=>by simp[cl]at h
 | _,.ref _,h=>by simp[cl]at h
 | 0,.vl ds,h=>by simp[cl]at h
 | k+1,.vl ds,h=>by
  obtain⟨a,b,c⟩:=clL_py (M:=M) (k:=k) (ds:=ds) (by simpa[cl]using h)
  exact⟨.vl a,by simpa[pyD,PyData.canLay0]using b,by simp only[pyD,PyData.depth];omega⟩
 | _,.ty _,h=>by simp[cl]at h
theorem clL_py{M:Mem}:∀{k:Nat} {ds:List D},clL k ds=true→PyRL M ds (pyDL ds)∧PyData.canLayAll0 (pyDL ds)=true∧PyData.depthAll (pyDL ds)≤k
 | _,[],_=>⟨.nil,rfl,c7m _⟩
 | k,d :: r,h=>by
  have h':cl k d=true∧clL k r=true:=by simpa[clL]using h
  obtain⟨a,b,c⟩:=b4Z (M:=M) h'.1
  obtain⟨a2,b2,c2⟩:=clL_py (M:=M) h'.2
  exact⟨.cons a a2,by simp[pyDL,PyData.canLayAll0,b,b2],by simp only[pyDL,PyData.depthAll];omega⟩
end
mutual
theorem b5a:∀{k j:Nat} {x y:D},cl k x=true→cl j y=true→(PyData.eqv (pyD x) (pyD y)=true↔x=y)
 | _,_,.int i,.int j,_,_=>by simp[pyD,PyData.eqv]
 | _,_,.int i,.non,_,_=>by simp[pyD,PyData.eqv]
 | _,_,.non,.int i,_,_=>by simp[pyD,PyData.eqv]
 | _,_,.non,.non,_,_=>by simp[pyD,PyData.eqv]
 | _,_,.int i,.tup ds,_,_=>by simp[pyD,PyData.eqv]
 | _,_,.non,.tup ds,_,_=>by simp[pyD,PyData.eqv]
 | _,_,.tup ds,.int i,_,_=>by simp[pyD,PyData.eqv]
 | _,_,.tup ds,.non,_,_=>by simp[pyD,PyData.eqv]
 | k+1,j+1,.tup ds,.tup es,h,h'=>by
  have:=clL_eqv (k:=k) (j:=j) (xs:=ds) (ys:=es) (by simpa[cl]using h) (by simpa[cl]using h')
  simp only[pyD,PyData.eqv,D.tup.injEq]
  exact this
 | 0,_,.tup ds,.tup es,h,_=>by simp[cl]at h
 | _,0,.tup ds,.tup es,_,h=>by simp[cl]at h
 | _,_,.str x,.str y,_,_=>by simp[pyD,PyData.eqv]
 | _,_,.str x,.int i,_,_=>by simp[pyD,PyData.eqv]
 | _,_,.str x,.non,_,_=>by simp[pyD,PyData.eqv]
 | _,_,.str x,.tup ds,_,_=>by simp[pyD,PyData.eqv]
 | _,_,.int i,.str x,_,_=>by simp[pyD,PyData.eqv]
 | _,_,.non,.str x,_,_=>by simp[pyD,PyData.eqv]
 | _,_,.tup ds,.str x,_,_=>by simp[pyD,PyData.eqv]
 | k+1,j+1,.vl ds,.vl es,h,h'=>by
  have:=clL_eqv (k:=k) (j:=j) (xs:=ds) (ys:=es) (by simpa[cl]using h) (by simpa[cl]using h')
  simp only[pyD,PyData.eqv,D.vl.injEq]
  exact this
 | 0,_,.vl ds,.vl es,h,_=>by simp[cl]at h
 | _,0,.vl ds,.vl es,_,h=>by simp[cl]at h
 | _,_,.vl ds,.int i,_,_=>by simp[pyD,PyData.eqv]
 | _,_,.vl ds,.non,_,_=>by simp[pyD,PyData.eqv]
 | _,_,.vl ds,.str x,_,_=>by simp[pyD,PyData.eqv]
 | _,_,.vl ds,.tup es,_,_=>by simp[pyD,PyData.eqv]
 | _,_,.int i,.vl ds,_,_=>by simp[pyD,PyData.eqv]
 | _,_,.non,.vl ds,_,_=>by simp[pyD,PyData.eqv]
 | _,_,.str x,.vl ds,_,_=>by simp[pyD,PyData.eqv]
 | _,_,.tup es,.vl ds,_,_=>by simp[pyD,PyData.eqv]
 | _,_,.bl _,_,h,_=>by simp[cl]at h
 | _,_,.ref _,_,h,_=>by simp[cl]at h
 | _,_,.ty _,_,h,_=>by simp[cl]at h
 | _,_,_,.bl _,_,h=>by simp[cl]at h
 | _,_,_,.ref _,_,h=>by simp[cl]at h
 | _,_,_,.ty _,_,h=>by simp[cl]at h
theorem clL_eqv:∀{k j:Nat} {xs ys:List D},clL k xs=true→clL j ys=true→(PyData.eqvAll (pyDL xs) (pyDL ys)=true↔xs=ys)
 | _,_,[],[],_,_=>by simp[pyDL,PyData.eqvAll]
 | _,_,[],_ :: _,_,_=>by simp[pyDL,PyData.eqvAll]
 | _,_,_ :: _,[],_,_=>by simp[pyDL,PyData.eqvAll]
 | k,j,x :: xs,y :: ys,h,h'=>by
  have h1:cl k x=true∧clL k xs=true:=by simpa[clL]using h
  have h2:cl j y=true∧clL j ys=true:=by simpa[clL]using h'
  have e1:=b5a h1.1 h2.1
  have e2:=clL_eqv h1.2 h2.2
  simp only[pyDL,PyData.eqvAll,c8u,e1,e2,List.cons.injEq]
end
open Classical in
theorem b4E{neg:Bool}{x y:D}{M:Mem}{R:DK}(h:R (.bl (neg.xor (decide (x=y)))) M)(hx:cl 60 x=true:=by rfl)(hy:cl 60 y=true:=by rfl):gEq neg x y M R:=by
 obtain⟨a,b,c⟩:=b4Z (M:=M) hx
 obtain⟨a2,b2,c2⟩:=b4Z (M:=M) hy
 refine⟨_,_,a,a2,?_,?_,?_⟩
 ·simp only[SeqAt.shaped,b,c8Z];exact decide_eq_true (by omega)
 ·simp only[SeqAt.shaped,b2,c8Z];exact decide_eq_true (by omega)
 ·have e:PyData.eqv (pyD x) (pyD y)=decide (x=y):=by
   have:=b5a hx hy
   by_cases q:x=y
   ·rw[decide_eq_true q];exact this.mpr q
   ·rw[decide_eq_false q]
    cases z:PyData.eqv (pyD x) (pyD y)with
    | false=>rfl
    | true=>exact absurd (this.mp z) q
  rw[e];exact h
noncomputable def tyD(M:Mem):D→Option String
 | .non=>some "NoneType"
 | .bl _=>some "bool"
 | .int _=>some "int"
 | .str _=>some "str"
 | .tup _=>some "tuple"
 | .ref p=>match M p with
  | some (.lst _)=>some "list"
  | _=>none
 | .vl _=>some "list"
 | .ty _=>none
 | .dic=>some "dict"
noncomputable def b6p(t T:String):Option Bool:=if t=T then some true else
 match t,T with
 | "bool","int" => some true
 | _,_=>if (t∈["NoneType","bool","int","str","tuple","list","dict"])∧(T∈["bool","int","str","tuple","list"])then some false else none
noncomputable def b5l(K:c6v):Prop:=∀ t T b,b6p t T=some b→PySem.W.kitOne K (.type t) (.type T)=some b
theorem N2{x:Str}{n:String}(hg:Gl X x)(hm:X.mg x=none)(hv:bootBuiltins x=some (.type n))(hn:x ≠ "__name__" := by decide)(hd:(x == ("__debug__" : Str))=false:=by decide):JE X (.Name x pos) (dC (.ty n)):=⟨a0f (v:=.ty n) (b6U hg hm hv rfl hn hd) fun _=>.ty n⟩
noncomputable def C4:DRC:=fun ds M R=>∃ d t T b,ds=[d,.ty T]∧tyD M d=some t∧b6p t T=some b∧R (.bl b) M
theorem N5(hk:b5l X.K):a1z X (.builtin "isinstance") C4:=by
 intro pins s σ H xs us Q I rv h
 obtain⟨ds,M,R,hl,am,⟨d,t,T,b,rfl,ht,hb,r⟩,f⟩:=h
 obtain⟨v,v',rfl,h1,h2⟩:=hl.two
 cases h2
 obtain⟨u,w',rfl,r1,r2⟩:=b3j rv
 cases(show w'=Value.type T from r2)
 have e:=hk t T b hb
 have fin:∀ tk,EP X pins σ Q (.bool b) { s with toks:=tk }:=fun tk=>⟨.bl b,H,I.tok tk,rfl,f _ M r _ H (KT.refl H) am (.bl b)⟩
 cases h1 with
 | non=>cases ht;exact P6 I r1 .non e fin
 | bl q=>cases ht;exact P6 I r1 (.bl q) e fin
 | int q=>cases ht;exact P6 I r1 (.int q) e fin
 | str q=>cases ht;exact P6 I r1 (.str q) e fin
 | ty q=>cases ht
 | ref p =>
  unfold tyD at ht
  cases q:M p with
  | none=>simp[q]at ht
  | some o =>
   cases o with
   | lst es =>
    simp only[q]at ht
    cases ht
    obtain⟨ys,hy,_⟩:=am.lst q
    exact P6 I r1 (.lst hy) e fin
 | tup s' l =>
  cases ht
  cases(show u=Value.ref _ from r1)
  obtain⟨its,_,⟨o,h1,h2,_⟩,_⟩:=I.tuple s'
  exact PySem.W.kia_one PySem.W.kitx_tuple I.kIn ⟨o,h1,h2⟩ e (fun z=>nomatch z) fin
 | vl hq hl' =>
  cases ht
  cases(show u=Value.ref _ from r1)
  obtain⟨_,_,ea,sq,_⟩:=Has.il (.vl hq hl')
  cases ea
  obtain⟨its,_,⟨o,n,h1,h2,_⟩,_⟩:=I.list sq
  exact PySem.W.kia_one PySem.W.kitx_list I.kIn ⟨o,h1,h2⟩ e (fun z=>nomatch z) fin
 | dic hq =>
  cases ht
  cases(show u=Value.ref _ from r1)
  obtain⟨o,g1,g2⟩:=hq
  exact PySem.W.kia_one PySem.W.kitx_dict I.kIn ⟨o,(I.hok _ _ g1).1,g2⟩ e (fun z=>nomatch z) fin
theorem b7g:MtR X "int.bit_length" (fun x xs H Q=>∃ i,x = .int i∧xs=[]∧Q (.int (Builtin.Int.intBits i:Nat)) H):=by
 intro pins s σ H x xs v us Q I rx rv h
 obtain⟨i,rfl,rfl,q⟩:=h
 cases rv
 obtain⟨t,rfl⟩:=rx
 exact call_int_bit_length ⟨.int _,H,I.tok _,⟨_,rfl⟩,q⟩
end
end DL
namespace DL
open PySem PySem.Spec L2
open PyProof.Rows hiding St
section
variable {X:Cx} {a b c:Expr} {ta tb tc:DTE} {pos:Pos}
noncomputable def Y0:DXK:=fun _ _=>False
theorem c3q{K:c6v}{H:Hp}{E:XK}:c0I K H Y0 E:=fun _ _ h=>h.elim
structure b7J(K:c6v)(x:Str)(st:Stmt)(f:Addr)(fd:FuncData):Prop where
 ex:∃(oc:Value) (od:Option Addr) (dV kV doc pm:Value) (an:Option Addr) (cdv ct:Value) (osl:Array (Option Value)),
  fd=PySem.W.fnOf x x (T0 st) (K1 st) (e8 st) dV kV doc pm an cdv ct∧K.lookup f=some ⟨oc,od,.func fd,osl⟩∧PySem.W.codeIn K cdv x=true
 kp:PySem.W.keepIn K (.ref f)=true
structure Df(K:c6v)(mg:Str→Option Value)(x:Str)(st:Stmt)(ps:List Str):Prop where
 ex:∃(f:Addr) (fd:FuncData),b7J K x st f fd∧mg x=some (.ref f)∧a4c K fd ps []
structure DfL(K:c6v)(mg:Str→Option Value)(x:Str)(st:Stmt)(ps:List Str):Prop where
 ex:∃(f:Addr) (fd:FuncData),b7J K x st f fd∧mg x=some (.ref f)∧∀ us:List Value,us.length=ps.length→bindArgs fd ⟨us,[]⟩=pure (ps.zip us)
structure Fn(P:Program)(w:World)(K:c6v)(mg:Str→Option Value)(base:Heap)(x:Str)(k:Nat)(ps:List Str)(sp:DSp):Prop where
 ex:∃(f:Addr) (fd:FuncData),U2 P w K mg base CX0 k f fd ps (a7L K sp)∧mg x=some (.ref f)∧PySem.W.keepIn K (.ref f)=true∧a4c K fd ps []
theorem b4r{x:Str}{j:Nat}{ps:List Str}{sp:DSp}{p:Pos}{e:Expr}{es:List Expr}{t:DTA}(G:Fn X.prog X.w X.K X.mg X.base x j ps sp)(hr:J7 j X.A)(hg:Gl X x)(ha:JA X (e :: es) t)
  (hdb:(x == ("__debug__" : Str))=false:=by decide) (he:starEach (e :: es) X.env=(false,eval e X.env) :: starEach es X.env:=by rfl) (hpl:(backTo pos (starEach es X.env)).any (·.1)=false:=by rfl):JE X (.Call (.Name x p) (e :: es) [] pos) (b1i sp [] Y0 t):=⟨have ha:=ha.out;by
 obtain⟨f,fd,F,hm,hk,hb⟩:=G.ex
 exact c0u F hr hg hm hk hb .nil (fun _=>.nil) c1E (fun _=>c3q) ha hdb he hpl⟩
end
section
variable {P:Program} {w:World} {K:c6v} {mg:Str→Option Value} {base:Heap}
theorem b8E{x:Str}{st:Stmt}{f:Addr}{fd:FuncData}{N ps:List Str}{k:Nat}{sp:DSp}(F:b7J K x st f fd)(S:f8 N ps (e8 st))(len:∀ ds M R Y,sp ds M R Y→ds.length=ps.length)
  (hbody:∀(cdv:Value) (A:Around) (outer:List Env) (s:Shared) (H:Hp) (E:XK) (ds:List D) (M:Mem) (R:DK) (Y:DXK),J7 k (A.deeper (envOfC x (e8 st) s.heap.objs.size f cdv))→sp ds M R Y →
   ∃ t,JSs (a9O CX0 P w K mg base N x (e8 st) f cdv A outer s H E).nox (K1 st) t∧t { nx:=fun _ M'=>R .non M',rt:=R } (a0Q N ds) M):U2 P w K mg base CX0 (k+1) f fd ps (a7L K sp):=by
 obtain⟨oc,od,dV,kV,doc,pm,an,cdv,ct,osl,rfl,lk,hcd⟩:=F.ex
 refine c2f lk hcd S (fun vs H Q E ⟨ds,M,R,Y,hl,_,hs,_,_⟩=>by rw[hl.length];exact len ds M R Y hs) fun A outer s H vs Q E hr zz=>?_
 obtain⟨ds,M,R,Y,hl,am,hs,fv,fx⟩:=zz
 obtain⟨t,h1,h2⟩:=hbody cdv A outer s H E ds M R Y hr hs
 refine⟨_,h1.out.nox,a0Q N ds,M,_,B7.start0 hl,am,h2,⟨?_,fv,fun _ _ h=>h.elim,fun _ _ h=>h.elim⟩⟩
 exact fun e M' h σ' H' kt a o=>fv .non M' h .non H' kt a .non
theorem h7{x:Str}{st:Stmt}{N ps:List Str}{k:Nat}{sp:DSp}(d:Df K mg x st ps)(S:f8 N ps (e8 st))(len:∀ ds M R Y,sp ds M R Y→ds.length=ps.length)
  (hbody:∀(f:Addr) (cdv:Value) (A:Around) (outer:List Env) (s:Shared) (H:Hp) (E:XK) (ds:List D) (M:Mem) (R:DK) (Y:DXK),J7 k (A.deeper (envOfC x (e8 st) s.heap.objs.size f cdv))→sp ds M R Y →
   ∃ t,JSs (a9O CX0 P w K mg base N x (e8 st) f cdv A outer s H E).nox (K1 st) t∧t { nx:=fun _ M'=>R .non M',rt:=R } (a0Q N ds) M):Fn P w K mg base x (k+1) ps sp:=by
 obtain⟨f,fd,F,hm,hb⟩:=d.ex
 exact⟨f,fd,b8E F S len (hbody f),hm,F.kp,hb⟩
theorem i5{x:Str}{st:Stmt}{ps:List Str}{h:Heap}{f:Addr}{oc:Value}{od an:Option Addr}{osl:Array (Option Value)}{dV kV doc pm cdv ct:Value}(X:K.In h)(G:h.Ns mainGlobals mg)
  (n:PySem.W.nsIn K mainGlobals x=some (some (.ref f)))
  (l:K.lookup f=some ⟨oc,od,.func (PySem.W.fnOf x x (T0 st) (K1 st) (e8 st) dV kV doc pm an cdv ct),osl⟩)
  (c:PySem.W.codeIn K cdv x=true) (k:PySem.W.keepIn K (.ref f)=true)
  (hb:∀ us:List Value,us.length=ps.length→bindArgs (PySem.W.fnOf x x (T0 st) (K1 st) (e8 st) dV kV doc pm an cdv ct) ⟨us,[]⟩=pure (ps.zip us)):Df K mg x st ps :=
 ⟨f,_,⟨⟨oc,od,dV,kV,doc,pm,an,cdv,ct,osl,rfl,l,c⟩,k⟩,PySem.W.mg_of X G n,.all hb⟩
theorem c0q{x:Str}{st:Stmt}{ps:List Str}{h:Heap}{f:Addr}{oc:Value}{od an:Option Addr}{osl:Array (Option Value)}{dV kV doc pm cdv ct:Value}(X:K.In h)(G:h.Ns mainGlobals mg)
  (n:PySem.W.nsIn K mainGlobals x=some (some (.ref f)))
  (l:K.lookup f=some ⟨oc,od,.func (PySem.W.fnOf x x (T0 st) (K1 st) (e8 st) dV kV doc pm an cdv ct),osl⟩)
  (c:PySem.W.codeIn K cdv x=true) (k:PySem.W.keepIn K (.ref f)=true)
  (hb:∀ us:List Value,us.length=ps.length→bindArgs (PySem.W.fnOf x x (T0 st) (K1 st) (e8 st) dV kV doc pm an cdv ct) ⟨us,[]⟩=pure (ps.zip us)):DfL K mg x st ps :=
 ⟨f,_,⟨⟨oc,od,dV,kV,doc,pm,an,cdv,ct,osl,rfl,l,c⟩,k⟩,PySem.W.mg_of X G n,hb⟩
theorem c0r{x:Str}{st:Stmt}{ps:List Str}{h:Heap}{f:Addr}{oc:Value}{od an:Option Addr}{osl:Array (Option Value)}{dV kV doc pm cdv ct:Value}(X:K.In h)(G:h.Ns mainGlobals mg)
  (n:PySem.W.nsIn K mainGlobals x=some (some (.ref f)))
  (l:K.lookup f=some ⟨oc,od,.func (PySem.W.fnOf x x (T0 st) (K1 st) (e8 st) dV kV doc pm an cdv ct),osl⟩)
  (c:PySem.W.codeIn K cdv x=true) (k:PySem.W.keepIn K (.ref f)=true)
  (hb:∀ us:List Value,us.length=ps.length→∀ S,PySem.W.peek K S (bindArgs (PySem.W.fnOf x x (T0 st) (K1 st) (e8 st) dV kV doc pm an cdv ct) ⟨us,[]⟩)=some (ps.zip us)):Df K mg x st ps :=
 ⟨f,_,⟨⟨oc,od,dV,kV,doc,pm,an,cdv,ct,osl,rfl,l,c⟩,k⟩,PySem.W.mg_of X G n,fun s us X' hl=>by rw[c7G]at hl ⊢;exact PySem.W.kp_binds X' (hb us hl)⟩
end
section
variable {X:Cx} {x:Str} {p pos:Pos} {e:Expr} {es:List Expr} {t:DTA} {id T:String} {o:Expr} {to:DTE} {a b c:Expr} {ta tb tc:DTE}
theorem i4{g:DRC}(hc:a1z X (.builtin id) g)(hg:Gl X x)(hm:X.mg x=none)(hv:bootBuiltins x=some (.builtin id))(ha:JA X (e :: es) t)
  (hn:x ≠ "__name__" := by decide) (hdb:(x == ("__debug__" : Str))=false:=by decide) (he:starEach (e :: es) X.env=(false,eval e X.env) :: starEach es X.env:=by rfl) (hpl:(backTo pos (starEach es X.env)).any (·.1)=false:=by rfl):JE X (.Call (.Name x p) (e :: es) [] pos) (dCB g t):=⟨have ha:=ha.out;(b3T hc hg hm hv ha hn hdb he hpl).imp fun _ _ _ h=>b8V h⟩
theorem a2G{g:DRC}(hc:a1z X (.type T) g)(hg:Gl X x)(hm:X.mg x=none)(hv:bootBuiltins x=some (.type T))(ha:JA X (e :: es) t)
  (hn:x ≠ "__name__" := by decide) (hdb:(x == ("__debug__" : Str))=false:=by decide) (he:starEach (e :: es) X.env=(false,eval e X.env) :: starEach es X.env:=by rfl) (hpl:(backTo pos (starEach es X.env)).any (·.1)=false:=by rfl):JE X (.Call (.Name x p) (e :: es) [] pos) (dCB g t):=⟨have ha:=ha.out;(P5 hc hg hm hv ha hn hdb he hpl).imp fun _ _ _ h=>b8V h⟩
noncomputable def c2c:D→Mem→DK→Prop:=fun x M R=>∃ i,x = .int i∧R (.int (Builtin.Int.intBits i:Nat)) M
theorem b7k{apos cpos:Pos}(ho:JE X o to)(hbase:attributeBase o "bit_length" X.env (eval o X.env)=eval o X.env:=by rfl)(hline:(apos.endLine == cpos.line)=true:=by rfl):JE X (.Call (.Attribute o "bit_length" apos) [] [] cpos) (dUn c2c to):=⟨have ho:=ho.out;(b9U PySem.F.plainAttrs_int PySem.F.slot_int_bit_length PySem.F.type_int_bit_length b7g ho hbase hline).imp (by rintro σ H Q ⟨e,M,R,ok,am,t,f⟩;exact⟨e,M,_,ok,am,t,fun x M1 ⟨i,z,r⟩ v H1 k1 a1 r1=>by
  subst z;cases r1;exact⟨rfl,i,rfl,rfl,f _ M1 r _ H1 k1 a1 (.int _)⟩⟩)⟩
theorem b0Y:OpR X (binaryOp .Add) (fun x y H Q=>∃ l b xs zs,x = .ref l∧y = .ref b∧SqL X.K H l xs∧SqL X.K H b zs∧xs.length+zs.length≤sizeLine∧∀ p,H p=none→Q (.ref p) (upd H p (.lst (xs++zs)))):=by
 intro pins s σ H x y v u Q I rx ry h
 obtain⟨l,b,xs,zs,rfl,rfl,hH,hB,hz,q⟩:=h
 cases rx
 cases ry
 obtain⟨its,r,pl,z1⟩:=I.list hH
 obtain⟨its2,r2,pl2,z2⟩:=I.list hB
 have hl:=r.length
 have hl2:=r2.length
 obtain⟨⟨cls,dd,data,sl⟩,ho,hc,n,hd⟩:=pl.isList
 obtain⟨⟨cls2,dd2,data2,sl2⟩,ho2,hc2,n2,hd2⟩:=pl2.isList
 simp only at hc hd hc2 hd2
 subst hc hd hc2 hd2
 have ea:its.toArray++its2.toArray=(its++its2).toArray:=by simp
 refine concat_meets ⟨_,ho,rfl⟩ ⟨_,ho2,rfl⟩ noFill_list_add seq_list_add PySem.F.slot_list_add PySem.F.entry_list_add (PySem.F.args_list_add_2 _ _) (list_addW l b its.toArray its2.toArray n n2 dd dd2 sl sl2 (by simp only[c6L];omega)) ⟨ho,ho2,?_⟩
 rw[ea]
 exact⟨.ref _,_,I.lnew (t':=s.toks) (r.append r2) (by rw[c6H];omega),rfl,q _ I.fresh⟩
noncomputable def G2(M:Mem):D→Option (List D)
 | .ref p=>match M p with
  | some (.lst ds)=>some ds
  | _=>none
 | .vl ds=>some ds
 | _=>none
theorem D2{K:c6v}{H:Hp}{M:Mem}{v:V}{d:D}{ds:List D}(am:u6 K H M)(h:Has K H v d)(e:G2 M d=some ds):∃ a xs,v = .ref a∧SqL K H a xs∧HasL K H xs ds:=by
 cases h with
 | ref p =>
  unfold G2 at e
  cases q:M p with
  | none=>simp[q]at e
  | some o =>
   cases o with
   | lst es =>
    simp only[q]at e
    cases e
    obtain⟨xs,hx,l⟩:=am.lst q
    exact⟨p,xs,rfl,SqL.of hx,l⟩
 | vl hq hl =>
  cases e
  exact Has.il (.vl hq hl)
 | _=>cases e
noncomputable def b8C:DR2:=fun x y M R=>∃ xs ys,G2 M x=some xs∧G2 M y=some ys∧xs.length+ys.length≤sizeLine∧∀ p,M p=none→R (.ref p) (A7 M p (.lst (xs++ys)))
theorem b4d:DOp X (binaryOp .Add) b8C:=OpR.imp b0Y (by
 rintro x y H Q ⟨dx,dy,M,R,hx,hy,am,⟨xs,ys,e1,e2,hz,r⟩,f⟩
 obtain⟨a,vs,rfl,s1,l1⟩:=D2 am hx e1
 obtain⟨b,ws,rfl,s2,l2⟩:=D2 am hy e2
 refine⟨a,b,vs,ws,rfl,rfl,s1,s2,by rw[l1.length,l2.length];exact hz,fun p hp=>?_⟩
 exact f _ _ (r p (am.fresh hp)) _ _ (KT.alloc hp) (am.new hp (l1.append l2)) (.ref p))
end
end DL
namespace DL
open PySem PySem.Spec L2
open PyProof.Rows hiding St
end DL
namespace DL
open PySem PySem.Spec L2
open PyProof.Rows hiding St
theorem sl(n:Nat)(h:n≤1000:=by decide):n≤sizeLine:=c6D h (by decide)
section
variable {X:Cx}
open Classical in
noncomputable def c0m(neg:Bool):DR2:=fun x y M R=>cl 60 x=true∧cl 60 y=true∧R (.bl (neg.xor (decide (x=y)))) M
theorem p9(hu:X.A.units+64<cLine):DOp X (compareOp .Eq) (c0m false):=OpR.imp (c3e hu) (by rintro _ _ _ _ ⟨dx,dy,M,R,hx,hy,am,⟨h1,h2,h3⟩,f⟩;exact⟨dx,dy,M,R,hx,hy,am,b4E h3 h1 h2,f⟩)
theorem a0v(hu:X.A.units+64<cLine):DOp X (compareOp .NotEq) (c0m true):=OpR.imp (c3c hu) (by rintro _ _ _ _ ⟨dx,dy,M,R,hx,hy,am,⟨h1,h2,h3⟩,f⟩;exact⟨dx,dy,M,R,hx,hy,am,b4E h3 h1 h2,f⟩)
theorem G8:DOp X (compareOp .Eq) (gF (fI fun i j=>.bl (decide (i=j)))):=OpR.imp b8x (by
 rintro x y H Q ⟨dx,dy,M,R,hx,hy,am,⟨z,e,r⟩,f⟩
 obtain⟨i,j,e1,e2,e3⟩:=a6Y e
 subst e1;subst e2;subst e3
 cases hx;cases hy
 refine⟨rfl,?_⟩
 have e:decide (V.int i=V.int j)=decide (i=j):=by simp
 rw[e]
 exact f _ M r _ H (KT.refl H) am (.bl _))
theorem a0u:DOp X (compareOp .NotEq) (gF (fI fun i j=>.bl (!decide (i=j)))):=OpR.imp b3V (by
 rintro x y H Q ⟨dx,dy,M,R,hx,hy,am,⟨z,e,r⟩,f⟩
 obtain⟨i,j,e1,e2,e3⟩:=a6Y e
 subst e1;subst e2;subst e3
 cases hx;cases hy
 refine⟨rfl,?_⟩
 have e:decide (V.int i=V.int j)=decide (i=j):=by simp
 rw[e]
 exact f _ M r _ H (KT.refl H) am (.bl _))
end
theorem b1R{c:Prop}[Decidable c]{A B:Prop}(h1:c→A)(h2:¬ c→B):if decide c=true then A else B:=by
 by_cases h:c
 ·rw[if_pos (decide_eq_true h)];exact h1 h
 ·rw[if_neg (by rw[decide_eq_false h];exact c6S)];exact h2 h
theorem b4s{c:Prop}[Decidable c]{A B:Prop}(h1:¬ c→A)(h2:c→B):if (!decide c)=true then A else B:=by
 by_cases h:c
 ·rw[decide_eq_true h];rw[if_neg (by decide)];exact h2 h
 ·rw[decide_eq_false h];rw[if_pos (by decide)];exact h1 h
theorem E7{n k:Nat}(h:n<2 ^ k)(hk:0<k):n.log2<k:=by
 rcases c8i n with h0|h0
 ·subst h0;rw[Nat.log2_zero];exact hk
 ·exact(c8X (c9l.mp h0)).mpr h
theorem p7{a b:Int}(m n:Nat)(ha:a.natAbs<2 ^ m)(hb:b.natAbs<2 ^ n)(h:m+n≤100000):IntMulOk a b:=by
 have hx:∀(x:Int) (k:Nat),x.natAbs<2 ^ k→Builtin.Int.intBits x≤k:=fun x k hx=>by
  unfold Builtin.Int.intBits
  split
  ·exact c7m _
  ·rename_i h0
   have:x.natAbs≠0:=by
    intro z;apply h0
    first|exact(by simpa using Int.natAbs_eq_zero.mp z)|(simp;omega)
   have:=(c8X this).mpr hx
   omega
 exact PySem.IntMulOk.of_le (hx a m ha) (hx b n hb) (by omega)
end DL
namespace DL
open PySem PySem.Spec L2
open PyProof.Rows hiding St
noncomputable def c3g(t T:String):Option Bool:=if PySem.W.kitMeta T=true then(fastBuiltinMro t).map (·.contains (.type T))else none
theorem c1s(K:c6v):b5l K:=by
 intro t T b h
 unfold b6p at h
 by_cases e:t=T
 ·subst e
  rw[if_pos rfl]at h
  cases h
  unfold PySem.W.kitOne
  rw[if_pos (beq_self_eq_true _)]
 ·rw[if_neg e]at h
  have hne:¬ (Value.type t == Value.type T)=true:=fun z=>e (by have:=eq_of_beq z;injection this)
  unfold PySem.W.kitOne
  rw[if_neg hne]
  show c3g t T=some b
  split at h
  ·cases h;decide +kernel
  ·split at h
   ·rename_i hh
    obtain⟨ht,hT⟩:=hh
    simp only[c6M,c6Q,or_false]at ht hT
    cases h
    rcases ht with rfl|rfl|rfl|rfl|rfl|rfl|rfl<;>rcases hT with rfl|rfl|rfl|rfl|rfl<;>first|exact absurd rfl e|decide +kernel|(exfalso;simp_all)
   ·cases h
theorem a9J{K:c6v}{H:Hp}{a:Addr}{ns:List Int}(hO:b2h H)(hS:SqL K H a (ns.map V.int)):Has K H (.ref a) (.vl (ns.map D.int)):=by
 rcases hS with(h|⟨o,h⟩)|h
 ·rcases hO a with z|⟨o,xs,z⟩
  ·rw[z]at h;cases h
  ·rw[z]at h;cases h
 ·exact .vl (.inl ⟨o,h⟩) (HasL.ints ns)
 ·exact .vl (.inr fun _=>.inr h) (HasL.ints ns)
theorem b99{K:c6v}{H:Hp}{a:Addr}{ns:List Int}{sp:DSp}(hO:b2h H)(hS:SqL K H a (ns.map V.int))(h:sp [.vl (ns.map D.int)] (fun _=>none) (fun d _=>d = .bl true) Y0) :
  a7L K sp [.ref a] H (fun v _=>v = .bl true) (fun _ _ _=>False) :=
 ⟨[.vl (ns.map D.int)],fun _=>none,fun d _=>d = .bl true,Y0,.cons (a9J hO hS) .nil,fun _ _ z=>(by cases z),h,fun d M' e v H' _ _ hv=>by subst e;cases hv;rfl,fun _ _ z=>z.elim⟩
end DL
namespace DL
open PySem PySem.Spec L2
open PyProof.Rows hiding St
section
variable {X:Cx} {o e:Expr} {es:List Expr} {to:DTE} {t:DTA} {name:Str} {apos cpos:Pos} {id:String}
noncomputable abbrev DRM:=D→List D→Mem→DK→Prop
noncomputable def upM(K:c6v)(g:DRM):V→List V→Hp→VK→Prop:=fun x xs H Q=>∃ dx ds M R,Has K H x dx∧HasL K H xs ds∧u6 K H M∧g dx ds M R∧a39 K H R Q
noncomputable def DMt(X:Cx)(id:String)(g:DRM):Prop:=MtR X id (upM X.K g)
theorem MtR.imp{r r':V→List V→Hp→VK→Prop}(h:MtR X id r)(i:∀ x xs H Q,r' x xs H Q→r x xs H Q):MtR X id r':=fun pins s σ H x xs v us Q I rx rv q=>h pins s σ H x xs v us Q I rx rv (i x xs H Q q)
noncomputable def dLM(g:DRM)(to:DTE)(t:DTA):DTE:=fun e M R=>to e M fun x M1=>(∃ l ds,x = .ref l∧M1 l=some (.lst ds))∧t e M1 fun xs M2=>g x xs M2 R
theorem X0{g:DRM}(slot:Slot "list" name id)(hty:typeOf (.builtin id)=pure (.type "method_descriptor"))(hm:DMt X id g)(ho:JE X o to)(ha:JA X (e :: es) t)
  (hbase:attributeBase o name X.env (eval o X.env)=eval o X.env:=by rfl)
  (hfew:((backTo cpos (starEach (e :: es) X.env)).all (fun x=>!x.1) && (backToKw cpos (keywordEach [] X.env)).all (fun x=>x.1.isSome)
   && decide ((e :: es).length+([]:List Keyword).length+(if ([]:List Keyword).isEmpty then 0 else 1)<30))=true:=by rfl)
  (hline:(apos.endLine == cpos.line)=true:=by rfl) (hs:starEach (e :: es) X.env=(false,eval e X.env) :: starEach es X.env:=by rfl) (hplain:(backTo cpos (starEach es X.env)).any (·.1)=false:=by rfl):JE X (.Call (.Attribute o name apos) (e :: es) [] cpos) (dLM g to t):=⟨have ho:=ho.out;have ha:=ha.out;(c1C PySem.F.plainAttrs_list slot hty hm ho ha hbase hfew hline hs hplain).imp (by rintro σ H Q ⟨e,M,R,ok,am,t,f⟩;exact⟨e,M,_,ok,am,t,fun x M1 ⟨⟨l,ds,z,hM⟩,h1⟩ v H1 k1 a1 r1=>by
  subst z
  have r1':=r1
  cases r1
  obtain⟨xs,hx,_⟩:=a1.lst hM
  refine⟨.inl ⟨rfl,xs,SqL.of hx⟩,e,M1,_,ok.mono k1,a1,h1,fun zs M2 h2 vs H2 k2 a2 r2=>?_⟩
  exact⟨_,zs,M2,R,r1'.mono k2,r2,a2,h2,f.mono (k1.trans k2)⟩⟩)⟩
theorem a3f:∀{bs:List Bool} {us:List Value},o8 (bs.map V.bl) us→us=bs.map Value.bool
 | [],_,r=>by cases r;rfl
 | b :: bs,_,r=>by
  cases r with
  | cons r rr =>
   cases(show _=Value.bool b from r)
   rw[a3f rr];rfl
theorem HasL.bools{K:c6v}{H:Hp}:∀{bs:List Bool} {vs:List V},HasL K H vs (bs.map D.bl)→vs=bs.map V.bl
 | [],_,r=>by cases r;rfl
 | b :: bs,_,r=>by
  cases r with
  | cons r rr=>cases r;rw[HasL.bools rr];rfl
noncomputable def fB(f:Bool→Bool→D):D→D→Option D
 | .bl i,.bl j=>some (f i j)
 | _,_=>none
theorem b7x{f:Bool→Bool→D}{x y z:D}(h:fB f x y=some z):∃ i j,x = .bl i∧y = .bl j∧z=f i j:=by
 cases x with
 | bl i =>
  cases y with
  | bl j=>exact⟨i,j,rfl,rfl,(Option.some.inj h).symm⟩
  | _=>cases h
 | _=>cases h
theorem c1K:DOp X (compareOp .NotEq) (gF (fB fun i j=>.bl (!(i == j)))):=OpR.imp b3V (by
 rintro x y H Q ⟨dx,dy,M,R,hx,hy,am,⟨z,e,r⟩,f⟩
 obtain⟨i,j,e1,e2,e3⟩:=b7x e
 subst e1;subst e2;subst e3
 cases hx;cases hy
 exact⟨rfl,by rw[a9L];exact f _ M r _ H (KT.refl H) am (.bl _)⟩)
end
end DL
namespace DL
open PySem PySem.Spec L2
open PyProof.Rows hiding St
section
variable {X:Cx}
noncomputable def b8A:DRC:=fun ds M R=>∃ x ys,ds=[x]∧G2 M x=some ys∧R (.tup ys) M
theorem b5e:a1z X (.type "tuple") b8A:=C5.imp a4M (by
 rintro xs H Q ⟨ds,M,R,hl,am,⟨x,ys,z,e,r⟩,f⟩
 subst z
 obtain⟨v,rfl,hv⟩:=hl.one
 obtain⟨a,vs,rfl,s,l⟩:=D2 am hv e
 exact⟨a,vs,rfl,.inl ⟨s,fun p hp=>f _ M r _ _ (KT.alloc hp) (am.alloc hp) (.tup (SqT.of i9) (l.mono (KT.alloc hp)))⟩⟩)
end
end DL
namespace DL
open PySem PySem.Spec L2
open PyProof.Rows hiding St
section
variable {X:Cx} {st:Stmt} {J4:List Stmt} {t u:DTS}
noncomputable def b8K(t u:DTS):DTS:=fun F e M=>∃ P:Ev→Mem→Prop,t { F with nx:=P } e M∧∀ e' M',P e' M'→u F e' M'
theorem C6(h1:JS X st t)(h2:JSs X J4 u):JSs X (st :: J4) (b8K t u):=⟨have h1:=h1.out;have h2:=h2.out;(a75 h1 h2).imp (by rintro E σ H ⟨e,M,F,ok,am,⟨P,t,hP⟩,f⟩;exact⟨e,M,{ F with nx:=P },ok,am,t,⟨fun e' M' h σ' H' k a o=>⟨e',M',F,o,a,hP e' M' h,f.mono k⟩,f.rt,f.bk,f.ct⟩⟩)⟩
end
section
variable {X:Cx}
theorem b1F(bs:List Bool):(c7U bs.length).all (fun i=>bs.getD i true)=bs.all id:=by
 have:(c7U bs.length).map (fun i=>bs.getD i true)=bs:=by
  apply c8v (by simp)
  intro i h1 h2
  simp[c78,h2]
 conv=>rhs;rw[← this]
 rw[List.all_map];rfl
theorem a7M{prog:Program}{w:World}{A:Around}(bs:List Bool):TruthOf prog w A (fun i v=>(bs.map Value.bool).toArray[i]? = some v) (fun i=>bs.getD i true):=by
 intro i v s Q E h q
 have h':(bs.map Value.bool)[i]? = some v:=by simpa using h
 rw[c6K]at h'
 cases e:bs[i]? with
 | none=>rw[e]at h';cases h'
 | some b =>
  rw[e]at h'
  cases h'
  have q':Q b s:=by simpa[c78,e]using q
  exact wpAny_truthy_bool q'
theorem b2e(hc:X.calm=true):C5 X (.builtin "all") (fun xs H Q=>∃(l:Addr) (bs:List Bool),xs=[.ref l]∧SqL X.K H l (bs.map V.bl)∧Q (.bl (bs.all id)) H):=by
 intro pins s σ H xs us Q I r h
 obtain⟨l,bs,rfl,hS,q⟩:=h
 obtain⟨u,rfl,ru⟩:=a12 r
 cases ru
 obtain⟨its,rv,p,_⟩:=I.list hS
 have hb:=a3f rv
 subst hb
 have hl:s.heap.IsList l (bs.map Value.bool).toArray:=p.isList
 have hne:l≠s.heap.objs.size:=by
  obtain⟨o,e,_⟩:=id hl
  exact c7h (c6I e)
 refine call_all_walk (wpAny_pyIter_list hl ?_)
 refine⟨s.heap.objs.size,_,_,_,_,_,fun i=>bs.getD i true,rfl,Walks.list (A:=X.A.in1) (I.ok.hd hc) s.heap.objs.size l hne (bs.map Value.bool).toArray,⟨⟨_,c6G _ rfl,rfl,rfl⟩,hl.at fun o e=>c6y _ e⟩,a7M bs,fun h' tk kk=>?_⟩
 have e:(c7U (bs.map Value.bool).toArray.size).all (fun i=>bs.getD i true)=bs.all id:=by
  rw[show(bs.map Value.bool).toArray.size=bs.length by simp];exact b1F bs
 rw[e]
 exact⟨.bl (bs.all id),H,I.kept fun b o z=>kk b o (by simp;exact c7h (c6I z)) (c6y _ z),rfl,q⟩
noncomputable def c2d:DRC:=fun ds M R=>∃(d:D) (bs:List Bool),ds=[d]∧G2 M d=some (bs.map D.bl)∧R (.bl (bs.all id)) M
theorem c2w(hc:X.calm=true):a1z X (.builtin "all") c2d:=C5.imp (b2e hc) (by
 rintro xs H Q ⟨ds,M,R,hl,am,⟨d,bs,z,hM,r⟩,f⟩
 subst z
 obtain⟨v,rfl,hv⟩:=hl.one
 obtain⟨a,vs,rfl,s,l⟩:=D2 am hv hM
 rw[l.bools]at s
 exact⟨a,bs,rfl,s,f _ M r _ H (KT.refl H) am (.bl _)⟩)
end
theorem c0w:bootBuiltins "all" = some (.builtin "all"):=by decide +kernel
structure GlD(K:c6v)(mg:Str→Option Value)(x:Str)(d:D):Prop where
 ex:∃(v:V) (u:Value),mg x=some u∧u0 v u∧c2C K v d
theorem j9{X:Cx}{x:Str}{d:D}{pos:Pos}(hg:Gl X x)(g:GlD X.K X.mg x d)(hd:(x == ("__debug__" : Str))=false:=by decide):JE X (.Name x pos) (dC d):=⟨by
 obtain⟨v,u,h1,h2,h3⟩:=g.ex
 exact c0t hg h1 h2 h3 hd⟩
theorem a2H{K:c6v}{mg:Str→Option Value}{h:Heap}{x:Str}{a:Addr}{od:Option Addr}{osl:Array (Option Value)}{i j:Int}{t u:Tok}{cap:Nat}(X:K.In h)(G:h.Ns mainGlobals mg)
  (n:PySem.W.nsIn K mainGlobals x=some (some (.ref a))) (l:K.lookup a=some ⟨.type "tuple",od,.seq #[.int i t,.int j u] cap,osl⟩):GlD K mg x (.tup [.int i,.int j]) :=
 ⟨.ref a,.ref a,PySem.W.mg_of X G n,rfl,fun H=>.tup (xs:=[.int i,.int j]) (.inr ⟨_,_,_,l,rfl,rfl,(show 2≤sizeLine by decide),.cons (show u0 (.int i) (.int i t)from⟨t,rfl⟩) (.cons (show u0 (.int j) (.int j u)from⟨u,rfl⟩) .nil)⟩) (.cons (.int i) (.cons (.int j) .nil))⟩
noncomputable def fS(f:Str→Str→D):D→D→Option D
 | .str i,.str j=>some (f i j)
 | _,_=>none
theorem b1b{f:Str→Str→D}{x y z:D}(h:fS f x y=some z):∃ i j,x = .str i∧y = .str j∧z=f i j:=by
 cases x with
 | str i =>
  cases y with
  | str j=>exact⟨i,j,rfl,rfl,(Option.some.inj h).symm⟩
  | _=>cases h
 | _=>cases h
section
variable {X:Cx}
theorem C2:DOp X (compareOp .Eq) (gF (fS fun i j=>.bl (decide (i=j)))):=OpR.imp b8x (by
 rintro x y H Q ⟨dx,dy,M,R,hx,hy,am,⟨z,e,r⟩,f⟩
 obtain⟨i,j,e1,e2,e3⟩:=b1b e
 subst e1;subst e2;subst e3
 cases hx;cases hy
 refine⟨rfl,?_⟩
 have e:decide (V.str i=V.str j)=decide (i=j):=by simp
 rw[e]
 exact f _ M r _ H (KT.refl H) am (.bl _))
theorem a5C:DOp X (compareOp .NotEq) (gF (fS fun i j=>.bl (!decide (i=j)))):=OpR.imp b3V (by
 rintro x y H Q ⟨dx,dy,M,R,hx,hy,am,⟨z,e,r⟩,f⟩
 obtain⟨i,j,e1,e2,e3⟩:=b1b e
 subst e1;subst e2;subst e3
 cases hx;cases hy
 refine⟨rfl,?_⟩
 have e:decide (V.str i=V.str j)=decide (i=j):=by simp
 rw[e]
 exact f _ M r _ H (KT.refl H) am (.bl _))
end
end DL
namespace DL
open PySem PySem.Spec L2
open PyProof.Rows hiding St
structure a4Q(K:c6v)(H1:Hp)(J:It)(ds:List D)(stay:Mem→Prop):Prop where
 go:∀ i H' M',i<ds.length→KT H1 H'→u6 K H' M'→stay M'→J.go i H'
 yld:∀ i H' M' x H'',i<ds.length→KT H1 H'→u6 K H' M'→stay M'→J.yld i H' x H''→∃ d,ds[i]? = some d∧KT H' H''∧u6 K H'' M'∧Has K H'' x d
 stop:∀ i H' M',ds.length≤i→KT H1 H'→u6 K H' M'→stay M'→J.stop i H'
 up:∀ M' p o,stay M'→M' p=none→stay (A7 M' p o)
noncomputable def upI(K:c6v)(ti:DTI):TI:=fun σ H R=>∃ e M R',B7 K H σ e∧u6 K H M∧ti e M R'∧∀ ds stay M1,R' ds stay M1→∀ H1,KT H H1→u6 K H1 M1→∀ J,a4Q K H1 J ds stay→R J H1
noncomputable def DPI(X:Cx)(tg iter:Expr)(ti:DTI):Prop:=PI X tg iter (upI X.K ti)
structure JI(X:Cx)(tg iter:Expr)(ti:DTI):Prop where
 out:DPI X tg iter ti
theorem PI.imp{X:Cx}{tg iter:Expr}{wi wi':TI}(h:PI X tg iter wi)(i:∀ σ H R,wi' σ H R→wi σ H R):PI X tg iter wi':=fun pins s σ H R I q=>h pins s σ H R I (i σ H R q)
section
variable {X:Cx} {tg iter:Expr} {ti:DTE} {ta:DTA}
theorem b3g{K:c6v}{H1:Hp}{a:Addr}{xs:List V}{ds:List D}(s:SqT K H1 a xs)(l:HasL K H1 xs ds):a4Q K H1 (Itt K a) ds (fun _=>True) where
 go:=fun i H' M' hi k _ _=>⟨xs,_,k.sq s,c7c (by rw[l.length];exact hi)⟩
 yld:=fun i H' M' x H'' hi k am _ zz=>by
  obtain⟨e,y⟩:=zz
  subst e
  obtain⟨d,hd,r⟩:=l.getV (y xs (k.sq s))
  exact⟨d,hd,KT.refl _,am,r.mono k⟩
 stop:=fun i H' M' hi k _ _=>⟨xs,k.sq s,by rw[l.length];exact hi⟩
 up:=fun _ _ _ _ _=>trivial
theorem b3i{K:c6v}{H1:Hp}{p:Addr}{ds:List D}:a4Q K H1 (Itl K p) ds (fun M'=>M' p=some (.lst ds)) where
 go:=fun i H' M' hi k am st=>by
  obtain⟨ys,hy,ly⟩:=am.lst st
  exact⟨ys,_,SqL.of hy,c7c (by rw[ly.length];exact hi)⟩
 yld:=fun i H' M' x H'' hi k am st zz=>by
  obtain⟨e,y⟩:=zz
  subst e
  obtain⟨ys,hy,ly⟩:=am.lst st
  obtain⟨d,hd,r⟩:=ly.getV (y ys (SqL.of hy))
  exact⟨d,hd,KT.refl _,am,r⟩
 stop:=fun i H' M' hi k am st=>by
  obtain⟨ys,hy,ly⟩:=am.lst st
  exact⟨ys,SqL.of hy,by rw[ly.length];exact hi⟩
 up:=fun M' q o st hq=>by rw[A0 (by intro e;subst e;rw[hq]at st;cases st)];exact st
theorem a7K{K:c6v}{H1:Hp}{lo:Int}{n:Nat}:a4Q K H1 (Itr lo n) (J5 lo n) (fun _=>True) where
 go:=fun i H' M' hi k am st=>by rw[o6]at hi;exact hi
 yld:=fun i H' M' x H'' hi k am st zz=>by
  obtain⟨e,y⟩:=zz
  subst e;subst y
  rw[o6]at hi
  exact⟨_,a3I hi,KT.refl _,am,.int _⟩
 stop:=fun i H' M' hi k am st=>by rw[o6]at hi;exact hi
 up:=fun _ _ _ _ _=>trivial
theorem Z8{a:Expr}{p p2:Pos}(hr:Gl X "range")(hm:X.mg "range" = none)(ha:JA X [a] ta)(hs0:starEach [a] X.env=[(false,eval a X.env)]:=by rfl):JI X tg (.Call (.Name "range" p) [a] [] p2) (b8H ta):=⟨have ha:=ha.out;PI.imp (b1I hr hm ha hs0) (by rintro σ H R ⟨e,M,R',ok,am,t,f⟩;exact⟨e,M,_,ok,am,t,fun ds M1 ⟨j,z,b1,b2,r⟩ vs H1 k1 a1 r1=>by
  subst z
  obtain⟨v,rfl,hv⟩:=r1.one
  cases hv
  exact⟨j,rfl,b1,b2,f _ _ M1 r H1 k1 a1 _ a7K⟩⟩)⟩
theorem b4n{a b:Expr}{p p2:Pos}(hr:Gl X "range")(hm:X.mg "range" = none)(ha:JA X [a,b] ta)(hs0:starEach [a,b] X.env=[(false,eval a X.env),(false,eval b X.env)]:=by rfl)(hs1:starEach [b] X.env=[(false,eval b X.env)]:=by rfl):JI X tg (.Call (.Name "range" p) [a,b] [] p2) (b4N ta):=⟨have ha:=ha.out;PI.imp (b1H hr hm ha hs0 hs1) (by rintro σ H R ⟨e,M,R',ok,am,t,f⟩;exact⟨e,M,_,ok,am,t,fun ds M1 ⟨i,j,z,b1,r⟩ vs H1 k1 a1 r1=>by
  subst z
  cases r1 with
  | cons h1 r1 =>
   obtain⟨v,rfl,hv⟩:=r1.one
   cases h1
   cases hv
   exact⟨i,j,rfl,b1,f _ _ M1 r H1 k1 a1 _ a7K⟩⟩)⟩
noncomputable def C0(M:Mem)(x:D)(ds:List D):Prop:=x = .tup ds∨(∃ p,x = .ref p∧M p=some (.lst ds))∨x = .vl ds
noncomputable def a30:D→Bool
 | .tup _=>false
 | _=>true
theorem B1{K:c6v}{H:Hp}{M:Mem}{v:V}{x:D}{ds:List D}(h:C0 M x ds)(am:u6 K H M)(r:Has K H v x):∃ a xs,v = .ref a∧SqK K (a30 x) H a xs∧HasL K H xs ds:=by
 rcases h with rfl|⟨p,rfl,m⟩|rfl
 rotate_left 2
 ·obtain⟨a,xs,e,sq,l⟩:=r.il
  exact⟨a,xs,e,sq,l⟩
 ·cases r with
  | tup s l=>exact⟨_,_,rfl,s,l⟩
 ·cases r
  obtain⟨xs,hx,l⟩:=am.lst m
  exact⟨p,xs,rfl,SqL.of hx,l⟩
theorem X8{M:Mem}{x:D}{ds:List D}{q:Addr}{o:MO}(h:C0 M x ds)(hq:M q=none):C0 (A7 M q o) x ds:=by
 rcases h with h|⟨p,e,h⟩|h
 ·exact .inl h
 ·exact .inr (.inl ⟨p,e,by rw[A0 (by intro e;subst e;rw[hq]at h;cases h)];exact h⟩)
 ·exact .inr (.inr h)
noncomputable def T9(ds es:List D):List D:=List.zipWith (fun a b=>.tup [a,b]) ds es
theorem L9(ds es:List D):(T9 ds es).length=min ds.length es.length:=by simp[T9]
theorem b2j{ds es:List D}{i:Nat}{a b:D}(h1:ds[i]? = some a)(h2:es[i]? = some b):(T9 ds es)[i]? = some (.tup [a,b]):=by
 unfold T9
 rw[c7S,h1,h2]
theorem b3f{K:c6v}{H1:Hp}{x y:D}{l1 l2:Addr}{ds es:List D}(h1:Has K H1 (.ref l1) x)(h2:Has K H1 (.ref l2) y) :
  a4Q K H1 (Itz K (a30 x) (a30 y) l1 l2) (T9 ds es) (fun M'=>C0 M' x ds∧C0 M' y es) where
 go:=fun i H' M' hi k am zz=>by
  obtain⟨s1,s2⟩:=zz
  rw[L9]at hi
  obtain⟨a,xs,e1,q1,m1⟩:=B1 s1 am (h1.mono k)
  obtain⟨b,ys,e2,q2,m2⟩:=B1 s2 am (h2.mono k)
  cases e1;cases e2
  exact⟨xs,ys,_,_,q1,q2,c7c (by rw[m1.length];omega),c7c (by rw[m2.length];omega)⟩
 yld:=fun i H' M' v H'' hi k am ⟨s1,s2⟩ ⟨T,a,b,hT,ev,eH,u1,u2⟩=>by
  subst ev;subst eH
  obtain⟨a',xs,e1,q1,m1⟩:=B1 s1 am (h1.mono k)
  obtain⟨b',ys,e2,q2,m2⟩:=B1 s2 am (h2.mono k)
  cases e1;cases e2
  obtain⟨d1,g1,r1⟩:=m1.getV (u1 xs q1)
  obtain⟨d2,g2,r2⟩:=m2.getV (u2 ys q2)
  have kt:KT H' (upd H' T (.tup [a,b])):=KT.alloc hT
  exact⟨_,b2j g1 g2,kt,am.alloc hT,.tup (SqT.of i9) (.cons (r1.mono kt) (.cons (r2.mono kt) .nil))⟩
 stop:=fun i H' M' hi k am zz=>by
  obtain⟨s1,s2⟩:=zz
  rw[L9]at hi
  obtain⟨a,xs,e1,q1,m1⟩:=B1 s1 am (h1.mono k)
  obtain⟨b,ys,e2,q2,m2⟩:=B1 s2 am (h2.mono k)
  cases e1;cases e2
  refine⟨xs,ys,q1,q2,?_⟩
  rw[m1.length,m2.length]
  omega
 up:=fun _ _ _ st hq=>⟨X8 st.1 hq,X8 st.2 hq⟩
noncomputable def b8F(ta:DTA):DTI:=fun e M R=>ta e M fun xs M1=>∃ x y ds es,xs=[x,y]∧C0 M1 x ds∧C0 M1 y es∧R (T9 ds es) (fun M'=>C0 M' x ds∧C0 M' y es) M1
theorem a2F{elts:List Expr}{kx:Nat}{tp:Pos}{a b:Expr}{p pos:Pos}(hg:Gl X "zip")(hm:X.mg "zip" = none)(ha:JA X [a,b] ta)
  (hs:starEach [a,b] X.env=[(false,eval a X.env),(false,eval b X.env)]:=by rfl) (hs2:starEach [b] X.env=[(false,eval b X.env)]:=by rfl):JI X (.Tuple elts kx tp) (.Call (.Name "zip" p) [a,b] [] pos) (b8F ta):=⟨have ha:=ha.out;PI.imp (b9I hg hm ha hs hs2) (by rintro σ H R ⟨e,M,R',ok,am,t,f⟩;exact⟨e,M,_,ok,am,t,fun xs M1 ⟨x,y,ds,es,z,s1,s2,r⟩ vs H1 k1 a1 r1=>by
  subst z
  obtain⟨v,v',rfl,hv,hv'⟩:=r1.two
  obtain⟨a,zs,rfl,q1,m1⟩:=B1 s1 a1 hv
  obtain⟨b,ws,rfl,q2,m2⟩:=B1 s2 a1 hv'
  exact⟨_,_,a,b,rfl,⟨zs,q1⟩,⟨ws,q2⟩,f _ _ M1 r H1 k1 a1 _ (b3f hv hv')⟩⟩)⟩
end
section
variable {X:Cx} {tg iter:Expr} {body:List Stmt} {ti:DTI} {g:DTG} {tb:DTS} {pos:Pos}
theorem v6(hp:PassesOwn (model X.prog X.w) X.A X.env X.xe)(hc:X.calm=true)(hi:JI X tg iter ti)(hg:JG X tg g)(hb:JSs X body tb)
  (hs:∀ x,foldedSetIterable iter X.env x=pure x:=by intro _;rfl):JS X (.For tg iter body [] pos) (c2q ti g tb):=⟨have hi:=hi.out;have hg:=hg.out;have hb:=hb.out;(b9G hp hc hi hg hb hs).imp (by rintro E σ H ⟨e,M,F,ok,am,t,f⟩;exact⟨e,M,_,ok,am,t,fun ds stay M1 ⟨W,w0,hst,step,done⟩ H1 k1 a1 J wk=>by
  refine⟨fun i m σ' H'=>m=ds.length - i∧i≤ds.length∧∃ e' M',KT H1 H'∧B7 X.K H' σ' e'∧u6 X.K H' M'∧W i e' M',⟨ds.length,by simp,c7m _,e,M1,KT.refl H1,ok.mono k1,a1,w0⟩,?_⟩
  rintro i m σ2 H2 ⟨rfl,hi,e2,M2,k2,ok2,a2,w2⟩
  have st:=hst i e2 M2 hi w2
  by_cases hlt:i<ds.length
  ·refine .inr ⟨wk.go i H2 M2 hlt k2 a2 st,fun σ' H'=>∃ e' M',KT H1 H'∧B7 X.K H' σ' e'∧u6 X.K H' M'∧W (i+1) e' M',fun σ' H' h=>⟨ds.length - (i+1),by omega,rfl,hlt,h⟩,fun y H' yl=>?_⟩
   obtain⟨d,hd,k3,a3,r⟩:=wk.yld i H2 M2 y H' hlt k2 a2 st yl
   exact b4F f k1 (k2.trans k3) (ok2.mono k3) a3 r (step i d e2 M2 hd w2)
  ·have e':i=ds.length:=by omega
   subst e'
   exact .inl ⟨wk.stop _ H2 M2 (c6U _) k2 a2 st,f.nx e2 M2 (done e2 M2 w2) σ2 H2 (k1.trans k2) a2 ok2⟩⟩)⟩
end
noncomputable def a4L(n:Nat)(caps:List Nat)(e:Ev):Ev:=c7b n none++caps.map fun i=>(e[i]?).getD none
theorem b7y{K:c6v}{H:Hp}{σ:St}{e:Ev}(n:Nat)(caps:List Nat)(ok:B7 K H σ e):B7 K H (a63 n caps σ) (a4L n caps e):=by
 refine⟨by simp[a63,a4L],fun i d h=>?_⟩
 unfold a4L at h
 unfold a63
 rw[c8x]at h ⊢
 rw[c8r]at h ⊢
 by_cases hi:i<n
 ·rw[if_pos hi]at h
  rw[c7N]at h
  split at h<;>cases h
 ·rw[if_neg hi]at h ⊢
  rw[c6K]at h ⊢
  cases hj:caps[i - n]? with
  | none=>rw[hj]at h;cases h
  | some j =>
   rw[hj]at h
   have h':(e[j]?).getD none=some d:=by simpa using h
   have he:e[j]? = some (some d):=by
    cases q:e[j]? with
    | none=>rw[q]at h';cases h'
    | some z=>rw[q]at h';rw[show z=some d by simpa using h']
   obtain⟨v,h1,h2⟩:=ok.has j d he
   exact⟨v,by simp[h1],h2⟩
theorem a0r{p:Str→Prop}{a:Str}(h:p a):∀ x∈[a],p x:=fun x hx=>by
 simp only[c6M,c6Q,or_false]at hx
 subst hx;exact h
theorem b7F{p:Str→Prop}{a b:Str}(h:p a)(h2:p b):∀ x∈[a,b],p x:=fun x hx=>by
 simp only[c6M,c6Q,or_false]at hx
 rcases hx with rfl|rfl
 ·exact h
 ·exact h2
end DL
namespace DL
open PySem PySem.Spec L2
open PyProof.Rows hiding St
section
variable {X:Cx}
noncomputable def c3k(K:c6v)(tl:TE):TI:=fun σ H R=>tl σ H fun x H1=>∃(a:Addr) (k:Bool),x = .ref a∧(∃ xs,SqK K k H1 a xs)∧R (if k=true then Itl K a else Itt K a) H1
theorem b9J{tg l:Expr}{tl:TE}(hl:PE X l tl):PI X tg l (c3k X.K tl):=by
 intro pins s σ H R I h
 refine thn (hl pins s σ H _ I h) fun v s1 zz=>?_
 obtain⟨x,H1,I1,r1,q1⟩:=zz
 obtain⟨a,k,e,⟨xs,hq⟩,q⟩:=q1
 subst e
 cases r1
 obtain⟨its,rv,p⟩:=I1.sqk hq
 have nf:∀ b∈[s1.heap.objs.size],a0T X pins H1 b:=fun b hb=>by
  have e:b=s1.heap.objs.size:=by simpa using hb
  subst e
  exact I1.fpOk (c6U _) (I1.hok.fresh (c6U _))
 cases k with
 | true=>exact wpAny_pyIter_list p ⟨s1.heap.objs.size,[s1.heap.objs.size],_,_,H1,rfl,I1.kept (t':=s1.toks) fun b o e=>c6y _ e,b1t a _,⟨_,c6G _ rfl,rfl,rfl⟩,nf,q⟩
 | false=>exact wpAny_pyIter_tuple p ⟨s1.heap.objs.size,[s1.heap.objs.size],_,_,H1,rfl,I1.kept (t':=s1.toks) fun b o e=>c6y _ e,a8X a _,⟨_,c6G _ rfl,rfl,rfl⟩,nf,q⟩
noncomputable def b8G(ti:DTE):DTI:=fun e M R=>ti e M fun x M1=>∃ ds,C0 M1 x ds∧R ds (fun M'=>C0 M' x ds) M1
theorem y7{tg iter:Expr}{ti:DTE}(hi:JE X iter ti):JI X tg iter (b8G ti):=⟨have hi:=hi.out;PI.imp (b9J hi) (by rintro σ H R ⟨e,M,R',ok,am,t,f⟩;exact⟨e,M,_,ok,am,t,fun x M1 ⟨ds,sq,r⟩ v H1 k1 a1 r1=>by
 have sq':=sq
 rcases sq with rfl|⟨p,rfl,hm⟩|rfl
 rotate_left 2
 ·obtain⟨a,xs,rfl,sq,l⟩:=r1.il
  have wk:a4Q X.K H1 (Itl X.K a) ds (fun M'=>C0 M' (.vl ds) ds):=⟨fun i H' M' hi k am _=>by
    obtain⟨a',ys,e,sq',l'⟩:=(r1.mono k).il
    cases e
    exact⟨ys,_,sq',c7c (by rw[l'.length];exact hi)⟩,
   fun i H' M' x H'' hi k am _ zz=>by
    obtain⟨e,y⟩:=zz
    subst e
    obtain⟨a',ys,e,sq',l'⟩:=(r1.mono k).il
    cases e
    obtain⟨d,hd,r⟩:=l'.getV (y ys sq')
    exact⟨d,hd,KT.refl _,am,r⟩,
   fun i H' M' hi k am _=>by
    obtain⟨a',ys,e,sq',l'⟩:=(r1.mono k).il
    cases e
    exact⟨ys,sq',by rw[l'.length];exact hi⟩,fun _ _ _ st hq=>X8 st hq⟩
  exact⟨a,true,rfl,⟨xs,sq⟩,f ds _ M1 r H1 k1 a1 _ wk⟩
 ·cases r1 with
  | tup s l =>
   refine⟨_,false,rfl,⟨_,s⟩,f ds _ M1 r H1 k1 a1 _ ?_⟩
   have w:=b3g (K:=X.K) s l
   exact⟨fun i H' M' a b c _=>w.go i H' M' a b c trivial,fun i H' M' y H2 a b c _ g=>w.yld i H' M' y H2 a b c trivial g,fun i H' M' a b c _=>w.stop i H' M' a b c trivial,fun _ _ _ st hq=>X8 st hq⟩
 ·cases r1
  obtain⟨xs,hx,l⟩:=a1.lst hm
  refine⟨p,true,rfl,⟨xs,SqL.of hx⟩,f ds _ M1 r H1 k1 a1 _ ?_⟩
  have w:=b3i (K:=X.K) (H1:=H1) (p:=p) (ds:=ds)
  have cv:∀{M':Mem},C0 M' (.ref p) ds→M' p=some (.lst ds):=fun z=>by
   rcases z with z|⟨p',z,h⟩|z
   ·cases z
   ·cases z;exact h
   ·cases z
  exact⟨fun i H' M' a b c z=>w.go i H' M' a b c (cv z),fun i H' M' y H2 a b c z g=>w.yld i H' M' y H2 a b c (cv z) g,fun i H' M' a b c z=>w.stop i H' M' a b c (cv z),fun _ _ _ st hq=>X8 st hq⟩⟩)⟩
end
theorem b4x{K:c6v}{mg:Str→Option Value}{h:Heap}{x:Str}{a b c:Addr}{od od1 od2:Option Addr}{osl osl1 osl2:Array (Option Value)}{i j k l:Int}{t1 t2 t3 t4:Tok}{cap cap1 cap2:Nat}(X:K.In h)(G:h.Ns mainGlobals mg)
  (n:PySem.W.nsIn K mainGlobals x=some (some (.ref a))) (l0:K.lookup a=some ⟨.type "tuple",od,.seq #[.ref b,.ref c] cap,osl⟩)
  (l1:K.lookup b=some ⟨.type "tuple",od1,.seq #[.int i t1,.int j t2] cap1,osl1⟩) (l2:K.lookup c=some ⟨.type "tuple",od2,.seq #[.int k t3,.int l t4] cap2,osl2⟩):GlD K mg x (.tup [.tup [.int i,.int j],.tup [.int k,.int l]]):=by
 have two:(2:Nat)≤sizeLine:=by decide
 have p1:∀ H:Hp,Has K H (.ref b) (.tup [.int i,.int j]):=fun H=>.tup (xs:=[.int i,.int j]) (.inr ⟨_,_,_,l1,rfl,rfl,two,.cons (show u0 (.int i) (.int i t1)from⟨t1,rfl⟩) (.cons (show u0 (.int j) (.int j t2)from⟨t2,rfl⟩) .nil)⟩) (.cons (.int i) (.cons (.int j) .nil))
 have p2:∀ H:Hp,Has K H (.ref c) (.tup [.int k,.int l]):=fun H=>.tup (xs:=[.int k,.int l]) (.inr ⟨_,_,_,l2,rfl,rfl,two,.cons (show u0 (.int k) (.int k t3)from⟨t3,rfl⟩) (.cons (show u0 (.int l) (.int l t4)from⟨t4,rfl⟩) .nil)⟩) (.cons (.int k) (.cons (.int l) .nil))
 exact⟨.ref a,.ref a,PySem.W.mg_of X G n,rfl,fun H=>.tup (xs:=[.ref b,.ref c]) (.inr ⟨_,_,_,l0,rfl,rfl,two,.cons (show u0 (.ref b) (.ref b)from rfl) (.cons (show u0 (.ref c) (.ref c)from rfl) .nil)⟩) (.cons (p1 H) (.cons (p2 H) .nil))⟩
theorem c0j{K:c6v}{mg:Str→Option Value}{h:Heap}{x:Str}{a b c e g:Addr}{od od1 od2 od3 od4:Option Addr}{osl osl1 osl2 osl3 osl4:Array (Option Value)}{i j k l m n p q:Int}{t1 t2 t3 t4 t5 t6 t7 t8:Tok}{cap cap1 cap2 cap3 cap4:Nat}(X:K.In h)(G:h.Ns mainGlobals mg)
  (nn:PySem.W.nsIn K mainGlobals x=some (some (.ref a))) (l0:K.lookup a=some ⟨.type "tuple",od,.seq #[.ref b,.ref c,.ref e,.ref g] cap,osl⟩)
  (l1:K.lookup b=some ⟨.type "tuple",od1,.seq #[.int i t1,.int j t2] cap1,osl1⟩) (l2:K.lookup c=some ⟨.type "tuple",od2,.seq #[.int k t3,.int l t4] cap2,osl2⟩)
  (l3:K.lookup e=some ⟨.type "tuple",od3,.seq #[.int m t5,.int n t6] cap3,osl3⟩) (l4:K.lookup g=some ⟨.type "tuple",od4,.seq #[.int p t7,.int q t8] cap4,osl4⟩):GlD K mg x (.tup [.tup [.int i,.int j],.tup [.int k,.int l],.tup [.int m,.int n],.tup [.int p,.int q]]):=by
 have two:(2:Nat)≤sizeLine:=by decide
 have four:(4:Nat)≤sizeLine:=by decide
 have one:∀{a:Addr} {i j:Int} {t1 t2:Tok} {od:Option Addr} {osl:Array (Option Value)} {cap:Nat},K.lookup a=some ⟨.type "tuple",od,.seq #[.int i t1,.int j t2] cap,osl⟩→∀ H:Hp,Has K H (.ref a) (.tup [.int i,.int j]):=fun{a i j t1 t2 od osl cap} l1 H=>.tup (xs:=[.int i,.int j]) (.inr ⟨_,_,_,l1,rfl,rfl,two,.cons (show u0 (.int i) (.int i t1)from⟨t1,rfl⟩) (.cons (show u0 (.int j) (.int j t2)from⟨t2,rfl⟩) .nil)⟩) (.cons (.int i) (.cons (.int j) .nil))
 exact⟨.ref a,.ref a,PySem.W.mg_of X G nn,rfl,fun H=>.tup (xs:=[.ref b,.ref c,.ref e,.ref g]) (.inr ⟨_,_,_,l0,rfl,rfl,four,.cons (show u0 (.ref b) (.ref b)from rfl) (.cons (show u0 (.ref c) (.ref c)from rfl) (.cons (show u0 (.ref e) (.ref e)from rfl) (.cons (show u0 (.ref g) (.ref g)from rfl) .nil)))⟩) (.cons (one l1 H) (.cons (one l2 H) (.cons (one l3 H) (.cons (one l4 H) .nil))))⟩
theorem a1n{M:Mem}{p:Addr}{ds:List D}(h:M p=some (.lst ds)):b4j M (.ref p)=some ds.length:=by
 unfold b4j;simp only[h]
theorem b1k{ds:List D}{r:Int}(h0:0≤r)(h1:r<ds.length):∃ d,atI ds r=some d∧d∈ds:=by
 unfold atI ixN
 rw[if_pos h0,if_pos h1]
 have hl:r.toNat<ds.length:=by omega
 exact⟨ds[r.toNat],by simp[hl],List.getElem_mem hl⟩
section
variable {X:Cx}
noncomputable def b7v:DRC:=fun ds M R=>∃ x ys,ds=[x]∧C0 M x ys∧∀ p,M p=none→R (.ref p) (A7 M p (.lst ys))
theorem a8L:a1z X (.type "list") b7v:=C5.imp a1v (by
 rintro xs H Q ⟨ds,M,R,hl,am,⟨x,ys,z,e,r⟩,f⟩
 subst z
 obtain⟨v,rfl,hv⟩:=hl.one
 rcases e with rfl|⟨p,rfl,hm⟩|rfl
 rotate_left 2
 ·obtain⟨a,xs,rfl,sq,l⟩:=hv.il
  exact⟨a,xs,rfl,.inl sq,fun p hp=>f _ _ (r p (am.fresh hp)) _ _ (KT.alloc hp) (am.new hp l) (.ref p)⟩
 ·cases hv with
  | tup s l=>exact⟨_,_,rfl,.inr s,fun p hp=>f _ _ (r p (am.fresh hp)) _ _ (KT.alloc hp) (am.new hp l) (.ref p)⟩
 ·cases hv
  obtain⟨zs,hx,l⟩:=am.lst hm
  exact⟨p,zs,rfl,.inl (SqL.of hx),fun q hq=>f _ _ (r q (am.fresh hq)) _ _ (KT.alloc hq) (am.new hq l) (.ref q)⟩)
end
section
variable {X:Cx}
noncomputable def a6X:DRM:=fun x xs M R=>∃ l ds v,x = .ref l∧xs=[v]∧M l=some (.lst ds)∧ds.length<sizeLine∧R .non (A7 M l (.lst (ds++[v])))
theorem D6:DMt X "list.append" a6X:=MtR.imp (r:=b0T) a5D (by
 rintro x xs H Q ⟨dx,ds,M,R,hx,hl,am,⟨l,es,v,e1,e2,hM,hz,r⟩,f⟩
 subst e1;subst e2
 cases hx
 obtain⟨w,rfl,hw⟩:=hl.one
 obtain⟨ys,hy,ly⟩:=am.lst hM
 exact⟨l,ys,w,rfl,rfl,hy,by rw[ly.length];exact hz,f _ _ r _ _ (KT.write hy) (am.write hy (ly.append (.cons hw .nil))) .non⟩)
noncomputable def b08:DRM:=fun x xs M R=>∃ l b ds es,x = .ref l∧xs=[.ref b]∧M l=some (.lst ds)∧M b=some (.lst es)∧ds.length+es.length≤sizeLine∧R .non (A7 M l (.lst (ds++es)))
theorem b1Z:DMt X "list.extend" b08:=MtR.imp (r:=b0S) b1N (by
 rintro x xs H Q ⟨dx,ds,M,R,hx,hl,am,⟨l,b,es,vs,e1,e2,hM,hB,hz,r⟩,f⟩
 subst e1;subst e2
 cases hx
 obtain⟨w,rfl,hw⟩:=hl.one
 cases hw
 obtain⟨ys,hy,ly⟩:=am.lst hM
 obtain⟨zs,hz',lz⟩:=am.lst hB
 exact⟨l,b,ys,zs,rfl,rfl,hy,hz',by rw[ly.length,lz.length];exact hz,f _ _ r _ _ (KT.write hy) (am.write hy (ly.append lz)) .non⟩)
end
end DL
namespace DL
open PySem PySem.Spec L2
open PyProof.Rows hiding St
theorem HasL.rep{K:c6v}{H:Hp}{xs:List V}{ds:List D}(h:HasL K H xs ds):∀ k:Nat,HasL K H (c7b k xs).flatten (c7b k ds).flatten
 | 0=>.nil
 | k+1=>by
  rw[c7B,c7B,c7V,c7V]
  exact h.append (HasL.rep h k)
section
variable {X:Cx}
noncomputable def c3o:DR2:=fun x y M R=>∃ l k ds,x = .ref l∧y = .int k∧M l=some (.lst ds)∧0≤k∧k<2 ^ 62∧ds.length*k.toNat≤sizeLine∧∀ p,M p=none→R (.ref p) (A7 M p (.lst (c7b k.toNat ds).flatten))
theorem c1J:DOp X (binaryOp .Mult) c3o:=OpR.imp b9X (by
 rintro x y H Q ⟨dx,dy,M,R,hx,hy,am,⟨l,k,ds,e1,e2,hm,h0,h1,hz,r⟩,f⟩
 subst e1;subst e2
 cases hx;cases hy
 obtain⟨xs,hx,lx⟩:=am.lst hm
 exact⟨l,k,xs,rfl,rfl,hx,by omega,by omega,by rw[lx.length];exact hz,fun p hp=>f _ _ (r p (am.fresh hp)) _ _ (KT.alloc hp) (am.new hp (lx.rep _)) (.ref p)⟩)
end
end DL
namespace DL
open PySem PySem.Spec L2
open PyProof.Rows hiding St
noncomputable abbrev DTO:=Ev→Mem→(Option Int→Mem→Prop)→Prop
noncomputable def upO(K:c6v)(t:DTO):TO:=fun σ H Q=>∃ e M R,B7 K H σ e∧u6 K H M∧t e M R∧∀ o M',R o M'→∀ H',KT H H'→u6 K H' M'→Q o H'
noncomputable def DPO(X:Cx)(e:Option Expr)(t:DTO):Prop:=PO X e (upO X.K t)
structure JO(X:Cx)(e:Option Expr)(t:DTO):Prop where
 out:DPO X e t
noncomputable def b1h:DTO:=fun _ M R=>R none M
noncomputable def b8M(t:DTE):DTO:=fun e M R=>t e M fun x M1=>∃ i,x = .int i∧R (some i) M1
theorem PO.imp{X:Cx}{e:Option Expr}{t t':TO}(h:PO X e t)(i:∀ σ H Q,t' σ H Q→t σ H Q):PO X e t':=fun pins s σ H Q I q=>h pins s σ H Q I (i σ H Q q)
section
variable {X:Cx} {e:Expr} {te:DTE} {lo hi:Option Expr} {tl th:DTO} {pos p2:Pos}
theorem a0a:JO X none b1h:=⟨PO.imp b6K (by rintro σ H Q ⟨e,M,R,ok,am,t,f⟩;exact f none M t H (KT.refl H) am)⟩
theorem Z9(h:JE X e te):JO X (some e) (b8M te):=⟨have h:=h.out;PO.imp (b6J h) (by rintro σ H Q ⟨e,M,R,ok,am,t,f⟩;exact⟨e,M,_,ok,am,t,fun x M1 ⟨i,z,r⟩ v H1 k1 a1 r1=>by
 subst z;cases r1
 exact⟨i,rfl,f (some i) M1 r H1 k1 a1⟩⟩)⟩
noncomputable def U0(ds:List D)(lo hi:Option Int):List D:=(ds.drop (HT.sIx ds.length 0 lo)).take (HT.sIx ds.length ds.length hi - HT.sIx ds.length 0 lo)
theorem HasL.cut{K:c6v}{H:Hp}{xs:List V}{ds:List D}(h:HasL K H xs ds)(lo hi:Option Int):HasL K H (a8B xs lo hi) (U0 ds lo hi):=by
 unfold a8B U0
 rw[h.length]
 exact(h.drop _).take _
end
end DL
namespace DL
open PySem PySem.Spec L2
open PyProof.Rows hiding St
noncomputable def X2(ds:List D):List D:=ds.mapIdx fun i d=>.tup [.int i,d]
theorem a1t(ds:List D):(X2 ds).length=ds.length:=by simp[X2]
theorem b1W{ds:List D}{i:Nat}{d:D}(h:ds[i]? = some d):(X2 ds)[i]? = some (.tup [.int i,d]):=by
 unfold X2
 rw[List.getElem?_mapIdx,h];rfl
theorem b1q{K:c6v}{H1:Hp}{x:D}{l:Addr}{ds:List D}(h1:Has K H1 (.ref l) x):a4Q K H1 (Ite K (a30 x) l) (X2 ds) (fun M'=>C0 M' x ds) where
 go:=fun i H' M' hi k am s1=>by
  rw[a1t]at hi
  obtain⟨a,xs,e1,q1,m1⟩:=B1 s1 am (h1.mono k)
  cases e1
  exact⟨xs,_,q1,c7c (by rw[m1.length];omega)⟩
 yld:=fun i H' M' v H'' hi k am s1 zz=>by
  obtain⟨T,a,hT,ev,eH,u1⟩:=zz
  subst ev;subst eH
  obtain⟨a',xs,e1,q1,m1⟩:=B1 s1 am (h1.mono k)
  cases e1
  obtain⟨d1,g1,r1⟩:=m1.getV (u1 xs q1)
  have kt:KT H' (upd H' T (.tup [.int i,a])):=KT.alloc hT
  exact⟨_,b1W g1,kt,am.alloc hT,.tup (SqT.of i9) (.cons (.int _) (.cons (r1.mono kt) .nil))⟩
 stop:=fun i H' M' hi k am s1=>by
  rw[a1t]at hi
  obtain⟨a,xs,e1,q1,m1⟩:=B1 s1 am (h1.mono k)
  cases e1
  exact⟨xs,q1,by rw[m1.length];exact hi⟩
 up:=fun _ _ _ st hq=>X8 st hq
section
variable {X:Cx} {ta:DTA}
noncomputable def b4P(ta:DTA):DTI:=fun e M R=>ta e M fun xs M1=>∃ x ds,xs=[x]∧C0 M1 x ds∧R (X2 ds) (fun M'=>C0 M' x ds) M1
theorem a31{elts:List Expr}{kx:Nat}{tp:Pos}{a:Expr}{p pos:Pos}(hg:Gl X "enumerate")(hm:X.mg "enumerate" = none)(ha:JA X [a] ta)(hs:starEach [a] X.env=[(false,eval a X.env)]:=by rfl):JI X (.Tuple elts kx tp) (.Call (.Name "enumerate" p) [a] [] pos) (b4P ta):=⟨have ha:=ha.out;PI.imp (b6L hg hm ha hs) (by rintro σ H R ⟨e,M,R',ok,am,t,f⟩;exact⟨e,M,_,ok,am,t,fun xs M1 ⟨x,ds,z,s1,r⟩ vs H1 k1 a1 r1=>by
  subst z
  obtain⟨v,rfl,hv⟩:=r1.one
  obtain⟨a,zs,rfl,q1,m1⟩:=B1 s1 a1 hv
  exact⟨_,a,rfl,⟨zs,q1⟩,f _ _ M1 r H1 k1 a1 _ (b1q hv)⟩⟩)⟩
end
end DL
namespace DL
open PySem PySem.Spec L2
open PyProof.Rows hiding St
noncomputable def a0o(M:Mem)(a:Addr):Mem:=fun b=>if b=a then none else M b
theorem a2I{M:Mem}{a b:Addr}(h:b≠a):a0o M a b=M b:=by unfold a0o;rw[if_neg h]
theorem P8{M:Mem}{a:Addr}{o:MO}(h:M a=none):a0o (A7 M a o) a=M:=by
 funext b;unfold a0o A7;by_cases e:b=a
 ·rw[if_pos e,e,h]
 ·rw[if_neg e,if_neg e]
section
variable {K:c6v} {H:Hp} {M:Mem} {p:Addr}
theorem u6.at{o:HO}(h:u6 K H M)(k:KT0 H (upd H p o))(hp:M p=none):u6 K (upd H p o) M:=fun a u m=>by
 cases u with
 | lst ds =>
  obtain⟨xs,z,l⟩:=h a _ m
  have hn:a≠p:=by intro e;subst e;rw[hp]at m;cases m
  exact⟨xs,by rw[j4 hn];exact z,l.mono0 k⟩
theorem u6.del(h:u6 K H M):u6 K H (a0o M p):=fun a u m=>by
 by_cases e:a=p
 ·subst e;unfold a0o at m;rw[if_pos rfl]at m;cases m
 ·rw[a2I e]at m;exact h a u m
theorem b2a:a0o M p p=none:=by unfold a0o;rw[if_pos rfl]
theorem u6.none_ext{φ:Heap→Prop}(h:u6 K H M)(e:H p=some (.ext φ)):M p=none:=by
 cases q:M p with
 | none=>rfl
 | some o =>
  cases o with
  | lst ds=>obtain⟨xs,z,_⟩:=h p _ q;rw[e]at z;cases z
end
section
variable {X:Cx} {x:Expr} {t:DTE} {es:List Expr} {tr:DTA} {pos:Pos}
noncomputable def c2p(t:DTE):DTE:=fun e M R=>t e M fun x M1=>∃ p ds,x = .ref p∧M1 p=some (.lst ds)∧R (.vl ds) (a0o M1 p)
theorem L6(h:JE X x t):JE X x (c2p t):=⟨have h:=h.out;(a1K h).imp (by rintro σ H Q ⟨e,M,R,ok,am,t,f⟩;exact⟨e,M,_,ok,am,t,fun d M1 ⟨p,ds,z,hm,r⟩ v H1 k1 a1 r1=>by
 subst z
 cases r1
 obtain⟨xs,hx,lx⟩:=a1.lst hm
 exact⟨p,xs,rfl,hx,fun o=>f _ _ r _ _ (k1.trans (KT.any hx)) (a1.del.at (KT.any hx).toKT0 b2a) (.vl (.inl ⟨o,i9⟩) (lx.mono (KT.any hx)))⟩⟩)⟩
noncomputable def c2r(t:DTE):DTE:=fun e M R=>t e M fun x M1=>∃ M2:Mem,(∀ b o,M2 b=some o→M1 b=some o)∧R x M2
theorem F9(h:JE X x t):JE X x (c2r t):=⟨have h:=h.out;PE.imp h (by rintro σ H Q ⟨e,M,R,ok,am,t,f⟩;exact⟨e,M,_,ok,am,t,fun d M1 ⟨M2,hs,r⟩ v H1 k1 a1 r1=>f d M2 r v H1 k1 (fun a o q=>a1 a o (hs a o q)) r1⟩)⟩
noncomputable def b8P(t:DTA):DTE:=fun e M R=>t e M fun ds M1=>ds.length≤sizeLine∧R (.vl ds) M1
theorem a1s{K:c6v}{H0 H:Hp}{M:Mem}{R:DK}{Q:VK}{vs:List V}{ds:List D}(f:a39 K H0 R Q)(k:KT H0 H)(am:u6 K H M)(l:HasL K H vs ds)(r:R (.vl ds) M)(p:Addr)(hp:H p=none) :
  ∃ q xs,V.ref p = .ref q∧upd H p (.lst vs) q=some (.lst xs)∧∀ o,Q (.ref p) (upd (upd H p (.lst vs)) q (.frz o (.lst xs))) :=
 ⟨p,vs,rfl,i9,fun o=>by
  rw[a0W]
  exact f _ M r _ _ (k.trans (KT.alloc hp)) (am.alloc hp) (.vl (.inl ⟨o,i9⟩) (l.mono (KT.alloc hp)))⟩
theorem i3(h:JA X es tr):JE X (.List es pos) (b8P tr):=⟨have h:=h.out;(a1K (b3R h)).imp (by rintro σ H Q ⟨e,M,R,ok,am,t,f⟩;exact⟨e,M,_,ok,am,t,fun ds M1 ⟨hz,h1⟩ vs H1 k1 a1 r1=>⟨by rw[r1.length];exact hz,fun p hp=>a1s f k1 a1 r1 h1 p hp⟩⟩)⟩
noncomputable def b09(x y:D)(M:Mem)(R:DK):Prop:=∃ xs ys,G2 M x=some xs∧G2 M y=some ys∧xs.length+ys.length≤sizeLine∧R (.vl (xs++ys)) M
noncomputable def b8S(ta tb:DTE):DTE:=fun e M R=>ta e M fun x M1=>tb e M1 fun y M2=>b09 x y M2 R
theorem G6{a b:Expr}{ta tb:DTE}(ha:JE X a ta)(hb:JE X b tb):JE X (.BinOp a .Add b pos) (b8S ta tb):=⟨have ha:=ha.out;have hb:=hb.out;(a1K (b8w b0Y ha hb)).imp (by rintro σ H Q ⟨e,M,R,ok,am,t,f⟩;exact⟨e,M,_,ok,am,t,fun x M1 h1 v H1 k1 a1 r1=>⟨e,M1,_,ok.mono k1,a1,h1,fun y M2 ⟨xs,ys,e1,e2,hz,r⟩ u H2 k2 a2 r2=>by
  obtain⟨a,vs,rfl,s1,l1⟩:=D2 a2 (r1.mono k2) e1
  obtain⟨b,ws,rfl,s2,l2⟩:=D2 a2 r2 e2
  exact⟨a,b,vs,ws,rfl,rfl,s1,s2,by rw[l1.length,l2.length];exact hz,fun p hp=>a1s f (k1.trans k2) a2 (l1.append l2) r p hp⟩⟩⟩)⟩
noncomputable def b4C(x:D)(lo hi:Option Int)(M:Mem)(R:DK):Prop:=(∃ ds,G2 M x=some ds∧R (.vl (U0 ds lo hi)) M) ∨ ∃ ds,x = .tup ds∧¬ (HT.sIx ds.length 0 lo=0∧HT.sIx ds.length ds.length hi=ds.length)∧R (.tup (U0 ds lo hi)) M
noncomputable def c2h(te:DTE)(tl th:DTO):DTE:=fun e M R=>te e M fun x M1=>tl e M1 fun l M2=>th e M2 fun u M3=>b4C x l u M3 R
theorem a0b{e:Expr}{te:DTE}{lo hi:Option Expr}{tl th:DTO}{p2:Pos}(he:JE X e te)(hl:JO X lo tl)(hu:JO X hi th):JE X (.Subscript e (.Slice lo hi none p2) pos) (c2h te tl th):=⟨have he:=he.out;have hl:=hl.out;have hu:=hu.out;(b6R (b3Q (SlR.or b6q b9l) he hl hu)).imp (by rintro σ H Q ⟨e,M,R,ok,am,t,f⟩;exact⟨e,M,_,ok,am,t,fun x M1 h1 v H1 k1 a1 r1=>⟨e,M1,_,ok.mono k1,a1,h1,fun l M2 h2 H2 k2 a2=>⟨e,M2,_,(ok.mono k1).mono k2,a2,h2,fun u M3 h3 H3 k3 a3=>by
  rcases h3 with⟨ds,hi,r⟩|⟨ds,rfl,hw,r⟩
  ·obtain⟨a,xs,rfl,sq,lx⟩:=D2 a3 ((r1.mono k2).mono k3) hi
   exact .inl ⟨a,xs,rfl,sq,fun p hp=>.inl (a1s f (k1.trans (k2.trans k3)) a3 (lx.cut l u) r p hp)⟩
  ·cases(r1.mono k2).mono k3 with
   | tup sq lx =>
    exact .inr ⟨_,_,rfl,sq,by rw[lx.length];exact hw,fun p hp=>.inr (f _ M3 r _ _ ((k1.trans (k2.trans k3)).trans (KT.alloc hp)) (a3.alloc hp) (.tup (SqT.of i9) ((lx.cut l u).mono (KT.alloc hp))))⟩⟩⟩⟩)⟩
theorem HasL.rev{K:c6v}{H:Hp}:∀{xs:List V} {ds:List D},HasL K H xs ds→HasL K H xs.reverse ds.reverse
 | _,_,.nil=>.nil
 | _,_,.cons h t=>by rw[c8o,c8o];exact(HasL.rev t).append (.cons h .nil)
noncomputable def a6W(ds:List D)(M:Mem)(R:DK):Prop:=∃ x ys,ds=[x]∧C0 M x ys∧R (.vl ys) M
noncomputable def b4W(t:DTA):DTE:=fun e M R=>t e M fun ds M1=>a6W ds M1 R
end
section
variable {X:Cx} {e:Expr} {es:List Expr} {t:DTA} {x:Str} {p pos:Pos}
theorem a1o(hg:Gl X x)(hm:X.mg x=none)(hv:bootBuiltins x=some (.type "list"))(ha:JA X (e :: es) t)
  (hn:x ≠ "__name__" := by decide) (hdb:(x == ("__debug__" : Str))=false:=by decide) (he:starEach (e :: es) X.env=(false,eval e X.env) :: starEach es X.env:=by rfl) (hpl:(backTo pos (starEach es X.env)).any (·.1)=false:=by rfl):JE X (.Call (.Name x p) (e :: es) [] pos) (b4W t):=⟨have ha:=ha.out;(a1K (P5 a1v hg hm hv ha hn hdb he hpl)).imp (by rintro σ H Q ⟨e,M,R,ok,am,t,f⟩;exact⟨e,M,_,ok,am,t,fun ds M1 ⟨d,ys,z,sq,r⟩ vs H1 k1 a1 r1=>by
  subst z
  obtain⟨v,rfl,hv⟩:=r1.one
  obtain⟨a,xs,rfl,q1,m1⟩:=B1 sq a1 hv
  refine⟨a,xs,rfl,?_,fun p hp=>a1s f k1 a1 m1 r p hp⟩
  cases hk:a30 d with
  | true=>rw[hk]at q1;exact .inl q1
  | false=>rw[hk]at q1;exact .inr q1⟩)⟩
variable {te:DTE} {pos':Pos}
end
section
variable {X:Cx}
noncomputable def b07:DRM:=fun x xs M R=>∃ l ds v,∃ k:Nat,x = .ref l∧xs=[.int (k:Int),v]∧M l=some (.lst ds)∧k≤ds.length∧ds.length<sizeLine∧R .non (A7 M l (.lst (ds.take k++v :: ds.drop k)))
theorem HasL.take'{K:c6v}{H:Hp}:∀{vs:List V} {ds:List D} (k:Nat),HasL K H vs ds→HasL K H (vs.take k) (ds.take k)
 | _,_,0,_=>.nil
 | _,_,_+1,.nil=>.nil
 | _,_,k+1,.cons h t=>.cons h (HasL.take' k t)
theorem HasL.drop'{K:c6v}{H:Hp}:∀{vs:List V} {ds:List D} (k:Nat),HasL K H vs ds→HasL K H (vs.drop k) (ds.drop k)
 | _,_,0,h=>h
 | _,_,_+1,.nil=>.nil
 | _,_,k+1,.cons _ t=>HasL.drop' k t
theorem b1Y:DMt X "list.insert" b07:=MtR.imp (r:=b0R) b1M (by
 rintro x xs H Q ⟨dx,ds,M,R,hx,hl,am,⟨l,es,v,k,e1,e2,hM,hk,hz,r⟩,f⟩
 subst e1;subst e2
 cases hx
 cases hl with
 | cons h1 hl =>
  obtain⟨w,rfl,hw⟩:=hl.one
  cases h1
  obtain⟨ys,hy,ly⟩:=am.lst hM
  exact⟨l,ys,w,k,rfl,rfl,hy,by rw[ly.length];exact hk,by rw[ly.length];exact hz,f _ _ r _ _ (KT.write hy) (am.write hy ((ly.take' k).append (.cons hw (ly.drop' k)))) .non⟩)
noncomputable def a0x(hi:Int)(n:Nat):List D:=(c7U n).map fun(i:Nat)=>D.int (hi - (i:Int))
theorem S9(hi:Int)(n:Nat):(a0x hi n).length=n:=by simp[a0x]
theorem b1X{hi:Int}{n i:Nat}(h:i<n):(a0x hi n)[i]? = some (D.int (hi - (i:Int))):=by simp[a0x,h]
theorem b1r{K:c6v}{H1:Hp}{hi:Int}{n:Nat}:a4Q K H1 (Itd hi n) (a0x hi n) (fun _=>True) where
 go:=fun i H' M' h k am st=>by rw[S9]at h;exact h
 yld:=fun i H' M' x H'' h k am st z=>by
  obtain⟨e,y⟩:=z
  subst e;subst y
  rw[S9]at h
  exact⟨_,b1X h,KT.refl _,am,.int _⟩
 stop:=fun i H' M' h k am st=>by rw[S9]at h;exact h
 up:=fun _ _ _ _ _=>trivial
noncomputable def b4O(ta:DTA):DTI:=fun e M R=>ta e M fun ds M1=>∃ j:Int,ds=[.int j]∧0≤j∧j<2 ^ 62∧R (a0x (j - 1) j.toNat) (fun _=>True) M1
theorem b4o{tg a:Expr}{ta:DTA}{p p2 pos2 pos:Pos}(g1:Gl X "reversed")(m1:X.mg "reversed" = none)(v1:bootBuiltins "reversed" = some (.type "reversed"))(g2:Gl X "range")(m2:X.mg "range" = none)(v2:bootBuiltins "range" = some (.type "range"))(ha:JA X [a] ta)
  (h1:starEach [a] X.env=(false,eval a X.env) :: starEach [] X.env:=by rfl) (h2:starEach [.Call (.Name "range" p2) [a] [] pos2] X.env=(false,eval (.Call (.Name "range" p2) [a] [] pos2) X.env) :: starEach [] X.env:=by rfl):JI X tg (.Call (.Name "reversed" p) [.Call (.Name "range" p2) [a] [] pos2] [] pos) (b4O ta):=⟨have ha:=ha.out;PI.imp (b9K g1 m1 v1 (a2D (P5 b4Y g2 m2 v2 ha (by decide) (by decide) h1) a6C h2) h2) (by
  rintro σ H R ⟨e,M,R',ok,am,t,f⟩
  exact⟨e,M,_,ok,am,t,fun ds M1 z vs H1 k1 a1 r1=>by
   obtain⟨j,z,b1,b2,r⟩:=z
   subst z
   obtain⟨v,rfl,hv⟩:=r1.one
   cases hv
   exact⟨j,rfl,fun q hq hge=>⟨j,q,rfl,i9,b1,b2,f _ _ M1 r _ (k1.trans (KT.alloc hq)) (a1.alloc hq) _ b1r⟩⟩⟩)⟩
end
noncomputable abbrev T8:=Ev→Mem→(Bool→Mem→Prop)→Prop
noncomputable abbrev c2F(X:Cx)(ifs:List Expr)(t:T8):Prop:=a1R X ifs (upT X.K t)
structure b2i(X:Cx)(ifs:List Expr)(t:T8):Prop where
 out:c2F X ifs t
noncomputable def b4T:T8:=fun _ M R=>R true M
theorem a1R.imp{X:Cx}{ifs:List Expr}{t t':TT}(h:a1R X ifs t)(i:∀ σ H Q,t' σ H Q→t σ H Q):a1R X ifs t':=fun pins s σ H Q I q=>h pins s σ H Q I (i σ H Q q)
theorem v8{X:Cx}:b2i X [] b4T:=⟨a1R.imp b3N (by rintro σ H Q ⟨e,M,R,ok,am,t,f⟩;exact f true M t H (KT.refl H) am)⟩
theorem a5G{X:Cx}{c:Expr}{t:DTT}(h:JT X c t):b2i X [c] t:=⟨have h:=h.out;b3M h⟩
structure a4b(e0:Ev)(g:DTG)(tc:T8)(te:DTE)(ds:List D)(stay:Mem→Prop)(M1:Mem)(E:List D→Mem→Prop)(W:Nat→List D→Mem→Prop):Prop where
 start:W 0 [] M1
 stays:∀ i ys M,i≤ds.length→W i ys M→stay M
 turn:∀(i:Nat) (d:D) ys M,ds[i]? = some d→W i ys M→g d e0 M fun e2 M2=>tc e2 M2 fun b M3=>if b=true then te e2 M3 fun v M4=>ys.length<sizeLine∧W (i+1) (ys++[v]) M4 else W (i+1) ys M3
 done:∀ ys M,W ds.length ys M→E ys M
noncomputable def b81(e0:Ev)(g:DTG)(tc:T8)(te:DTE)(ds:List D)(stay:Mem→Prop)(M1:Mem)(R:DK):Prop:=∃ W,a4b e0 g tc te ds stay M1 (fun ys M=>R (.vl ys) M) W
noncomputable def b82(e0:Ev)(g:DTG)(tc:T8)(te:DTE)(ds:List D)(stay:Mem→Prop)(M1:Mem)(R:DK):Prop:=∃ W,a4b e0 g tc te ds stay M1 (fun ys M=>∀ p,M p=none→R (.ref p) (A7 M p (.lst ys))) W
noncomputable def a9M(n:Nat)(caps:List Nat)(ti:DTI)(g:DTG)(tc:T8)(te:DTE):DTE:=fun e M R=>ti e M fun ds stay M1=>b81 (a4L n caps e) g tc te ds stay M1 R
noncomputable def a9N(n:Nat)(caps:List Nat)(ti:DTI)(g:DTG)(tc:T8)(te:DTE):DTE:=fun e M R=>ti e M fun ds stay M1=>b82 (a4L n caps e) g tc te ds stay M1 R
section
variable {X:Cx} {elt tg iter:Expr} {scope:Scope} {tgs cps:List Str} {caps:List Nat} {ti:DTI} {g:DTG} {tc:T8} {te:DTE} {pos:Pos} {ifs:List Expr}
noncomputable def CWH(K:c6v)(H1:Hp)(D0:Addr)(len:Nat)(W:Nat→List D→Mem→Prop)(i m:Nat)(H':Hp):Prop:=m=len - i∧i≤len∧∃ M' ys xs,KT H1 H'∧u6 K H' M'∧H' D0=some (.lst xs)∧M' D0=none∧HasL K H' xs ys∧W i ys M'
theorem a0g{K:c6v}{H1:Hp}{J:It}{ds:List D}{stay:Mem→Prop}{M1:Mem}{n:Nat}{caps:List Nat}{σ:St}{e:Ev}{E:List D→Mem→Prop}{W:Nat→List D→Mem→Prop}{D0:Addr}{Qd:Hp→Prop}(ok:B7 K H1 σ e)(a1:u6 K H1 M1)(wk:a4Q K H1 J ds stay)(hD:H1 D0=none)
  (C:a4b (a4L n caps e) g tc te ds stay M1 E W) (fin:∀ ys M xs H',KT H1 H'→u6 K H' M→H' D0=some (.lst xs)→M D0=none→HasL K H' xs ys→E ys M→Qd H') (i m:Nat) (H2:Hp) (w:CWH K H1 D0 ds.length W i m H2) :
  (J.stop i H2∧Qd H2)∨(J.go i H2∧∀ x H',J.yld i H2 x H'→(∃ p,b3p p (upG K g) x (a63 n caps σ) H' fun σ2 H3=>∃ p,b3o p (upT K tc) σ2 H3 fun b H3'=>if b=true then ∃ p,b3q p (up K te) σ2 H3' fun v H4 =>
   ∃ ys,H4 D0=some (.lst ys)∧ys.length<sizeLine∧∃ m',m'<m∧CWH K H1 D0 ds.length W (i+1) m' (upd H4 D0 (.lst (ys++[v])))else ∃ m',m'<m∧CWH K H1 D0 ds.length W (i+1) m' H3')):=by
 obtain⟨rfl,hi,M2,ys,xs,k2,a2,hx,hM,lx,w2⟩:=w
 have a2':u6 K H2 (A7 M2 D0 (.lst ys)):=fun a o q=>by
  by_cases e:a=D0
  ·subst e;rw[g6]at q;cases q;exact⟨xs,hx,lx⟩
  ·rw[A0 e]at q;exact a2 a o q
 have st:=wk.up _ D0 (.lst ys) (C.stays i ys M2 hi w2) hM
 by_cases hlt:i<ds.length
 ·refine .inr ⟨wk.go i H2 _ hlt k2 a2' st,fun y H' yl=>?_⟩
  obtain⟨d,hd,k3,a3',r⟩:=wk.yld i H2 _ y H' hlt k2 a2' st yl
  obtain⟨xs',hx',lx'⟩:=a3'.lst g6
  have a3:u6 K H' M2:=fun a o q=>by
   have e:a≠D0:=by intro e;subst e;rw[hM]at q;cases q
   exact a3' a o (by rw[A0 e];exact q)
  have kh:KT H' (upd H' D0 (a1p D0 xs')):=KT.any hx'
  have k1h:=(k2.trans k3).trans kh
  have same:∀{H3:Hp},H3 D0=some (a1p D0 xs')→upd (upd H3 D0 (.lst xs')) D0 (a1p D0 xs')=H3:=fun{H3} q=>by
   rw[a0W];funext b;by_cases e:b=D0
   ·subst e;rw[i9,q]
   ·rw[j4 e]
  refine⟨D0,xs',hx',d,a4L n caps e,M2,_,r.mono kh,b7y n caps (ok.mono k1h),a3.at kh.toKT0 hM,C.turn i d ys M2 hd w2,fun e3 M3 h3 σ3 H3 k4 a4 ok3=>?_⟩
  have q3:H3 D0=some (a1p D0 xs'):=k4.ex D0 _ i9
  refine⟨q3,D0,xs',i9,?_⟩
  rw[same q3]
  refine⟨e3,M3,_,ok3,a4,h3,fun b M4 h4 H4 k5 a5=>?_⟩
  have q4:H4 D0=some (a1p D0 xs'):=k5.ex D0 _ q3
  refine⟨q4,?_⟩
  have kk:=k1h.trans (k4.trans k5)
  cases b with
  | false =>
   have h4':W (i+1) ys M4:=h4
   show ∃ m',m'<ds.length - i∧CWH K H1 D0 ds.length W (i+1) m' (upd H4 D0 (.lst xs'))
   exact⟨ds.length - (i+1),by omega,rfl,hlt,M4,ys,xs',kk.new hD,a5.at (KT0.ext q4) (a5.none_ext q4),i9,a5.none_ext q4,(lx'.mono (kh.trans (k4.trans k5))).mono0 (KT0.ext q4),h4'⟩
  | true =>
   show ∃ p,b3q p (up K te) σ3 (upd H4 D0 (.lst xs')) _
   refine⟨D0,xs',i9,?_⟩
   rw[same q4]
   refine⟨e3,M4,_,ok3.mono k5,a5,h4,fun dv M5 ⟨hz,w5⟩ vv H5 k6 a6 r6=>?_⟩
   have q5:H5 D0=some (a1p D0 xs'):=k6.ex D0 _ q4
   refine⟨q5,xs',i9,by rw[lx'.length];exact hz,ds.length - (i+1),by omega,rfl,hlt,M5,ys++[dv],xs'++[vv],?_,?_,i9,a6.none_ext q5,?_,w5⟩
   ·rw[a0W];exact(kk.trans k6).new hD
   ·rw[a0W];exact a6.at (KT0.ext q5) (a6.none_ext q5)
   ·rw[a0W];exact((lx'.mono (kh.trans (k4.trans (k5.trans k6)))).mono0 (KT0.ext q5)).append (.cons (r6.mono0 (KT0.ext q5)) .nil)
 ·have e':i=ds.length:=by omega
  subst e'
  exact .inl ⟨wk.stop _ H2 _ (c6U _) k2 a2' st,fin ys M2 xs H2 k2 a2 hx hM lx (C.done ys M2 w2)⟩
theorem X1(caps:List Nat)(tgs cps:List Str)(hc:X.calm=true)(hcell:∀ x∈scope.names,x.2 ≠ .cell)(hkind:scope.kind = .function)(hnames:∀ x∈scope.names,x.2 = .local→scope.names.lookup x.1=some .local)
  (hfr:∀ x∈scope.names,x.2 = .free→x.1∈cps) (hN:caps.map (fun i=>X.N[i]?)=cps.map some) (hX:∀ x∈cps,X.env.scope.names.lookup x=some .cell∧scope.names.lookup x=some .free)
  (hsc:∀ x∈cps,(relabel scope X.env).names.lookup x=some .cell∨(relabel scope X.env).names.lookup x=some .free)
  (hi:JI X tg iter ti) (hg:∀ cl s3 H3 C fp pins,JG (cxF X scope cl (tgs++cps) s3 H3 C fp pins) tg g) (hq:∀ cl s3 H3 C fp pins,b2i (cxF X scope cl (tgs++cps) s3 H3 C fp pins) ifs tc) (he:∀ cl s3 H3 C fp pins,JE (cxF X scope cl (tgs++cps) s3 H3 C fp pins) elt te)
  (hs:∀ x,foldedSetIterable iter X.env x=pure x:=by intro _;rfl):JE X (.ListComp elt [⟨tg,iter,ifs,0⟩] scope pos) (a9M tgs.length caps ti g tc te):=⟨have hi:=hi.out;have hg:=fun v0 v1 v2 v3 v4 v5=>(hg v0 v1 v2 v3 v4 v5).out;have hq:=fun v0 v1 v2 v3 v4 v5=>(hq v0 v1 v2 v3 v4 v5).out;have he:=fun v0 v1 v2 v3 v4 v5=>(he v0 v1 v2 v3 v4 v5).out;(a1K (a77 (tgs:=tgs) (cps:=cps) (caps:=caps) hc hcell hkind hnames hfr hN hX hsc hi (fun cl s3 H3 C fp pins=>a2B (hg cl s3 H3 C fp pins)) (fun cl s3 H3 C fp pins=>Z6 (hq cl s3 H3 C fp pins)) (fun cl s3 H3 C fp pins=>a2C (he cl s3 H3 C fp pins)) hs)).imp (by rintro σ H Q ⟨e,M,R,ok,am,t,f⟩;exact⟨e,M,_,ok,am,t,fun ds stay M1 hW H1 k1 a1 J wk=>by
  intro D0 hD
  obtain⟨W,C⟩:=hW
  refine⟨fun i m H'=>CWH X.K H1 D0 ds.length W i m H',⟨ds.length,by simp,c7m _,M1,[],[],KT.alloc hD,a1.alloc hD,i9,a1.fresh hD,.nil,C.start⟩,fun i m H2 w=>a0g (Qd:=fun H'=>∃ p xs,V.ref D0 = .ref p∧H' p=some (.lst xs)∧∀ o,Q (.ref D0) (upd H' p (.frz o (.lst xs)))) (ok.mono k1) a1 wk hD C (fun ys M2 xs H' k2 a2 hx hM lx r=>?_) i m H2 w⟩
  exact⟨D0,xs,rfl,hx,fun o=>f _ M2 r _ _ (k1.trans (k2.trans (KT.any hx))) (a2.at (KT.any hx).toKT0 hM) (.vl (.inl ⟨o,i9⟩) (lx.mono (KT.any hx)))⟩⟩)⟩
theorem a8u(caps:List Nat)(tgs cps:List Str)(hc:X.calm=true)(hcell:∀ x∈scope.names,x.2 ≠ .cell)(hkind:scope.kind = .function)(hnames:∀ x∈scope.names,x.2 = .local→scope.names.lookup x.1=some .local)
  (hfr:∀ x∈scope.names,x.2 = .free→x.1∈cps) (hN:caps.map (fun i=>X.N[i]?)=cps.map some) (hX:∀ x∈cps,X.env.scope.names.lookup x=some .cell∧scope.names.lookup x=some .free)
  (hsc:∀ x∈cps,(relabel scope X.env).names.lookup x=some .cell∨(relabel scope X.env).names.lookup x=some .free)
  (hi:JI X tg iter ti) (hg:∀ cl s3 H3 C fp pins,JG (cxF X scope cl (tgs++cps) s3 H3 C fp pins) tg g) (hq:∀ cl s3 H3 C fp pins,b2i (cxF X scope cl (tgs++cps) s3 H3 C fp pins) ifs tc) (he:∀ cl s3 H3 C fp pins,JE (cxF X scope cl (tgs++cps) s3 H3 C fp pins) elt te)
  (hs:∀ x,foldedSetIterable iter X.env x=pure x:=by intro _;rfl):JE X (.ListComp elt [⟨tg,iter,ifs,0⟩] scope pos) (a9N tgs.length caps ti g tc te):=⟨have hi:=hi.out;have hg:=fun v0 v1 v2 v3 v4 v5=>(hg v0 v1 v2 v3 v4 v5).out;have hq:=fun v0 v1 v2 v3 v4 v5=>(hq v0 v1 v2 v3 v4 v5).out;have he:=fun v0 v1 v2 v3 v4 v5=>(he v0 v1 v2 v3 v4 v5).out;(a77 (tgs:=tgs) (cps:=cps) (caps:=caps) hc hcell hkind hnames hfr hN hX hsc hi (fun cl s3 H3 C fp pins=>a2B (hg cl s3 H3 C fp pins)) (fun cl s3 H3 C fp pins=>Z6 (hq cl s3 H3 C fp pins)) (fun cl s3 H3 C fp pins=>a2C (he cl s3 H3 C fp pins)) hs).imp (by rintro σ H Q ⟨e,M,R,ok,am,t,f⟩;exact⟨e,M,_,ok,am,t,fun ds stay M1 hW H1 k1 a1 J wk=>by
  intro D0 hD
  obtain⟨W,C⟩:=hW
  refine⟨fun i m H'=>CWH X.K H1 D0 ds.length W i m H',⟨ds.length,by simp,c7m _,M1,[],[],KT.alloc hD,a1.alloc hD,i9,a1.fresh hD,.nil,C.start⟩,fun i m H2 w=>a0g (ok.mono k1) a1 wk hD C (fun ys M2 xs H' k2 a2 hx hM lx r=>?_) i m H2 w⟩
  refine f _ _ (r D0 hM) _ _ (k1.trans k2) (fun a o q=>?_) (.ref D0)
  by_cases e:a=D0
  ·subst e;rw[g6]at q;cases q;exact⟨xs,hx,lx⟩
  ·rw[A0 e]at q;exact a2 a o q⟩)⟩
theorem y8{i:Nat}{x:Str}{pos' pos2:Pos}(caps:List Nat)(tgs cps:List Str)(hNd:X.N.Nodup)(hxi:X.N[i]? = some x)(hx:Loc X.env.scope x)(hc:X.calm=true)(hcell:∀ x∈scope.names,x.2 ≠ .cell)(hkind:scope.kind = .function)(hnames:∀ x∈scope.names,x.2 = .local→scope.names.lookup x.1=some .local)
  (hfr:∀ x∈scope.names,x.2 = .free→x.1∈cps) (hN:caps.map (fun i=>X.N[i]?)=cps.map some) (hX:∀ x∈cps,X.env.scope.names.lookup x=some .cell∧scope.names.lookup x=some .free)
  (hsc:∀ x∈cps,(relabel scope X.env).names.lookup x=some .cell∨(relabel scope X.env).names.lookup x=some .free)
  (hi:JI X tg iter ti) (hg:∀ cl s3 H3 C fp pins,JG (cxF X scope cl (tgs++cps) s3 H3 C fp pins) tg g) (hq:∀ cl s3 H3 C fp pins,b2i (cxF X scope cl (tgs++cps) s3 H3 C fp pins) ifs tc) (he:∀ cl s3 H3 C fp pins,JE (cxF X scope cl (tgs++cps) s3 H3 C fp pins) elt te)
  (hsw:swapsWith (.ListComp elt [⟨tg,iter,ifs,0⟩] scope pos) (some (.Name x pos')) pos2.line X.env=pure true:=by rfl) (hs:∀ x,foldedSetIterable iter X.env x=pure x:=by intro _;rfl) (hf:X.fn x=true∨X.env.scope.names.lookup x=some .local:=by first|exact .inl rfl|exact .inr rfl|assumption):JS X (.Assign [.Name x pos'] (.ListComp elt [⟨tg,iter,ifs,0⟩] scope pos) pos2) (b2b (a9M tgs.length caps ti g tc te) (a0R i)):=⟨have hi:=hi.out;have hg:=fun v0 v1 v2 v3 v4 v5=>(hg v0 v1 v2 v3 v4 v5).out;have hq:=fun v0 v1 v2 v3 v4 v5=>(hq v0 v1 v2 v3 v4 v5).out;have he:=fun v0 v1 v2 v3 v4 v5=>(he v0 v1 v2 v3 v4 v5).out;(b0W (b9A (a74 (tgs:=tgs) (cps:=cps) (caps:=caps) hc hcell hkind hnames hfr hN hX hsc hi (fun cl s3 H3 C fp pins=>a2B (hg cl s3 H3 C fp pins)) (fun cl s3 H3 C fp pins=>Z6 (hq cl s3 H3 C fp pins)) (fun cl s3 H3 C fp pins=>a2C (he cl s3 H3 C fp pins)) hNd hxi hx hf hs)) hsw).imp (by rintro E σ H ⟨e,M,F,ok,am,t,f⟩;exact⟨e,M,_,ok,am,t,fun ds stay M1 hW H1 k1 a1 J wk=>by
  intro D0 hD
  obtain⟨W,C⟩:=hW
  refine⟨fun i m H'=>CWH X.K H1 D0 ds.length W i m H',⟨ds.length,by simp,c7m _,M1,[],[],KT.alloc hD,a1.alloc hD,i9,a1.fresh hD,.nil,C.start⟩,fun j m H2 w=>a0g (Qd:=fun H'=>∃ p xs,V.ref D0 = .ref p∧H' p=some (.lst xs)∧∀ o,E.nx (σ.set i (some (.ref D0))) (upd H' p (.frz o (.lst xs)))) (ok.mono k1) a1 wk hD C (fun ys M2 xs H' k2 a2 hx hM lx r=>?_) j m H2 w⟩
  exact⟨D0,xs,rfl,hx,fun o=>f.nx _ M2 r _ _ (k1.trans (k2.trans (KT.any hx))) (a2.at (KT.any hx).toKT0 hM) ((ok.mono (k1.trans (k2.trans (KT.any hx)))).set (.vl (.inl ⟨o,i9⟩) (lx.mono (KT.any hx))) i)⟩⟩)⟩
theorem a6R{i:Nat}{x:Str}{pos' pos2:Pos}(caps:List Nat)(tgs cps:List Str)(hNd:X.N.Nodup)(hxi:X.N[i]? = some x)(hx:Loc X.env.scope x)(hc:X.calm=true)(hcell:∀ x∈scope.names,x.2 ≠ .cell)(hkind:scope.kind = .function)(hnames:∀ x∈scope.names,x.2 = .local→scope.names.lookup x.1=some .local)
  (hfr:∀ x∈scope.names,x.2 = .free→x.1∈cps) (hN:caps.map (fun i=>X.N[i]?)=cps.map some) (hX:∀ x∈cps,X.env.scope.names.lookup x=some .cell∧scope.names.lookup x=some .free)
  (hsc:∀ x∈cps,(relabel scope X.env).names.lookup x=some .cell∨(relabel scope X.env).names.lookup x=some .free)
  (hi:JI X tg iter ti) (hg:∀ cl s3 H3 C fp pins,JG (cxF X scope cl (tgs++cps) s3 H3 C fp pins) tg g) (hq:∀ cl s3 H3 C fp pins,b2i (cxF X scope cl (tgs++cps) s3 H3 C fp pins) ifs tc) (he:∀ cl s3 H3 C fp pins,JE (cxF X scope cl (tgs++cps) s3 H3 C fp pins) elt te)
  (hsw:swapsWith (.ListComp elt [⟨tg,iter,ifs,0⟩] scope pos) (some (.Name x pos')) pos2.line X.env=pure true:=by rfl) (hs:∀ x,foldedSetIterable iter X.env x=pure x:=by intro _;rfl) (hf:X.fn x=true∨X.env.scope.names.lookup x=some .local:=by first|exact .inl rfl|exact .inr rfl|assumption):JS X (.Assign [.Name x pos'] (.ListComp elt [⟨tg,iter,ifs,0⟩] scope pos) pos2) (b2b (a9N tgs.length caps ti g tc te) (a0R i)):=⟨have hi:=hi.out;have hg:=fun v0 v1 v2 v3 v4 v5=>(hg v0 v1 v2 v3 v4 v5).out;have hq:=fun v0 v1 v2 v3 v4 v5=>(hq v0 v1 v2 v3 v4 v5).out;have he:=fun v0 v1 v2 v3 v4 v5=>(he v0 v1 v2 v3 v4 v5).out;(b0W (a74 (tgs:=tgs) (cps:=cps) (caps:=caps) hc hcell hkind hnames hfr hN hX hsc hi (fun cl s3 H3 C fp pins=>a2B (hg cl s3 H3 C fp pins)) (fun cl s3 H3 C fp pins=>Z6 (hq cl s3 H3 C fp pins)) (fun cl s3 H3 C fp pins=>a2C (he cl s3 H3 C fp pins)) hNd hxi hx hf hs) hsw).imp (by rintro E σ H ⟨e,M,F,ok,am,t,f⟩;exact⟨e,M,_,ok,am,t,fun ds stay M1 hW H1 k1 a1 J wk=>by
  intro D0 hD
  obtain⟨W,C⟩:=hW
  refine⟨fun i m H'=>CWH X.K H1 D0 ds.length W i m H',⟨ds.length,by simp,c7m _,M1,[],[],KT.alloc hD,a1.alloc hD,i9,a1.fresh hD,.nil,C.start⟩,fun j m H2 w=>a0g (Qd:=fun H'=>E.nx (σ.set i (some (.ref D0))) H') (ok.mono k1) a1 wk hD C (fun ys M2 xs H' k2 a2 hx hM lx r=>?_) j m H2 w⟩
  refine f.nx _ _ (r D0 hM) _ _ (k1.trans k2) (fun a o q=>?_) ((ok.mono (k1.trans k2)).set (.ref D0) i)
  by_cases e:a=D0
  ·subst e;rw[g6]at q;cases q;exact⟨xs,hx,lx⟩
  ·rw[A0 e]at q;exact a2 a o q⟩)⟩
end
section
variable {X:Cx} {e:Expr} {te:DTE} {p1 p2 pos pos2:Pos}
theorem SqL.upd{K:c6v}{H:Hp}{a it:Addr}{xs:List V}{o:HO}(h:SqL K H a xs)(ne:a≠it):SqL K (upd H it o) a xs:=h.elim (fun z=>.inl (by unfold Rd at z ⊢;rw[j4 ne];exact z)) .inr
theorem SqK.upd{K:c6v}{k:Bool}{H:Hp}{a it:Addr}{xs:List V}{o:HO}(h:SqK K k H a xs)(ne:a≠it):SqK K k (L2.upd H it o) a xs:=by
 cases k with
 | true=>exact SqL.upd (show SqL K H a xs from h) ne
 | false=>exact(show SqT K H a xs from h).elim (fun z=>.inl (by unfold Rd at z ⊢;rw[j4 ne];exact z)) .inr
noncomputable def b06(x:D)(M:Mem)(R:DK):Prop:=∃ ds,C0 M x ds∧R (.vl ds.reverse) M
noncomputable def b8L(te:DTE):DTE:=fun e M R=>te e M fun x M1=>b06 x M1 R
theorem a8s(hc:X.calm=true)(g1:Gl X "list")(m1:X.mg "list" = none)(v1:bootBuiltins "list" = some (.type "list"))(g2:Gl X "reversed")(m2:X.mg "reversed" = none)(v2:bootBuiltins "reversed" = some (.type "reversed"))(he:JE X e te)
  (h1:starEach [e] X.env=(false,eval e X.env) :: starEach [] X.env:=by rfl) (h2:starEach [.Call (.Name "reversed" p2) [e] [] pos2] X.env=(false,eval (.Call (.Name "reversed" p2) [e] [] pos2) X.env) :: starEach [] X.env:=by rfl):JE X (.Call (.Name "list" p1) [.Call (.Name "reversed" p2) [e] [] pos2] [] pos) (b8L te):=⟨have he:=he.out;(a1K (P5 (a8C hc) g1 m1 v1 (a2D (P5 a60 g2 m2 v2 (a2D he a6C h1) (by decide) (by decide) h1) a6C h2) (by decide) (by decide) h2)).imp (by rintro σ H Q ⟨e,M,R,ok,am,t,f⟩;exact⟨e,M,_,ok,am,t,fun x M1 ⟨ds,hi,r⟩ v H1 k1 a1 r1=>by
  obtain⟨a,xs,rfl,sq,lx⟩:=B1 hi a1 r1
  refine⟨a,a30 x,xs,rfl,sq,fun it hit hne hge=>⟨it,a,a30 x,xs,rfl,i9,SqK.upd sq (Ne.symm hne),Ne.symm hne,hge,fun p hp=>?_⟩⟩
  have q1:p≠it:=fun z=>by rw[z,i9]at hp;cases hp
  rw[j4 q1]at hp
  have e1:∀ o u,a37 (L2.upd (L2.upd H1 it o) p u) it=L2.upd H1 p u:=fun o u=>by
   funext b
   by_cases z:b=it
   ·subst z;rw[a35,j4 (Ne.symm q1),hit]
   ·rw[a36 z]
    by_cases y:b=p
    ·subst y;rw[i9,i9]
    ·rw[j4 y,j4 y,j4 z]
  rw[e1]
  exact a1s f k1 a1 lx.rev r p hp⟩)⟩
noncomputable def b4R(n:Nat)(t:X6):DTG:=fun d e M R=>∃ ds,G2 M d=some ds∧ds.length=n∧t ds e M R
theorem a8r{xs:List Expr}{k:Nat}{t:X6}{n:Nat}(hc:X.calm=true)(h:JGs X xs t)
  (hn:(assignEach xs X.env).length=n:=by rfl) (hst:(assignEach xs X.env).findIdx? (·.1)=none:=by rfl):JG X (.Tuple xs k pos) (b4R n t):=⟨have h:=h.out;PG.imp (b6O hc h hn hst) (by
  rintro v σ H Q ⟨d,e,M,R,r,ok,am,⟨ds,hi,hl,g⟩,f⟩
  obtain⟨a,xs,e1,sq,lx⟩:=D2 am r hi
  exact⟨a,xs,e1,sq,by rw[lx.length];exact hl,ds,e,M,R,lx,ok,am,g,f⟩)⟩
noncomputable def b5s(ds:List D)(M:Mem)(Q:List D→(Mem→Prop)→Mem→Prop):Prop:=∃ xs,ds=[.vl xs]∧Q xs.reverse (fun _=>True) M
noncomputable def b4Q(ta:DTA):DTI:=fun e M Q=>ta e M fun ds M1=>b5s ds M1 Q
theorem b1s{K:c6v}{H1:Hp}{a:Addr}{xs:List V}{ds:List D}(h:Has K H1 (.ref a) (.vl ds))(lx:HasL K H1 xs ds):a4Q K H1 (Itb K a xs.length) ds.reverse (fun _=>True) where
 go:=fun i H' M' hi k am _=>by
  rw[c7d,← lx.length]at hi
  obtain⟨a',ys,e,sq',l'⟩:=(h.mono k).il
  cases e
  have hy:ys.length=xs.length:=by rw[l'.length,lx.length]
  exact⟨hi,ys,_,sq',c7c (by omega)⟩
 yld:=fun i H' M' x H'' hi k am _ q=>by
  obtain⟨e,y⟩:=q
  subst e
  rw[c7d,← lx.length]at hi
  obtain⟨a',ys,e,sq',l'⟩:=(h.mono k).il
  cases e
  obtain⟨d,hd,r⟩:=l'.getV (y ys sq')
  refine⟨d,?_,KT.refl _,am,r⟩
  rw[List.getElem?_reverse (by rw[← lx.length];exact hi),← lx.length]
  exact hd
 stop:=fun i H' M' hi k am _=>by
  rw[c7d,← lx.length]at hi
  exact hi
 up:=fun _ _ _ _ _=>trivial
theorem b4p{tg a:Expr}{ta:DTA}{p pos:Pos}(g1:Gl X "reversed")(m1:X.mg "reversed" = none)(v1:bootBuiltins "reversed" = some (.type "reversed"))(ha:JA X [a] ta)
  (hs:starEach [a] X.env=[(false,eval a X.env)]:=by rfl):JI X tg (.Call (.Name "reversed" p) [a] [] pos) (b4Q ta):=⟨have ha:=ha.out;PI.imp (b6M g1 m1 v1 ha hs) (by
  rintro σ H R ⟨e,M,R',ok,am,t,f⟩
  exact⟨e,M,_,ok,am,t,fun ds M1 z vs H1 k1 a1 r1=>by
   obtain⟨xs,rfl,r⟩:=z
   obtain⟨v,rfl,hv⟩:=r1.one
   obtain⟨a,ws,e1,sq,lx⟩:=hv.il
   subst e1
   exact⟨a,ws,rfl,sq,f _ _ M1 r H1 k1 a1 _ (b1s hv lx)⟩⟩)⟩
end
end DL
namespace L2
open PySem PySem.Spec PyProof.Rows
section
variable {X:Cx} {pos:Pos}
end
end L2
namespace DL
open PySem PySem.Spec L2
open PyProof.Rows hiding St
end DL
namespace DL
open PySem PySem.Spec L2
open PyProof.Rows hiding St
section
variable {X:Cx}
end
end DL
namespace DL
open PySem PySem.Spec L2
open PyProof.Rows hiding St
section
variable {X:Cx}
end
section
variable {X:Cx} {a b c:Expr} {ta tb tc:DTE} {pos:Pos}
end
section
variable {K:c6v}
end
end DL
namespace DL
open PySem PySem.Spec L2
open PyProof.Rows hiding St
section
variable {X:Cx} {x:Expr} {t:DTE}
end
end DL
namespace DL
open PySem PySem.Spec L2
open PyProof.Rows hiding St
noncomputable def c1L(X:Cx):St:=c7b X.N.length none
noncomputable def Cov(B s0:Heap)(H':Hp)(fs:List Addr)(h:Heap):Prop:=∀ b o,h.get? b=some o→((∃ u,H' b=some u) ∨ ∃ o0,s0.get? b=some o0)→b∉fs→B.get? b=some o
noncomputable def CXr(P:Program)(w:World)(base:Heap):CXT:=fun outer H s E e s'=>∃ a cls a0 H' B,e = .ref a∧s'.os=s.os∧AllBare s'.gens∧Un (frs outer) [] H H' s.heap s'.heap∧HOk P w H' s'.heap∧KT H H' ∧
 base.StaysIn B∧Cov B s.heap H' (frs outer) s'.heap∧Heap.FlyingW B outer a cls a0 s'.heap∧E cls none H'
noncomputable def XP(X:Cx)(mk:Bool)(EX:Value→Hp→Prop):Value→Shared→Prop:=fun e s' =>
 (mk=true∧∃ a cls h vs H',e = .ref a∧EX cls H'∧Heap.MadeExcOf h s'.heap a cls vs∧Inv X [] (c1L X) H' { s' with heap:=h }) ∨
 (∃ pins σ Hc sc,Inv X pins σ Hc sc∧CXr X.prog X.w X.base X.stack Hc sc (fun cls _ H'=>EX cls H') e s')
section
variable {P:Program} {w:World} {K:c6v} {mg:Str→Option Value} {base:Heap} {N:List Str} {qual:Str} {scope:Scope} {f:Addr} {cd:Value} {A:Around} {outer:List Env} {s:Shared} {H:Hp} {E:XK}
end
noncomputable def xN(x:Str):Value:=.str x 0
noncomputable def c3u(X:Cx)(H₀:Hp)(Y:DXK):Value→Hp→Prop:=fun c H'=>KT H₀ H'∧∃(x:Str) (C:Addr) (M':Mem),c = .ref C∧X.mg x=some (.ref C)∧u6 X.K H' M'∧Y (xN x) M'
noncomputable abbrev Cx.ex'(X:Cx)(mk:Bool)(H₀:Hp)(Y:DXK):Cx:=X.wish (XP X mk (c3u X H₀ Y))
section
variable {X:Cx} {mk:Bool} {H₀:Hp} {Y:DXK} {st:Stmt} {J4:List Stmt} {t u:DTS} {pos:Pos}
end
section
variable {P:Program} {w:World} {K:c6v} {mg:Str→Option Value} {base:Heap}
end
section
variable {X:Cx} {mk:Bool} {H₀:Hp} {Y:DXK} {pos cpos:Pos} {x:Str} {j:Nat} {ps:List Str} {sp:DSp} {p:Pos} {e:Expr} {es:List Expr} {t:DTA}
end
section
variable {X:Cx} {mk:Bool} {H₀:Hp} {Y:DXK} {pos:Pos} {e:Expr} {te:DTE}
end
section
variable {X:Cx} {H₀:Hp} {Y:DXK} {pos cpos np:Pos} {x:Str} {e₀:Expr} {te:DTE}
end
noncomputable abbrev Cx.pinned(X:Cx)(pn:List (Addr × Obj)):Cx:={ X with pn:=pn }
section
variable {X:Cx} {pins pn:List (Addr × Obj)} {σ:St} {H:Hp} {s:Shared}
end
section
variable {X:Cx} {body suite:List Stmt} {b0:Stmt} {c:Str} {np hpos pos:Pos} {tb:DXK→DTS} {ts:DTS}
end
section
variable {X:Cx} {body suite:List Stmt} {b0:Stmt} {c:Str} {np hpos pos:Pos} {tb:DXK→DTS} {ts:DTS}
end
end DL
namespace DL
open PySem PySem.Spec L2
noncomputable def BlK(x:D)(M:Mem)(Q:Bool→Mem→Prop):Prop:=∃ k,x = .bl k∧Q k M
noncomputable def IfK(c:Bool)(A B:Prop):Prop:=if c=true then A else B
noncomputable def SzK(n:Nat)(A:Prop):Prop:=n≤sizeLine∧A
noncomputable def c2A(i j:Nat)(ds:List D)(F:a1y)(e:Ev)(M:Mem):Prop:=∃ x y,ds=[x,y]∧F.nx ((e.set i (some x)).set j (some y)) M
noncomputable def c0D(x:D)(M:Mem)(Q:List D→(Mem→Prop)→Mem→Prop):Prop:=∃ ds,C0 M x ds∧Q ds (fun M'=>C0 M' x ds) M
noncomputable def b5p(xs:List D)(M:Mem)(Q:List D→(Mem→Prop)→Mem→Prop):Prop:=∃ x ds,xs=[x]∧C0 M x ds∧Q (X2 ds) (fun M'=>C0 M' x ds) M
noncomputable def b5k(xs:List D)(M:Mem)(Q:List D→(Mem→Prop)→Mem→Prop):Prop:=∃ x y ds es,xs=[x,y]∧C0 M x ds∧C0 M y es∧Q (T9 ds es) (fun M'=>C0 M' x ds∧C0 M' y es) M
noncomputable def c2z(xs:List D)(M:Mem)(Q:List D→(Mem→Prop)→Mem→Prop):Prop:=∃ j:Int,xs=[.int j]∧-(2 ^ 62)≤j∧j<2 ^ 62∧Q (J5 0 j.toNat) (fun _=>True) M
noncomputable def b8Y(xs:List D)(M:Mem)(Q:List D→(Mem→Prop)→Mem→Prop):Prop:=∃ j:Int,xs=[.int j]∧0≤j∧j<2 ^ 62∧Q (a0x (j - 1) j.toNat) (fun _=>True) M
noncomputable def b8X(xs:List D)(M:Mem)(Q:List D→(Mem→Prop)→Mem→Prop):Prop:=∃ i j:Int,xs=[.int i,.int j]∧(-(2 ^ 62)≤i∧i<2 ^ 62∧-(2 ^ 62)≤j∧j<2 ^ 62)∧Q (J5 i (j - i).toNat) (fun _=>True) M
noncomputable def P1(g:DTG)(tb:DTS)(F:a1y)(ds:List D)(stay:Mem→Prop)(e:Ev)(M1:Mem):Prop:=∃ W:Nat→Ev→Mem→Prop,W 0 e M1∧(∀ i e M,i≤ds.length→W i e M→stay M) ∧
 (∀(i:Nat) (d:D) e M,ds[i]? = some d→W i e M→g d e M fun e2 M2=>tb { F with nx:=W (i+1),ct:=W (i+1),bk:=F.nx } e2 M2)∧∀ e M,W ds.length e M→F.nx e M
noncomputable def c2D(x:D)(M1:Mem)(R:DK):Prop:=∃ p ds,x = .ref p∧M1 p=some (.lst ds)∧R (.vl ds) (a0o M1 p)
noncomputable def b8Z(x:D)(M:Mem)(Q:Option Int→Mem→Prop):Prop:=∃ i,x = .int i∧Q (some i) M
noncomputable def c2E(x:D)(M1:Mem)(R:DK):Prop:=∃ M2:Mem,(∀ b o,M2 b=some o→M1 b=some o)∧R x M2
noncomputable def LMK(x:D)(M:Mem)(A:Prop):Prop:=(∃ l ds,x = .ref l∧M l=some (.lst ds))∧A
end DL
namespace DL
open PySem PySem.Spec L2
open PyProof.Rows hiding St
section
variable {e:Ev} {M:Mem} {R:DK} {F:a1y} {ta tb tc:DTE} {tA tB:DTT} {tr:DTA} {t u:DTS}
theorem z_C{d:D}:dC d e M R=R d M:=rfl
theorem c1c{g:DR2}:dOp g ta tb e M R=ta e M fun x M1=>tb e M1 fun y M2=>g x y M2 R:=rfl
theorem c1a{g:D→Mem→DK→Prop}:dUn g ta e M R=ta e M fun x M1=>g x M1 R:=rfl
theorem c08{f:Int→Int→D}{i j:Int}:gF (fI f) (.int i) (.int j) M R=R (f i j) M:=propext ⟨fun zz=>by obtain⟨_,h,r⟩:=zz;cases h;exact r,fun r=>⟨_,rfl,r⟩⟩
theorem c09{f:Bool→Bool→D}{i j:Bool}:gF (fB f) (.bl i) (.bl j) M R=R (f i j) M:=propext ⟨fun zz=>by obtain⟨_,h,r⟩:=zz;cases h;exact r,fun r=>⟨_,rfl,r⟩⟩
theorem c07{f:Str→Str→D}{i j:Str}:gF (fS f) (.str i) (.str j) M R=R (f i j) M:=propext ⟨fun zz=>by obtain⟨_,h,r⟩:=zz;cases h;exact r,fun r=>⟨_,rfl,r⟩⟩
theorem c06{C:Int→Int→Prop}{f:Int→Int→D}{i j:Int}:gI C f (.int i) (.int j) M R=(C i j∧R (f i j) M):=propext ⟨fun zz=>by obtain⟨_,_,h1,h2,c,r⟩:=zz;cases h1;cases h2;exact⟨c,r⟩,fun⟨c,r⟩=>⟨_,_,rfl,rfl,c,r⟩⟩
theorem c05{f:Int→D}{i:Int}:gU f (.int i) M R=R (f i) M:=propext ⟨fun zz=>by obtain⟨_,h,r⟩:=zz;cases h;exact r,fun r=>⟨_,rfl,r⟩⟩
theorem b2L{Q:Bool→Mem→Prop}:b1g ta e M Q=ta e M fun x M'=>BlK x M' Q:=rfl
theorem b8s{b:Bool}{Q:Bool→Mem→Prop}:BlK (.bl b) M Q=Q b M:=propext ⟨fun zz=>by obtain⟨_,h,r⟩:=zz;cases h;exact r,fun r=>⟨_,rfl,r⟩⟩
theorem b8u{Q:Bool→Mem→Prop}:c2s tA tB e M Q=tA e M fun c M1=>IfK c (tB e M1 Q) (Q false M1):=rfl
theorem c1b{Q:Bool→Mem→Prop}:dOr tA tB e M Q=tA e M fun c M1=>IfK c (Q true M1) (tB e M1 Q):=rfl
theorem b8g{Q:Bool→Mem→Prop}:c2l tA e M Q=tA e M fun c M1=>Q (!c) M1:=rfl
theorem b3b:b8T ta tb e M R=ta e M fun x M1=>BlK x M1 fun c M1=>IfK c (tb e M1 R) (R (.bl false) M1):=rfl
theorem b2S:b8N ta e M R=ta e M fun x M1=>BlK x M1 fun c M1=>R (.bl (!c)) M1:=rfl
theorem c1e:dIf tA ta tb e M R=tA e M fun c M1=>IfK c (ta e M1 R) (tb e M1 R):=rfl
theorem b8l:c2o tA t u F e M=tA e M fun c M1=>IfK c (t F e M1) (u F e M1):=rfl
theorem b8h{Q:List D→Mem→Prop}:c2m e M Q=Q [] M:=rfl
theorem b2Y{Q:List D→Mem→Prop}:b8R ta tr e M Q=ta e M fun x M1=>tr e M1 fun xs M2=>Q (x :: xs) M2:=rfl
theorem b8b:c2g tr e M R=tr e M fun ds M1=>SzK ds.length (R (.tup ds) M1):=rfl
theorem b8j:c2n tr e M R=tr e M fun ds M1=>SzK ds.length (∀ p,M1 p=none→R (.ref p) (A7 M1 p (.lst ds))):=rfl
theorem a0i{x y z:D}(h:ixD M x y=some z):gIx x y M R=R z M:=propext ⟨fun zz=>by obtain⟨_,h',r⟩:=zz;rw[h]at h';cases h';exact r,fun r=>⟨_,h,r⟩⟩
theorem a4d{neg:Bool}{x y:D}{b:Bool}(h:isD x y=some b):gIs neg x y M R=R (.bl (neg.xor b)) M:=propext ⟨fun zz=>by obtain⟨_,h',r⟩:=zz;rw[h]at h';cases h';exact r,fun r=>⟨_,h,r⟩⟩
theorem b8r{neg:Bool}{x y:D}:c0m neg x y M R=(cl 60 x=true∧cl 60 y=true∧R (.bl (neg.xor (@decide (x=y) (c7v _)))) M):=rfl
theorem b3a{sp:DSp}{dds:List D}{Y:DXK}:b1i sp dds Y tr e M R=tr e M fun ds M1=>sp (ds++dds) M1 R Y:=rfl
theorem c1f{g:DRC}:dCB g tr e M R=tr e M fun ds M1=>g ds M1 R:=rfl
theorem b2T:b8O F e M=F.nx e M:=rfl
theorem b8d:c2i t u F e M=t { F with nx:=u F } e M:=rfl
theorem b2X:b8Q ta F e M=ta e M fun _ M1=>F.nx e M1:=rfl
theorem b8e:c2j ta F e M=ta e M F.rt:=rfl
theorem b0t:b4V F e M=False:=rfl
variable {Q:Ev→Mem→Prop}
theorem b0h{i:Nat}{d:D}:a0R i d e M Q=Q (e.set i (some d)) M:=rfl
theorem b2K:b8J [] e M Q=Q e M:=propext ⟨fun h=>h.2,fun h=>⟨rfl,h⟩⟩
theorem b0i{g:DTG}{gs:X6}{d:D}{ds:List D}:b4S g gs (d :: ds) e M Q=g d e M fun e' M'=>gs ds e' M' Q:=propext ⟨fun zz=>by obtain⟨_,_,h,r⟩:=zz;cases h;exact r,fun r=>⟨_,_,rfl,r⟩⟩
theorem a7y{n:Nat}{gs:X6}{ds:List D}(h:ds.length=n):b4R n gs (.vl ds) e M Q=gs ds e M Q:=propext ⟨fun zz=>by obtain⟨_,h',_,r⟩:=zz;cases h';exact r,fun r=>⟨_,rfl,h,r⟩⟩
theorem a3d{n:Nat}{gs:X6}{ds:List D}(h:ds.length=n):a8A n gs (.tup ds) e M Q=gs ds e M Q:=propext ⟨fun zz=>by obtain⟨_,h',_,r⟩:=zz;cases h';exact r,fun r=>⟨_,rfl,h,r⟩⟩
theorem b2J{to ti:DTE}{ts:b5q}{d:D}:b8I to ti ts d e M Q=to e M fun o M1=>ti e M1 fun i M2=>ts o i d M2 fun M3=>Q e M3:=rfl
theorem b8t{g:DTG}:b2b ta g F e M=ta e M fun x M1=>g x e M1 F.nx:=rfl
theorem b8f{i j:Nat}:c2k i j tr F e M=tr e M fun ds M1=>c2A i j ds F e M1:=rfl
theorem b2R{i j:Nat}{x y:D}:c2A i j [x,y] F e M=F.nx ((e.set i (some x)).set j (some y)) M:=propext ⟨fun zz=>by obtain⟨_,_,h,r⟩:=zz;cases h;exact r,fun r=>⟨_,_,rfl,r⟩⟩
theorem b8v{i:Int}:c2e [.int i] M R=R (.int (i.natAbs:Int)) M:=propext ⟨fun zz=>by obtain⟨_,h,r⟩:=zz;cases h;exact r,fun r=>⟨_,rfl,r⟩⟩
theorem b8i{i j:Int}:c2a [.int i,.int j] M R=R (.int (max i j)) M:=propext ⟨fun zz=>by obtain⟨_,_,h,r⟩:=zz;cases h;exact r,fun r=>⟨_,_,rfl,r⟩⟩
theorem a7I{d:D}{n:Nat}(h:b4j M d=some n):b1V [d] M R=R (.int (n:Int)) M:=propext ⟨fun zz=>by obtain⟨_,_,h',h2,r⟩:=zz;cases h';rw[h]at h2;cases h2;exact r,fun r=>⟨_,_,rfl,h,r⟩⟩
theorem v9{d:D}{ty T:String}{b:Bool}(h1:tyD M d=some ty)(h2:b6p ty T=some b):C4 [d,.ty T] M R=R (.bl b) M:=propext ⟨fun zz=>by
 obtain⟨_,_,_,_,h,h1',h2',r⟩:=zz
 injection h with h h';subst h;injection h' with h';injection h' with h';subst h'
 rw[h1]at h1';cases h1';rw[h2]at h2';cases h2';exact r,fun r=>⟨_,_,_,_,rfl,h1,h2,r⟩⟩
theorem b8m{c:Bool}{A B:Prop}:IfK c A B=((c=true→A)∧(c=false→B)):=by cases c<;>simp[IfK]
theorem b8k{A B:Prop}:IfK true A B=A:=by simp[IfK]
theorem b8n{A B:Prop}:IfK false A B=B:=by simp[IfK]
theorem D7{n:Nat}{A:Prop}(h:n≤1000):SzK n A=A:=propext ⟨fun h=>h.2,fun a=>⟨sl n h,a⟩⟩
theorem c0U{d:D}{r:Ev}:a0p 0 (some d :: r) M R=R d M:=propext ⟨fun zz=>by obtain⟨_,h,q⟩:=zz;cases h;exact q,fun q=>⟨_,rfl,q⟩⟩
theorem c04{y z:Option D}{r:Ev}:(y :: r:Ev).set 0 z=z :: r:=rfl
theorem c0T{x0:Option D}{d:D}{r:Ev}:a0p 1 (x0 :: some d :: r) M R=R d M:=propext ⟨fun zz=>by obtain⟨_,h,q⟩:=zz;cases h;exact q,fun q=>⟨_,rfl,q⟩⟩
theorem c03{x0:Option D}{y z:Option D}{r:Ev}:(x0 :: y :: r:Ev).set 1 z=x0 :: z :: r:=rfl
theorem c0S{x0 x1:Option D}{d:D}{r:Ev}:a0p 2 (x0 :: x1 :: some d :: r) M R=R d M:=propext ⟨fun zz=>by obtain⟨_,h,q⟩:=zz;cases h;exact q,fun q=>⟨_,rfl,q⟩⟩
theorem c02{x0 x1:Option D}{y z:Option D}{r:Ev}:(x0 :: x1 :: y :: r:Ev).set 2 z=x0 :: x1 :: z :: r:=rfl
theorem c0R{x0 x1 x2:Option D}{d:D}{r:Ev}:a0p 3 (x0 :: x1 :: x2 :: some d :: r) M R=R d M:=propext ⟨fun zz=>by obtain⟨_,h,q⟩:=zz;cases h;exact q,fun q=>⟨_,rfl,q⟩⟩
theorem c01{x0 x1 x2:Option D}{y z:Option D}{r:Ev}:(x0 :: x1 :: x2 :: y :: r:Ev).set 3 z=x0 :: x1 :: x2 :: z :: r:=rfl
theorem c0Q{x0 x1 x2 x3:Option D}{d:D}{r:Ev}:a0p 4 (x0 :: x1 :: x2 :: x3 :: some d :: r) M R=R d M:=propext ⟨fun zz=>by obtain⟨_,h,q⟩:=zz;cases h;exact q,fun q=>⟨_,rfl,q⟩⟩
theorem c00{x0 x1 x2 x3:Option D}{y z:Option D}{r:Ev}:(x0 :: x1 :: x2 :: x3 :: y :: r:Ev).set 4 z=x0 :: x1 :: x2 :: x3 :: z :: r:=rfl
theorem c0P{x0 x1 x2 x3 x4:Option D}{d:D}{r:Ev}:a0p 5 (x0 :: x1 :: x2 :: x3 :: x4 :: some d :: r) M R=R d M:=propext ⟨fun zz=>by obtain⟨_,h,q⟩:=zz;cases h;exact q,fun q=>⟨_,rfl,q⟩⟩
theorem c0Z{x0 x1 x2 x3 x4:Option D}{y z:Option D}{r:Ev}:(x0 :: x1 :: x2 :: x3 :: x4 :: y :: r:Ev).set 5 z=x0 :: x1 :: x2 :: x3 :: x4 :: z :: r:=rfl
theorem c0O{x0 x1 x2 x3 x4 x5:Option D}{d:D}{r:Ev}:a0p 6 (x0 :: x1 :: x2 :: x3 :: x4 :: x5 :: some d :: r) M R=R d M:=propext ⟨fun zz=>by obtain⟨_,h,q⟩:=zz;cases h;exact q,fun q=>⟨_,rfl,q⟩⟩
theorem c0Y{x0 x1 x2 x3 x4 x5:Option D}{y z:Option D}{r:Ev}:(x0 :: x1 :: x2 :: x3 :: x4 :: x5 :: y :: r:Ev).set 6 z=x0 :: x1 :: x2 :: x3 :: x4 :: x5 :: z :: r:=rfl
theorem c0N{x0 x1 x2 x3 x4 x5 x6:Option D}{d:D}{r:Ev}:a0p 7 (x0 :: x1 :: x2 :: x3 :: x4 :: x5 :: x6 :: some d :: r) M R=R d M:=propext ⟨fun zz=>by obtain⟨_,h,q⟩:=zz;cases h;exact q,fun q=>⟨_,rfl,q⟩⟩
theorem c0X{x0 x1 x2 x3 x4 x5 x6:Option D}{y z:Option D}{r:Ev}:(x0 :: x1 :: x2 :: x3 :: x4 :: x5 :: x6 :: y :: r:Ev).set 7 z=x0 :: x1 :: x2 :: x3 :: x4 :: x5 :: x6 :: z :: r:=rfl
theorem c0M{x0 x1 x2 x3 x4 x5 x6 x7:Option D}{d:D}{r:Ev}:a0p 8 (x0 :: x1 :: x2 :: x3 :: x4 :: x5 :: x6 :: x7 :: some d :: r) M R=R d M:=propext ⟨fun zz=>by obtain⟨_,h,q⟩:=zz;cases h;exact q,fun q=>⟨_,rfl,q⟩⟩
theorem c0W{x0 x1 x2 x3 x4 x5 x6 x7:Option D}{y z:Option D}{r:Ev}:(x0 :: x1 :: x2 :: x3 :: x4 :: x5 :: x6 :: x7 :: y :: r:Ev).set 8 z=x0 :: x1 :: x2 :: x3 :: x4 :: x5 :: x6 :: x7 :: z :: r:=rfl
theorem c0L{x0 x1 x2 x3 x4 x5 x6 x7 x8:Option D}{d:D}{r:Ev}:a0p 9 (x0 :: x1 :: x2 :: x3 :: x4 :: x5 :: x6 :: x7 :: x8 :: some d :: r) M R=R d M:=propext ⟨fun zz=>by obtain⟨_,h,q⟩:=zz;cases h;exact q,fun q=>⟨_,rfl,q⟩⟩
theorem c0V{x0 x1 x2 x3 x4 x5 x6 x7 x8:Option D}{y z:Option D}{r:Ev}:(x0 :: x1 :: x2 :: x3 :: x4 :: x5 :: x6 :: x7 :: x8 :: y :: r:Ev).set 9 z=x0 :: x1 :: x2 :: x3 :: x4 :: x5 :: x6 :: x7 :: x8 :: z :: r:=rfl
theorem b7P{x0 x1 x2 x3 x4 x5 x6 x7 x8 x9:Option D}{d:D}{r:Ev}:a0p 10 (x0 :: x1 :: x2 :: x3 :: x4 :: x5 :: x6 :: x7 :: x8 :: x9 :: some d :: r) M R=R d M:=propext ⟨fun zz=>by obtain⟨_,h,q⟩:=zz;cases h;exact q,fun q=>⟨_,rfl,q⟩⟩
theorem b79{x0 x1 x2 x3 x4 x5 x6 x7 x8 x9:Option D}{y z:Option D}{r:Ev}:(x0 :: x1 :: x2 :: x3 :: x4 :: x5 :: x6 :: x7 :: x8 :: x9 :: y :: r:Ev).set 10 z=x0 :: x1 :: x2 :: x3 :: x4 :: x5 :: x6 :: x7 :: x8 :: x9 :: z :: r:=rfl
theorem b7O{x0 x1 x2 x3 x4 x5 x6 x7 x8 x9 x10:Option D}{d:D}{r:Ev}:a0p 11 (x0 :: x1 :: x2 :: x3 :: x4 :: x5 :: x6 :: x7 :: x8 :: x9 :: x10 :: some d :: r) M R=R d M:=propext ⟨fun zz=>by obtain⟨_,h,q⟩:=zz;cases h;exact q,fun q=>⟨_,rfl,q⟩⟩
theorem b78{x0 x1 x2 x3 x4 x5 x6 x7 x8 x9 x10:Option D}{y z:Option D}{r:Ev}:(x0 :: x1 :: x2 :: x3 :: x4 :: x5 :: x6 :: x7 :: x8 :: x9 :: x10 :: y :: r:Ev).set 11 z=x0 :: x1 :: x2 :: x3 :: x4 :: x5 :: x6 :: x7 :: x8 :: x9 :: x10 :: z :: r:=rfl
theorem b7N{x0 x1 x2 x3 x4 x5 x6 x7 x8 x9 x10 x11:Option D}{d:D}{r:Ev}:a0p 12 (x0 :: x1 :: x2 :: x3 :: x4 :: x5 :: x6 :: x7 :: x8 :: x9 :: x10 :: x11 :: some d :: r) M R=R d M:=propext ⟨fun zz=>by obtain⟨_,h,q⟩:=zz;cases h;exact q,fun q=>⟨_,rfl,q⟩⟩
theorem b77{x0 x1 x2 x3 x4 x5 x6 x7 x8 x9 x10 x11:Option D}{y z:Option D}{r:Ev}:(x0 :: x1 :: x2 :: x3 :: x4 :: x5 :: x6 :: x7 :: x8 :: x9 :: x10 :: x11 :: y :: r:Ev).set 12 z=x0 :: x1 :: x2 :: x3 :: x4 :: x5 :: x6 :: x7 :: x8 :: x9 :: x10 :: x11 :: z :: r:=rfl
theorem b7M{x0 x1 x2 x3 x4 x5 x6 x7 x8 x9 x10 x11 x12:Option D}{d:D}{r:Ev}:a0p 13 (x0 :: x1 :: x2 :: x3 :: x4 :: x5 :: x6 :: x7 :: x8 :: x9 :: x10 :: x11 :: x12 :: some d :: r) M R=R d M:=propext ⟨fun zz=>by obtain⟨_,h,q⟩:=zz;cases h;exact q,fun q=>⟨_,rfl,q⟩⟩
theorem b76{x0 x1 x2 x3 x4 x5 x6 x7 x8 x9 x10 x11 x12:Option D}{y z:Option D}{r:Ev}:(x0 :: x1 :: x2 :: x3 :: x4 :: x5 :: x6 :: x7 :: x8 :: x9 :: x10 :: x11 :: x12 :: y :: r:Ev).set 13 z=x0 :: x1 :: x2 :: x3 :: x4 :: x5 :: x6 :: x7 :: x8 :: x9 :: x10 :: x11 :: x12 :: z :: r:=rfl
theorem b7L{x0 x1 x2 x3 x4 x5 x6 x7 x8 x9 x10 x11 x12 x13:Option D}{d:D}{r:Ev}:a0p 14 (x0 :: x1 :: x2 :: x3 :: x4 :: x5 :: x6 :: x7 :: x8 :: x9 :: x10 :: x11 :: x12 :: x13 :: some d :: r) M R=R d M:=propext ⟨fun zz=>by obtain⟨_,h,q⟩:=zz;cases h;exact q,fun q=>⟨_,rfl,q⟩⟩
theorem b75{x0 x1 x2 x3 x4 x5 x6 x7 x8 x9 x10 x11 x12 x13:Option D}{y z:Option D}{r:Ev}:(x0 :: x1 :: x2 :: x3 :: x4 :: x5 :: x6 :: x7 :: x8 :: x9 :: x10 :: x11 :: x12 :: x13 :: y :: r:Ev).set 14 z=x0 :: x1 :: x2 :: x3 :: x4 :: x5 :: x6 :: x7 :: x8 :: x9 :: x10 :: x11 :: x12 :: x13 :: z :: r:=rfl
theorem B9{M:Mem}{ds es:List D}:C0 M (.tup ds) es=(es=ds):=by
 apply propext
 constructor
 ·intro h
  rcases h with h|⟨_,h,_⟩|h
  ·injection h with h;exact h.symm
  ·exact absurd h (by intro z;cases z)
  ·exact absurd h (by intro z;cases z)
 ·intro h;exact .inl (by rw[h])
theorem j7{M:Mem}{ds es:List D}:C0 M (.vl ds) es=(es=ds):=by
 apply propext
 constructor
 ·intro h
  rcases h with h|⟨_,h,_⟩|h
  ·exact absurd h (by intro z;cases z)
  ·exact absurd h (by intro z;cases z)
  ·injection h with h;exact h.symm
 ·intro h;exact .inr (.inr (by rw[h]))
theorem A2{ds:List D}{n:Nat}{d:D}(h:ds[n]? = some d):atI ds (n:Int)=some d:=by
 obtain⟨hl,_⟩:=c6F.mp h
 unfold atI ixN
 rw[if_pos (c75 n),if_pos (by omega)]
 simpa using h
theorem b2U:b8P tr e M R=tr e M fun ds M1=>SzK ds.length (R (.vl ds) M1):=rfl
theorem b2Z:b8S ta tb e M R=ta e M fun x M1=>tb e M1 fun y M2=>b09 x y M2 R:=rfl
theorem b8c{tl th:DTO}:c2h ta tl th e M R=ta e M fun x M1=>tl e M1 fun l M2=>th e M2 fun u M3=>b4C x l u M3 R:=rfl
theorem a7H{Q:Option Int→Mem→Prop}:b1h e M Q=Q none M:=rfl
theorem b2Q{Q:Option Int→Mem→Prop}:b8M ta e M Q=ta e M fun x M1=>b8Z x M1 Q:=rfl
theorem b0s{i:Int}{Q:Option Int→Mem→Prop}:b8Z (.int i) M Q=Q (some i) M:=propext ⟨fun zz=>by obtain⟨_,h,r⟩:=zz;cases h;exact r,fun r=>⟨_,rfl,r⟩⟩
theorem b0u:b4W tr e M R=tr e M fun ds M1=>a6W ds M1 R:=rfl
theorem a7B{ds:List D}:a6W [.tup ds] M R=R (.vl ds) M:=propext ⟨fun zz=>by obtain⟨_,_,h,h2,r⟩:=zz;cases h;rw[B9]at h2;subst h2;exact r,fun r=>⟨_,_,rfl,.inl rfl,r⟩⟩
theorem a5t{ds:List D}:a6W [.vl ds] M R=R (.vl ds) M:=propext ⟨fun zz=>by obtain⟨_,_,h,h2,r⟩:=zz;cases h;rw[j7]at h2;subst h2;exact r,fun r=>⟨_,_,rfl,.inr (.inr rfl),r⟩⟩
theorem a7x{ds:List D}:b8A [.vl ds] M R=R (.tup ds) M:=propext ⟨fun zz=>by obtain⟨_,_,h,h2,r⟩:=zz;cases h;cases h2;exact r,fun r=>⟨_,_,rfl,rfl,r⟩⟩
theorem a7C{xs ys:List D}:b09 (.vl xs) (.vl ys) M R=SzK (xs.length+ys.length) (R (.vl (xs++ys)) M):=propext ⟨fun zz=>by obtain⟨_,_,h,h2,z,r⟩:=zz;cases h;cases h2;exact⟨z,r⟩,fun⟨z,r⟩=>⟨_,_,rfl,rfl,z,r⟩⟩
theorem b0g{xs:List D}{lo hi:Option Int}:b4C (.vl xs) lo hi M R=R (.vl (U0 xs lo hi)) M:=propext ⟨fun h=>by
 rcases h with⟨_,h,r⟩|⟨_,h,_⟩
 ·cases h;exact r
 ·exact(nomatch h),fun r=>.inl ⟨_,rfl,r⟩⟩
theorem b0f{xs:List D}{lo hi:Option Int}:b4C (.tup xs) lo hi M R=(¬ (HT.sIx xs.length 0 lo=0∧HT.sIx xs.length xs.length hi=xs.length)∧R (.tup (U0 xs lo hi)) M):=propext ⟨fun h=>by
 rcases h with⟨_,h,r⟩|⟨_,h,hw,r⟩
 ·cases h
 ·cases h;exact⟨hw,r⟩,fun⟨hw,r⟩=>.inr ⟨_,rfl,hw,r⟩⟩
theorem b2P:b8L ta e M R=ta e M fun x M1=>b06 x M1 R:=rfl
theorem a7z{ds:List D}:b06 (.vl ds) M R=R (.vl ds.reverse) M:=propext ⟨fun zz=>by obtain⟨_,h,r⟩:=zz;rw[j7]at h;subst h;exact r,fun r=>⟨_,.inr (.inr rfl),r⟩⟩
theorem a7A{ds:List D}:b06 (.tup ds) M R=R (.vl ds.reverse) M:=propext ⟨fun zz=>by obtain⟨_,h,r⟩:=zz;rw[B9]at h;subst h;exact r,fun r=>⟨_,.inl rfl,r⟩⟩
theorem b8o:c2p ta e M R=ta e M fun x M1=>c2D x M1 R:=rfl
theorem a0z{p:Addr}{ds:List D}(h:M p=some (.lst ds)):c2D (.ref p) M R=R (.vl ds) (a0o M p):=propext ⟨fun zz=>by obtain⟨_,_,e,h',r⟩:=zz;cases e;rw[h]at h';cases h';exact r,fun r=>⟨_,_,rfl,h,r⟩⟩
theorem b0x{n:Nat}{caps:List Nat}{ti:DTI}{g:DTG}{tc:T8}{te:DTE}:a9M n caps ti g tc te e M R=ti e M fun ds stay M1=>b81 (a4L n caps e) g tc te ds stay M1 R:=rfl
theorem b0y{n:Nat}{caps:List Nat}{ti:DTI}{g:DTG}{tc:T8}{te:DTE}:a9N n caps ti g tc te e M R=ti e M fun ds stay M1=>b82 (a4L n caps e) g tc te ds stay M1 R:=rfl
theorem b8a{Q:Bool→Mem→Prop}:b4T e M Q=Q true M:=rfl
section
variable {Q:List D→(Mem→Prop)→Mem→Prop}
theorem b0k:b8G ta e M Q=ta e M fun x M1=>c0D x M1 Q:=rfl
theorem b2N{ds:List D}:c0D (.tup ds) M Q=Q ds (fun M'=>C0 M' (.tup ds) ds) M:=propext ⟨fun zz=>by obtain⟨_,h,r⟩:=zz;rw[B9]at h;subst h;exact r,fun r=>⟨_,.inl rfl,r⟩⟩
theorem b2M{ds:List D}:c0D (.vl ds) M Q=Q ds (fun M'=>C0 M' (.vl ds) ds) M:=propext ⟨fun zz=>by obtain⟨_,h,r⟩:=zz;rw[j7]at h;subst h;exact r,fun r=>⟨_,.inr (.inr rfl),r⟩⟩
theorem a7F:b4P tr e M Q=tr e M fun xs M1=>b5p xs M1 Q:=rfl
theorem b0w{ds:List D}:b5p [.tup ds] M Q=Q (X2 ds) (fun M'=>C0 M' (.tup ds) ds) M:=propext ⟨fun zz=>by obtain⟨_,_,h,h2,r⟩:=zz;cases h;rw[B9]at h2;subst h2;exact r,fun r=>⟨_,_,rfl,.inl rfl,r⟩⟩
theorem b0v{ds:List D}:b5p [.vl ds] M Q=Q (X2 ds) (fun M'=>C0 M' (.vl ds) ds) M:=propext ⟨fun zz=>by obtain⟨_,_,h,h2,r⟩:=zz;cases h;rw[j7]at h2;subst h2;exact r,fun r=>⟨_,_,rfl,.inr (.inr rfl),r⟩⟩
theorem b0j:b8F tr e M Q=tr e M fun xs M1=>b5k xs M1 Q:=rfl
theorem b0p{ds es:List D}:b5k [.tup ds,.tup es] M Q=Q (T9 ds es) (fun M'=>C0 M' (.tup ds) ds∧C0 M' (.tup es) es) M:=propext ⟨fun zz=>by obtain⟨_,_,_,_,h,h2,h3,r⟩:=zz;cases h;rw[B9]at h2 h3;subst h2;subst h3;exact r,fun r=>⟨_,_,_,_,rfl,.inl rfl,.inl rfl,r⟩⟩
theorem b0m{ds es:List D}:b5k [.vl ds,.vl es] M Q=Q (T9 ds es) (fun M'=>C0 M' (.vl ds) ds∧C0 M' (.vl es) es) M:=propext ⟨fun zz=>by obtain⟨_,_,_,_,h,h2,h3,r⟩:=zz;cases h;rw[j7]at h2 h3;subst h2;subst h3;exact r,fun r=>⟨_,_,_,_,rfl,.inr (.inr rfl),.inr (.inr rfl),r⟩⟩
theorem b0o{ds es:List D}:b5k [.tup ds,.vl es] M Q=Q (T9 ds es) (fun M'=>C0 M' (.tup ds) ds∧C0 M' (.vl es) es) M:=propext ⟨fun zz=>by obtain⟨_,_,_,_,h,h2,h3,r⟩:=zz;cases h;rw[B9]at h2;rw[j7]at h3;subst h2;subst h3;exact r,fun r=>⟨_,_,_,_,rfl,.inl rfl,.inr (.inr rfl),r⟩⟩
theorem b0n{ds es:List D}:b5k [.vl ds,.tup es] M Q=Q (T9 ds es) (fun M'=>C0 M' (.vl ds) ds∧C0 M' (.tup es) es) M:=propext ⟨fun zz=>by obtain⟨_,_,_,_,h,h2,h3,r⟩:=zz;cases h;rw[j7]at h2;rw[B9]at h3;subst h2;subst h3;exact r,fun r=>⟨_,_,_,_,rfl,.inr (.inr rfl),.inl rfl,r⟩⟩
theorem b0l:b8H tr e M Q=tr e M fun xs M1=>c2z xs M1 Q:=rfl
theorem b2O{j:Int}:c2z [.int j] M Q=((-(2 ^ 62)≤j∧j<2 ^ 62)∧Q (J5 0 j.toNat) (fun _=>True) M):=propext ⟨fun zz=>by obtain⟨_,h,a,b,r⟩:=zz;cases h;exact⟨⟨a,b⟩,r⟩,fun⟨⟨a,b⟩,r⟩=>⟨_,rfl,a,b,r⟩⟩
theorem a7G:b4Q tr e M Q=tr e M fun ds M1=>b5s ds M1 Q:=rfl
theorem b0z{xs:List D}:b5s [.vl xs] M Q=Q xs.reverse (fun _=>True) M:=propext ⟨fun zz=>by obtain⟨_,h,r⟩:=zz;cases h;exact r,fun r=>⟨_,rfl,r⟩⟩
theorem a7E:b4O tr e M Q=tr e M fun xs M1=>b8Y xs M1 Q:=rfl
theorem b0r{j:Int}:b8Y [.int j] M Q=((0≤j∧j<2 ^ 62)∧Q (a0x (j - 1) j.toNat) (fun _=>True) M):=propext ⟨fun zz=>by obtain⟨_,h,a,b,r⟩:=zz;cases h;exact⟨⟨a,b⟩,r⟩,fun zz=>⟨j,rfl,zz.1.1,zz.1.2,zz.2⟩⟩
theorem a7D:b4N tr e M Q=tr e M fun xs M1=>b8X xs M1 Q:=rfl
theorem b0q{i j:Int}:b8X [.int i,.int j] M Q=((-(2 ^ 62)≤i∧i<2 ^ 62∧-(2 ^ 62)≤j∧j<2 ^ 62)∧Q (J5 i (j - i).toNat) (fun _=>True) M):=propext ⟨fun zz=>by obtain⟨_,_,h,a,r⟩:=zz;cases h;exact⟨a,r⟩,fun⟨a,r⟩=>⟨_,_,rfl,a,r⟩⟩
end
theorem b8p{ti:DTI}{g:DTG}:c2q ti g t F e M=ti e M fun ds stay M1=>P1 g t F ds stay e M1:=rfl
theorem P1.by{g:DTG}{ds:List D}{stay:Mem→Prop}{M1:Mem}(W:Nat→Ev→Mem→Prop)(w0:W 0 e M1)(st:∀ i e M,i≤ds.length→W i e M→stay M)
  (turn:∀(i:Nat) (d:D) e M,ds[i]? = some d→W i e M→g d e M fun e2 M2=>t { F with nx:=W (i+1),ct:=W (i+1),bk:=F.nx } e2 M2) (done:∀ e M,W ds.length e M→F.nx e M):P1 g t F ds stay e M1:=⟨W,w0,st,turn,done⟩
theorem b7H{F:a1y}(W:Nat→Ev→Mem→Prop)(m:Nat)(w0:W m e M)(turn:∀ m e M,W m e M→tA e M fun b M1=>IfK b (t { F with nx:=fun e' M'=>∃ m',m'<m∧W m' e' M',ct:=fun e' M'=>∃ m',m'<m∧W m' e' M',bk:=F.nx } e M1) (F.nx e M1)):b4U tA t F e M:=⟨W,⟨m,w0⟩,turn⟩
theorem P0{F:a1y}(P:Ev→Mem→Prop)(h1:t { F with nx:=P } e M)(h2:∀ e' M',P e' M'→u F e' M'):b8K t u F e M:=⟨P,h1,h2⟩
theorem c1d{g:DRM}:dLM g ta tr e M R=ta e M fun x M1=>LMK x M1 (tr e M1 fun xs M2=>g x xs M2 R):=rfl
theorem a2Y{x0:D}{r:List D}:gIx (.tup (x0 :: r)) (.int 0) M R=R x0 M:=a0i (A2 (n:=0) rfl)
theorem b2D{x0:D}{r:List D}:gIx (.vl (x0 :: r)) (.int 0) M R=R x0 M:=a0i (A2 (n:=0) rfl)
theorem a2X{x0 x1:D}{r:List D}:gIx (.tup (x0 :: x1 :: r)) (.int 1) M R=R x1 M:=a0i (A2 (n:=1) rfl)
theorem b2C{x0 x1:D}{r:List D}:gIx (.vl (x0 :: x1 :: r)) (.int 1) M R=R x1 M:=a0i (A2 (n:=1) rfl)
theorem a8V{x0 x1 x2:D}{r:List D}:gIx (.tup (x0 :: x1 :: x2 :: r)) (.int 2) M R=R x2 M:=a0i (A2 (n:=2) rfl)
theorem b2B{x0 x1 x2:D}{r:List D}:gIx (.vl (x0 :: x1 :: x2 :: r)) (.int 2) M R=R x2 M:=a0i (A2 (n:=2) rfl)
theorem b2I{x0 x1 x2 x3:D}{r:List D}:gIx (.tup (x0 :: x1 :: x2 :: x3 :: r)) (.int 3) M R=R x3 M:=a0i (A2 (n:=3) rfl)
theorem b2A{x0 x1 x2 x3:D}{r:List D}:gIx (.vl (x0 :: x1 :: x2 :: x3 :: r)) (.int 3) M R=R x3 M:=a0i (A2 (n:=3) rfl)
theorem b2H{x0 x1 x2 x3 x4:D}{r:List D}:gIx (.tup (x0 :: x1 :: x2 :: x3 :: x4 :: r)) (.int 4) M R=R x4 M:=a0i (A2 (n:=4) rfl)
theorem b2z{x0 x1 x2 x3 x4:D}{r:List D}:gIx (.vl (x0 :: x1 :: x2 :: x3 :: x4 :: r)) (.int 4) M R=R x4 M:=a0i (A2 (n:=4) rfl)
theorem b2G{x0 x1 x2 x3 x4 x5:D}{r:List D}:gIx (.tup (x0 :: x1 :: x2 :: x3 :: x4 :: x5 :: r)) (.int 5) M R=R x5 M:=a0i (A2 (n:=5) rfl)
theorem b2y{x0 x1 x2 x3 x4 x5:D}{r:List D}:gIx (.vl (x0 :: x1 :: x2 :: x3 :: x4 :: x5 :: r)) (.int 5) M R=R x5 M:=a0i (A2 (n:=5) rfl)
theorem b2F{x0 x1 x2 x3 x4 x5 x6:D}{r:List D}:gIx (.tup (x0 :: x1 :: x2 :: x3 :: x4 :: x5 :: x6 :: r)) (.int 6) M R=R x6 M:=a0i (A2 (n:=6) rfl)
theorem b2x{x0 x1 x2 x3 x4 x5 x6:D}{r:List D}:gIx (.vl (x0 :: x1 :: x2 :: x3 :: x4 :: x5 :: x6 :: r)) (.int 6) M R=R x6 M:=a0i (A2 (n:=6) rfl)
theorem b2E{x0 x1 x2 x3 x4 x5 x6 x7:D}{r:List D}:gIx (.tup (x0 :: x1 :: x2 :: x3 :: x4 :: x5 :: x6 :: x7 :: r)) (.int 7) M R=R x7 M:=a0i (A2 (n:=7) rfl)
theorem b2w{x0 x1 x2 x3 x4 x5 x6 x7:D}{r:List D}:gIx (.vl (x0 :: x1 :: x2 :: x3 :: x4 :: x5 :: x6 :: x7 :: r)) (.int 7) M R=R x7 M:=a0i (A2 (n:=7) rfl)
theorem b7Z{A:Prop}:SzK (0) A=A:=D7 (by decide)
theorem b7Y{A:Prop}:SzK (0+1) A=A:=D7 (by decide)
theorem b7X{A:Prop}:SzK (0+1+1) A=A:=D7 (by decide)
theorem b7W{A:Prop}:SzK (0+1+1+1) A=A:=D7 (by decide)
theorem b7V{A:Prop}:SzK (0+1+1+1+1) A=A:=D7 (by decide)
theorem b7U{A:Prop}:SzK (0+1+1+1+1+1) A=A:=D7 (by decide)
theorem b7T{A:Prop}:SzK (0+1+1+1+1+1+1) A=A:=D7 (by decide)
theorem b7S{A:Prop}:SzK (0+1+1+1+1+1+1+1) A=A:=D7 (by decide)
theorem b7R{A:Prop}:SzK (0+1+1+1+1+1+1+1+1) A=A:=D7 (by decide)
theorem b7Q{A:Prop}:SzK (0+1+1+1+1+1+1+1+1+1) A=A:=D7 (by decide)
theorem b6f{i:Int}:cl 60 (.int i)=true:=rfl
theorem b5Z:cl 60 .non=true:=rfl
theorem b5P{ds:List D}:cl 60 (.tup ds)=clL 59 ds:=rfl
theorem b5J{ds:List D}:cl 60 (.vl ds)=clL 59 ds:=rfl
theorem b5x:clL 59 []=true:=rfl
theorem b5D{d:D}{r:List D}:clL 59 (d :: r)=(cl 59 d && clL 59 r):=rfl
theorem b6g{i:Int}:cl 59 (.int i)=true:=rfl
theorem b6a:cl 59 .non=true:=rfl
theorem b5Q{ds:List D}:cl 59 (.tup ds)=clL 58 ds:=rfl
theorem b5K{ds:List D}:cl 59 (.vl ds)=clL 58 ds:=rfl
theorem b5y:clL 58 []=true:=rfl
theorem b5E{d:D}{r:List D}:clL 58 (d :: r)=(cl 58 d && clL 58 r):=rfl
theorem b6h{i:Int}:cl 58 (.int i)=true:=rfl
theorem b6b:cl 58 .non=true:=rfl
theorem b5R{ds:List D}:cl 58 (.tup ds)=clL 57 ds:=rfl
theorem b5L{ds:List D}:cl 58 (.vl ds)=clL 57 ds:=rfl
theorem b5z:clL 57 []=true:=rfl
theorem b5F{d:D}{r:List D}:clL 57 (d :: r)=(cl 57 d && clL 57 r):=rfl
theorem b6i{i:Int}:cl 57 (.int i)=true:=rfl
theorem b6c:cl 57 .non=true:=rfl
theorem b5S{ds:List D}:cl 57 (.tup ds)=clL 56 ds:=rfl
theorem b5M{ds:List D}:cl 57 (.vl ds)=clL 56 ds:=rfl
theorem b5A:clL 56 []=true:=rfl
theorem b5G{d:D}{r:List D}:clL 56 (d :: r)=(cl 56 d && clL 56 r):=rfl
theorem b6j{i:Int}:cl 56 (.int i)=true:=rfl
theorem b6d:cl 56 .non=true:=rfl
theorem b5T{ds:List D}:cl 56 (.tup ds)=clL 55 ds:=rfl
theorem b5N{ds:List D}:cl 56 (.vl ds)=clL 55 ds:=rfl
theorem b5B:clL 55 []=true:=rfl
theorem b5H{d:D}{r:List D}:clL 55 (d :: r)=(cl 55 d && clL 55 r):=rfl
theorem b6k{i:Int}:cl 55 (.int i)=true:=rfl
theorem b6e:cl 55 .non=true:=rfl
theorem b5U{ds:List D}:cl 55 (.tup ds)=clL 54 ds:=rfl
theorem b5O{ds:List D}:cl 55 (.vl ds)=clL 54 ds:=rfl
theorem b5C:clL 54 []=true:=rfl
theorem b5I{d:D}{r:List D}:clL 54 (d :: r)=(cl 54 d && clL 54 r):=rfl
theorem b2V{xs:List D}:b1V [.vl xs] M R=R (.int (xs.length:Int)) M:=a7I rfl
theorem b2W{xs:List D}:b1V [.tup xs] M R=R (.int (xs.length:Int)) M:=a7I rfl
theorem b9e{A:Prop}:SzK 1 A=A:=D7 (by decide)
theorem b9d{A:Prop}:SzK 2 A=A:=D7 (by decide)
theorem b9c{A:Prop}:SzK 3 A=A:=D7 (by decide)
theorem b9b{A:Prop}:SzK 4 A=A:=D7 (by decide)
theorem b9a{A:Prop}:SzK 5 A=A:=D7 (by decide)
theorem b89{A:Prop}:SzK 6 A=A:=D7 (by decide)
theorem b88{A:Prop}:SzK 7 A=A:=D7 (by decide)
theorem b87{A:Prop}:SzK 8 A=A:=D7 (by decide)
theorem b86{A:Prop}:SzK 9 A=A:=D7 (by decide)
theorem b5w{A:Prop}:SzK 10 A=A:=D7 (by decide)
theorem b5v{A:Prop}:SzK 11 A=A:=D7 (by decide)
theorem b5u{A:Prop}:SzK 12 A=A:=D7 (by decide)
theorem b3c{bs:List Bool}:c2d [.vl (bs.map D.bl)] M R=R (.bl (bs.all id)) M:=propext ⟨fun zz=>by
 obtain⟨_,bs',e,h,r⟩:=zz
 cases e
 have e2:bs.map D.bl=bs'.map D.bl:=Option.some.inj h
 have e3:bs=bs':=(c8O (fun a b z=>by injection z)).mp e2
 subst e3;exact r,fun r=>⟨_,bs,rfl,rfl,r⟩⟩
theorem a10:C4 [.dic,.ty "tuple"] M R=R (.bl false) M:=v9 rfl rfl
theorem a29:C4 [.dic,.ty "list"] M R=R (.bl false) M:=v9 rfl rfl
theorem a5q:C4 [.dic,.ty "int"] M R=R (.bl false) M:=v9 rfl rfl
theorem a3a:C4 [.dic,.ty "bool"] M R=R (.bl false) M:=v9 rfl rfl
theorem a5p:C4 [.dic,.ty "str"] M R=R (.bl false) M:=v9 rfl rfl
theorem a1W{ds:List D}:C4 [.tup ds,.ty "tuple"] M R=R (.bl true) M:=v9 rfl rfl
theorem a21{ds:List D}:C4 [.tup ds,.ty "list"] M R=R (.bl false) M:=v9 rfl rfl
theorem a5i{ds:List D}:C4 [.tup ds,.ty "int"] M R=R (.bl false) M:=v9 rfl rfl
theorem a22{ds:List D}:C4 [.tup ds,.ty "bool"] M R=R (.bl false) M:=v9 rfl rfl
theorem a5h{ds:List D}:C4 [.tup ds,.ty "str"] M R=R (.bl false) M:=v9 rfl rfl
theorem a1V{ds:List D}:C4 [.vl ds,.ty "tuple"] M R=R (.bl false) M:=v9 rfl rfl
theorem a2Z{ds:List D}:C4 [.vl ds,.ty "list"] M R=R (.bl true) M:=v9 rfl rfl
theorem a5g{ds:List D}:C4 [.vl ds,.ty "int"] M R=R (.bl false) M:=v9 rfl rfl
theorem a20{ds:List D}:C4 [.vl ds,.ty "bool"] M R=R (.bl false) M:=v9 rfl rfl
theorem a5f{ds:List D}:C4 [.vl ds,.ty "str"] M R=R (.bl false) M:=v9 rfl rfl
theorem a1Z{i:Int}:C4 [.int i,.ty "tuple"] M R=R (.bl false) M:=v9 rfl rfl
theorem a27{i:Int}:C4 [.int i,.ty "list"] M R=R (.bl false) M:=v9 rfl rfl
theorem a5o{i:Int}:C4 [.int i,.ty "int"] M R=R (.bl true) M:=v9 rfl rfl
theorem a28{i:Int}:C4 [.int i,.ty "bool"] M R=R (.bl false) M:=v9 rfl rfl
theorem a5n{i:Int}:C4 [.int i,.ty "str"] M R=R (.bl false) M:=v9 rfl rfl
theorem a1Y:C4 [.non,.ty "tuple"] M R=R (.bl false) M:=v9 rfl rfl
theorem a25:C4 [.non,.ty "list"] M R=R (.bl false) M:=v9 rfl rfl
theorem a5m:C4 [.non,.ty "int"] M R=R (.bl false) M:=v9 rfl rfl
theorem a26:C4 [.non,.ty "bool"] M R=R (.bl false) M:=v9 rfl rfl
theorem a5l:C4 [.non,.ty "str"] M R=R (.bl false) M:=v9 rfl rfl
theorem a1X{x:Str}:C4 [.str x,.ty "tuple"] M R=R (.bl false) M:=v9 rfl rfl
theorem a23{x:Str}:C4 [.str x,.ty "list"] M R=R (.bl false) M:=v9 rfl rfl
theorem a5k{x:Str}:C4 [.str x,.ty "int"] M R=R (.bl false) M:=v9 rfl rfl
theorem a24{x:Str}:C4 [.str x,.ty "bool"] M R=R (.bl false) M:=v9 rfl rfl
theorem a5j{x:Str}:C4 [.str x,.ty "str"] M R=R (.bl true) M:=v9 rfl rfl
theorem a11{b:Bool}:C4 [.bl b,.ty "tuple"] M R=R (.bl false) M:=v9 rfl rfl
theorem a3b{b:Bool}:C4 [.bl b,.ty "list"] M R=R (.bl false) M:=v9 rfl rfl
theorem a5s{b:Bool}:C4 [.bl b,.ty "int"] M R=R (.bl true) M:=v9 rfl rfl
theorem a3c{b:Bool}:C4 [.bl b,.ty "bool"] M R=R (.bl true) M:=v9 rfl rfl
theorem a5r{b:Bool}:C4 [.bl b,.ty "str"] M R=R (.bl false) M:=v9 rfl rfl
theorem b8q:c2r ta e M R=ta e M fun x M1=>c2E x M1 R:=rfl
theorem L8{l:Addr}{ds:List D}{A:Prop}(h:M l=some (.lst ds))(a:A):LMK (.ref l) M A:=⟨⟨l,ds,rfl,h⟩,a⟩
theorem T7{l:Addr}{ds:List D}{v:D}(h:M l=some (.lst ds))(hz:ds.length<1000)(r:R .non (A7 M l (.lst (ds++[v])))):a6X (.ref l) [v] M R:=⟨l,ds,v,rfl,rfl,h,c6A hz (by decide),r⟩
theorem b7I{p:Addr}{ds:List D}{j:Nat}{v:D}{Q:Mem→Prop}(h:M p=some (.lst ds))(hj:j<ds.length)(r:Q (A7 M p (.lst (ds.set j v)))):b8B (.ref p) (.int (j:Int)) v M Q:=⟨p,ds,j,j,rfl,rfl,h,by unfold ixN;rw[if_pos (by omega),if_pos (by omega)];rfl,r⟩
theorem c0H{l:Addr}{ds:List D}{k:Nat}{v:D}(h:M l=some (.lst ds))(hk:k≤ds.length)(hz:ds.length<1000)(r:R .non (A7 M l (.lst (ds.take k++v :: ds.drop k)))):b07 (.ref l) [.int (k:Int),v] M R:=⟨l,ds,v,k,rfl,rfl,h,hk,c6A hz (by decide),r⟩
theorem c0J{l b:Addr}{ds es:List D}(h:M l=some (.lst ds))(hb:M b=some (.lst es))(hz:ds.length+es.length≤1000)(r:R .non (A7 M l (.lst (ds++es)))):b08 (.ref l) [.ref b] M R:=⟨l,b,ds,es,rfl,rfl,h,hb,c6D hz (by decide),r⟩
theorem J8{x:D}{M1 M2:Mem}(h:∀ b o,M2 b=some o→M1 b=some o)(r:R x M2):c2E x M1 R:=⟨M2,h,r⟩
end
end DL
namespace DL
open PySem PySem.Spec L2
open PyProof.Rows hiding St
theorem a0s{p:Str→Prop}:∀ x∈([]:List Str),p x:=fun _ h=>nomatch h
section
variable {e0:Ev} {g:DTG} {te:DTE} {tc:T8} {ds:List D} {stay:Mem→Prop} {M1:Mem} {E:List D→Mem→Prop}
theorem A6{α:Type}{xs:List α}{enc:α→D}(f:α→D)(hn:xs.length≤1000)(hst:stay M1)(step:∀ x∈xs,∀ Q:DK,Q (f x) M1→g (enc x) e0 M1 fun e2 M2=>te e2 M2 Q)(h:E (xs.map f) M1):∃ W,a4b e0 g b4T te (xs.map enc) stay M1 E W:=by
 refine⟨fun i ys M=>M=M1∧ys=(xs.take i).map f,⟨⟨rfl,rfl⟩,fun i ys M _ w=>by rw[w.1];exact hst,fun i d ys M hd w=>?_,fun ys M w=>?_⟩⟩
 ·obtain⟨rfl,rfl⟩:=w
  rw[c6K]at hd
  cases hx:xs[i]? with
  | none=>rw[hx]at hd;cases hd
  | some x =>
   rw[hx]at hd
   obtain rfl:enc x=d:=by simpa using hd
   refine step x (c6J hx) _ ⟨?_,rfl,?_⟩
   ·rw[c6x,c7p]
    exact c6O (c6D (c82 _ _) hn) (by decide)
   ·obtain⟨hl,he⟩:=c6F.mp hx
    rw[c7x hl,c6P,he];rfl
 ·obtain⟨rfl,rfl⟩:=w
  rw[c6x,c6X];exact h
theorem a1u{α:Type}{xs:List α}{enc:α→D}(p:α→Bool)(f:α→D)(hn:xs.length≤1000)(hst:stay M1)
  (step:∀ x∈xs,∀(Q:DK) (N:Prop),(p x=true→Q (f x) M1)→(p x=false→N)→g (enc x) e0 M1 fun e2 M2=>tc e2 M2 fun b M3=>IfK b (te e2 M3 Q) (M3=M1∧N)) (h:E ((xs.filter p).map f) M1):∃ W,a4b e0 g tc te (xs.map enc) stay M1 E W:=by
 refine⟨fun i ys M=>M=M1∧ys=((xs.take i).filter p).map f,⟨⟨rfl,rfl⟩,fun i ys M _ w=>by rw[w.1];exact hst,fun i d ys M hd w=>?_,fun ys M w=>?_⟩⟩
 ·obtain⟨rfl,rfl⟩:=w
  rw[c6K]at hd
  cases hx:xs[i]? with
  | none=>rw[hx]at hd;cases hd
  | some x =>
   rw[hx]at hd
   obtain rfl:enc x=d:=by simpa using hd
   obtain⟨hl,he⟩:=c6F.mp hx
   have hle:(((xs.take i).filter p).map f).length<sizeLine:=by
    rw[c6x]
    have h1:=c8s p (xs.take i)
    rw[c7p]at h1
    exact c6O (c6D h1 (c6D (c82 _ _) hn)) (by decide)
   have hs:=step x (c6J hx) (fun v M4=>(((xs.take i).filter p).map f).length<sizeLine∧M4=M∧((xs.take i).filter p).map f++[v]=((xs.take (i+1)).filter p).map f) (((xs.take i).filter p).map f=((xs.take (i+1)).filter p).map f)
    (fun hp=>⟨hle,rfl,by rw[c7x hl,c7r,c6P,he];simp[hp]⟩)
    (fun hp=>by rw[c7x hl,c7r,c6P,he];simp[hp])
   exact hs
 ·obtain⟨rfl,rfl⟩:=w
  rw[c6x,c6X];exact h
end
section
variable {X:Cx} {pos:Pos}
theorem jc{x:Str}{j k:Nat}{ps:List Str}{sp:DSp}{p:Pos}{e:Expr}{es:List Expr}{t:DTA}(G:Fn X.prog X.w X.K X.mg X.base x j ps sp)(hr:J7 k X.A)(ha:JA X (e :: es) t)(hk:j≤k:=by decide)(hg:Gl X x:=by rfl)
  (hdb:(x == ("__debug__" : Str))=false:=by decide) (he:starEach (e :: es) X.env=(false,eval e X.env) :: starEach es X.env:=by rfl) (hpl:(backTo pos (starEach es X.env)).any (·.1)=false:=by rfl):JE X (.Call (.Name x p) (e :: es) [] pos) (b1i sp [] Y0 t):=b4r G (hr.mono hk) hg ha hdb he hpl
theorem jx{a b:Expr}{ta tb:DTE}(ha:JE X a ta)(hb:JE X b tb)(hs:a67 b:=by exact fun _ _=>rfl):JE X (.Subscript a b pos) (dOp gIx ta tb):=c1R c1U ha hb hs
theorem jst(i:Nat){x:Str}{e:Expr}{tx:DTE}{q:Pos}(hN:X.N.Nodup)(he:JE X e tx)(hi:X.N[i]? = some x:=by rfl)(hx:Loc X.env.scope x:=by first|exact .inl rfl|exact .inr rfl)(hs:swapsWith e (some (.Name x q)) pos.line X.env=pure false:=by rfl)
  (hf:X.fn x=true∨X.env.scope.names.lookup x=some .local:=by first|exact .inl rfl|exact .inr rfl|assumption):JS X (.Assign [.Name x q] e pos) (b2b tx (a0R i)):=b7i hN hi hx he hs hf
theorem jn(i:Nat){x:Str}(hN:X.N.Nodup)(hi:X.N[i]? = some x:=by rfl)(hx:Loc X.env.scope x:=by first|exact .inl rfl|exact .inr rfl)(hf:X.fn x=true∨X.env.scope.names.lookup x=some .local:=by first|exact .inl rfl|exact .inr rfl|assumption):JG X (.Name x pos) (a0R i):=b4q hN hi hx hf
theorem jm{op:CmpOp}{g:DR2}{a b:Expr}{ta tb:DTE}(ho:DOp X (compareOp op) g)(ha:JE X a ta)(hb:JE X b tb)(hm:behindInMarks op b=false:=by first|exact b4f _|with_unfolding_all rfl):JE X (.Compare a [op] [b] pos) (dOp g ta tb):=c0e ho ha hb hm
theorem jtm{op:CmpOp}{g:DR2}{a b:Expr}{ta tb:DTE}(ho:DOp X (compareOp op) g)(ha:JE X a ta)(hb:JE X b tb)(hm:behindInMarks op b=false:=by first|exact b4f _|with_unfolding_all rfl):JT X (.Compare a [op] [b] pos) (b1g (dOp g ta tb)):=b7j ho ha hb hm
end
end DL
namespace GM
open PySem PySem.Spec L2 DL
open PyProof.Rows hiding St
noncomputable def d8(q:Rat):D:=.tup [.int q.num,.int (q.den:Int)]
theorem C1{q r:Rat}(h:d8 q=d8 r):q=r:=by
 unfold d8 at h
 injection h with h
 injection h with h1 h2
 injection h1 with h1
 injection h2 with h2 _
 injection h2 with h2
 exact Rat.ext h1 (by omega)
theorem j8{q r:Rat}:d8 q=d8 r↔q=r:=⟨C1,fun h=>by rw[h]⟩
structure B5(M:Mem)(p:Addr):Prop where
 ex:∃ x y z:Int,M p=some (.lst [.int x,.int y,.int z])
noncomputable def MK(M M':Mem):Prop:=∀ b o,M b=some o→M' b=some o
theorem MK.refl(M:Mem):MK M M:=fun _ _ h=>h
theorem MK.trans{M M1 M2:Mem}(a:MK M M1)(b:MK M1 M2):MK M M2:=fun c o h=>b c o (a c o h)
theorem MK.new{M:Mem}{p:Addr}{o:MO}(h:M p=none):MK M (A7 M p o):=fun b u e=>by
 have:b≠p:=by intro z;subst z;rw[h]at e;cases e
 rw[A0 this];exact e
theorem MK.pool{M M':Mem}(k:MK M M'){p:Addr}(h:B5 M p):B5 M' p:=let ⟨x,y,z,e⟩:=h.ex;⟨x,y,z,k _ _ e⟩
structure p6(p:Addr)(M M':Mem):Prop where
 keep:∀ b o,b≠p→M b=some o→M' b=some o
 pool:B5 M' p
theorem p6.refl{p:Addr}{M:Mem}(h:B5 M p):p6 p M M:=⟨fun _ _ _ h=>h,h⟩
theorem p6.trans{p:Addr}{M M1 M2:Mem}(a:p6 p M M1)(b:p6 p M1 M2):p6 p M M2:=⟨fun c o n h=>b.keep c o n (a.keep c o n h),b.pool⟩
theorem p6.upd{p:Addr}{M:Mem}(x y z:Int):p6 p M (A7 M p (.lst [.int x,.int y,.int z])):=⟨fun b o n h=>by rw[A0 n];exact h,⟨x,y,z,g6⟩⟩
theorem B5.ne{M:Mem}{p l:Addr}(h:B5 M p)(hl:M l=none):l≠p:=by
 intro e;subst e;obtain⟨x,y,z,q⟩:=h.ex;rw[hl]at q;cases q
noncomputable def a85:DSp:=fun ds M R _=>∃ c:Int,ds=[.int c]∧∀ p M',M p=none→MK M M'→B5 M' p→R (.ref p) M'
noncomputable def J2:DSp:=fun ds M R _=>∃(p:Addr) (b:Int),ds=[.ref p,.int b]∧B5 M p∧0<b∧b.natAbs.log2<9000∧∀(r:Int) M',0≤r→r<b→p6 p M M'→R (.int r) M'
noncomputable def K9:DSp:=fun ds M R _=>∃ a b:Int,ds=[.int a,.int b]∧b≠0∧b.natAbs.log2<9000∧R (d8 (c7g a b)) M
noncomputable def a13:DSp:=fun ds M R _=>∃ n:Nat,ds=[.int n]∧n.log2<4000∧∀ s:Nat,s*s≤n→n<(s+1)*(s+1)→R (.int s) M
noncomputable def b5n(q:Rat)(v:D):Prop:=(∃ r:Rat,0≤r∧r*r=q∧v=d8 r)∨((∀ r:Rat,r*r≠q)∧v = .non)
noncomputable def a84:DSp:=fun ds M R _=>∃ q:Rat,ds=[d8 q]∧RM.sz q≤4000∧∀ v,b5n q v→R v M
theorem c0v:a8U 10 18:=⟨by decide,by decide,by decide⟩
theorem cp6:a8U 10 6:=⟨by decide,by decide,by decide⟩
theorem a8o{a b:Int}(h1:-(2 ^ 64)<a)(h2:a<2 ^ 64):IntMulOk a b:=.of_left (intBits_le_64 h1 h2)
theorem c1N{a b:Int}(h1:-(2 ^ 64)<b)(h2:b<2 ^ 64):IntMulOk a b:=.of_right (intBits_le_64 h1 h2)
theorem c3f{x m k b:Int}(hm:0<m)(hm2:m<2 ^ 60)(hk:0≤k)(hk2:k<2 ^ 60):IntMulOk (x % m+k) b:=by
 have h1:=c8I x (show m≠0 by omega)
 have h2:=c8j x hm
 exact a8o (by omega) (by omega)
theorem c1M{x m b:Int}(hm:0<m)(hm2:m<2 ^ 60):IntMulOk (x % m) b:=by
 have h1:=c8I x (show m≠0 by omega)
 have h2:=c8j x hm
 exact a8o (by omega) (by omega)
theorem c3r{i:Int}:CFd i 8:=⟨by decide,by decide⟩
theorem b7C{i:Int}:CFd i 2:=⟨by decide,by decide⟩
theorem N4{a b:Int}(ha:0≤a)(hb:0≤b):a.fdiv b=a / b:=Int.fdiv_eq_ediv_of_nonneg a hb
theorem b7t{a b:Int}(hb:b≠0)(h:b.natAbs.log2<9000):((c7e a.natAbs b.natAbs:Nat):Int).natAbs.log2<9000:=by
 have hp:0<b.natAbs:=c9j.mpr hb
 have hle:c7e a.natAbs b.natAbs≤b.natAbs:=c84 _ hp
 have h1:b.natAbs<2 ^ 9000:=(c8X (by omega)).mp h
 rw[c6w]
 exact E7 (c6O hle h1) (by decide)
theorem b4z{a b:Int}(hb:b≠0):((c7e a.natAbs b.natAbs:Nat):Int)≠0:=by
 have hp:0<b.natAbs:=c9j.mpr hb
 have:=c7W a.natAbs hp
 omega
theorem a2E{a b s:Int}(hb:b≠0)(hs:s=if b<0 then -((c7e a.natAbs b.natAbs:Nat):Int)else((c7e a.natAbs b.natAbs:Nat):Int)){M:Mem}{R:DK}(k:R (d8 (c7g a b)) M) :
  R (.tup [.int (a.fdiv s),.int (b.fdiv s)]) M:=by
 obtain⟨h1,h2⟩:=RM.b97 a b hb s hs
 rw[h1,h2];exact k
theorem b96{a b:Int}{n:Nat}(hn:0<n)(h1:a.natAbs<2 ^ n)(h2:b.natAbs<2 ^ n)(hb:b≠0):RM.sz (c7g a b)≤n :=
 c6D (RM.K3 a b hb) (c8A.mpr ⟨RM.X5 h1 hn,RM.X5 h2 hn⟩)
end GM
namespace GM
open PySem PySem.Spec L2 DL
open PyProof.Rows hiding St
theorem b95{n g:Nat}(hg:0<g):n<((g+n / g) / 2+1)*((g+n / g) / 2+1):=by
 have h1:n<g*(n / g+1):=by
  have:=Nat.lt_mul_div_succ n hg
  exact this
 have h2:g+(n / g+1)≤2*((g+n / g) / 2+1):=by omega
 generalize (g+n / g) / 2+1=b at h2 ⊢
 generalize n / g+1=y at h1 h2
 have h3:(g+y)*(g+y)≤(2*b)*(2*b):=c74 h2 h2
 have h4:4*(g*y)≤(g+y)*(g+y):=by
  rcases Nat.le_total g y with h|h
  ·obtain⟨k,rfl⟩:=Nat.le.dest h
   have:(g+(g+k))*(g+(g+k))=4*(g*(g+k))+k*k:=by grind
   omega
  ·obtain⟨k,rfl⟩:=Nat.le.dest h
   have:(y+k+y)*(y+k+y)=4*((y+k)*y)+k*k:=by grind
   omega
 have h5:(2*b)*(2*b)=4*(b*b):=by grind
 omega
theorem a9E{n g:Nat}(hg:0<g)(h:¬ (g+n / g) / 2<g):g*g≤n:=by
 have h1:g≤n / g:=by omega
 exact c6D (c9q g h1) (Nat.mul_div_le n g)
theorem a5w{n s t:Nat}(h1:s*s≤n)(h2:n<(s+1)*(s+1))(h3:t*t=n):t=s:=by
 rcases c9E t s with h|h|h
 ·have:(t+1)*(t+1)≤s*s:=c74 h h
  have e:(t+1)*(t+1)=t*t+2*t+1:=by grind
  omega
 ·exact h
 ·have:(s+1)*(s+1)≤t*t:=c74 h h
  omega
theorem a3i(r:Rat):(r*r).num=r.num*r.num∧(r*r).den=r.den*r.den:=by
 rw[Rat.mul_def]
 have hc:(r.num*r.num).natAbs.gcd (r.den*r.den)=1:=by
  rw[c6W]
  exact Nat.Coprime.mul_left (Nat.Coprime.mul_right r.reduced r.reduced) (Nat.Coprime.mul_right r.reduced r.reduced)
 rw[Rat.normalize_eq]
 simp[hc]
theorem b1D{q:Rat}{s t:Nat}(h1:((s:Int))*(s:Int)=q.num)(h2:t*t=q.den):∃ r:Rat,0≤r∧r*r=q∧r.num=(s:Int)∧r.den=t:=by
 have ht:t≠0:=by
  intro e;subst e;have:=q.den_nz;omega
 have hcop:Nat.Coprime s t:=by
  have hq:=q.reduced
  have e1:q.num.natAbs=s*s:=by rw[← h1,c6W,c6w]
  rw[e1,← h2]at hq
  have a1:Nat.Coprime s (t*t):=Nat.Coprime.coprime_mul_left hq
  exact Nat.Coprime.coprime_mul_left_right a1
 refine⟨⟨(s:Int),t,ht,by simpa using hcop⟩,?_,?_,rfl,rfl⟩
 ·rw[Rat.le_iff];simp
 ·have:=a3i ⟨(s:Int),t,ht,by simpa using hcop⟩
  exact Rat.ext (by rw[this.1];exact h1) (by rw[this.2];exact h2)
theorem a3H{q r:Rat}(h:r*r=q):(∃ s:Nat,s*s=q.num.natAbs)∧(∃ t:Nat,t*t=q.den)∧0≤q.num:=by
 have:=a3i r
 rw[h]at this
 refine⟨⟨r.num.natAbs,by rw[this.1,c6W]⟩,⟨r.den,this.2.symm⟩,?_⟩
 rw[this.1]
 have:=Int.natAbs_mul_self (a:=r.num)
 rw[← this];exact c75 _
theorem b9k{q:Rat}{n:Nat}(h:RM.sz q≤n):q.num.natAbs.log2<n∧q.den.log2<n:=by
 have h1:=RM.K7 q
 have h2:=RM.C8 q
 unfold RM.bl at h1 h2
 omega
theorem Z7{n k:Nat}(h:n.log2<k):n<2 ^ k:=by
 rcases c8i n with h0|h0
 ·subst h0;exact c7O k
 ·exact(c8X (by omega)).mp h
end GM
namespace GM
open PySem PySem.Spec L2 DL
open PyProof.Rows hiding St
noncomputable def a00:DSp:=fun ds M R _=>∃ n:Int,ds=[.int n]∧R (.bl true) M
end GM
namespace GM
open PySem PySem.Spec L2 DL
structure Sml(g:Nat):Prop where
 log:g.log2<9000
theorem Sml.mono{a b:Nat}(h:Sml b)(l:a≤b):Sml a:=⟨E7 (c6O l (Z7 h.log)) (by decide)⟩
theorem Sml.pow{k:Nat}(h:k<9000):Sml (2 ^ k):=⟨E7 (c79 (by decide) h) (by decide)⟩
end GM
namespace GM
open PySem PySem.Spec L2 DL
end GM
namespace GM
open PySem PySem.Spec L2 DL
noncomputable def b0H:DSp:=fun ds _ R _=>∃ ns:List Int,ds=[.vl (ns.map D.int)]∧ns.length≤63∧∀ M',R (.bl true) M'
end GM
namespace GM
open PySem PySem.Spec L2 DL
open RM (sz)
noncomputable def K4:DSp:=fun ds M R _=>∃ a b:Nat,ds=[.int (a:Int),.int (b:Int)]∧R (.int ((c7e a b:Nat):Int)) M
noncomputable def a5x:DSp:=fun ds M R _=>∃ q:Rat,ds=[d8 q]∧R (d8 (-q)) M
noncomputable def F1:DSp:=fun ds M R _=>∃ q r:Rat,ds=[d8 q,d8 r]∧sz q+sz r≤8900∧R (d8 (q+r)) M
noncomputable def E2:DSp:=fun ds M R _=>∃ q r:Rat,ds=[d8 q,d8 r]∧sz q+sz r≤8900∧R (d8 (q - r)) M
noncomputable def D5:DSp:=fun ds M R _=>∃ q r:Rat,ds=[d8 q,d8 r]∧sz q+sz r≤8900∧R (d8 (q*r)) M
noncomputable def P9:DSp:=fun ds M R _=>∃ q r:Rat,ds=[d8 q,d8 r]∧r≠0∧sz q+sz r≤8900∧R (d8 (q / r)) M
noncomputable def a0A:DSp:=fun ds M R _=>∃ q r:Rat,ds=[d8 q,d8 r]∧sz q+sz r≤8900∧R (.bl (decide (q<r))) M
theorem J6(q:Rat):q.num.natAbs<2 ^ sz q:=c6A (RM.a1m _) (c6T (by decide) (RM.K7 q))
theorem E8(q:Rat):((q.den:Int)).natAbs<2 ^ sz q:=by rw[c6w];exact c6A (RM.a1m _) (c6T (by decide) (RM.C8 q))
theorem mNN{q r:Rat}(h:sz q+sz r≤8900):IntMulOk q.num r.num:=p7 _ _ (J6 q) (J6 r) (by omega)
theorem mND{q r:Rat}(h:sz q+sz r≤8900):IntMulOk q.num (r.den:Int):=p7 _ _ (J6 q) (E8 r) (by omega)
theorem mDD{q r:Rat}(h:sz q+sz r≤8900):IntMulOk (q.den:Int) (r.den:Int):=p7 _ _ (E8 q) (E8 r) (by omega)
theorem mDN{q r:Rat}(h:sz q+sz r≤8900):IntMulOk (q.den:Int) r.num:=p7 _ _ (E8 q) (J6 r) (by omega)
theorem lDD{q r:Rat}(h:sz q+sz r≤8900):((q.den:Int)*(r.den:Int)).natAbs.log2<9000:=by
 have h1:=RM.T5 q.den r.den
 have h2:=RM.C8 q
 have h3:=RM.C8 r
 rw[c6W,c6w,c6w]
 unfold RM.bl at *
 omega
theorem lDN{q r:Rat}(h:sz q+sz r≤8900):((q.den:Int)*r.num).natAbs.log2<9000:=by
 have h1:=RM.T5 q.den r.num.natAbs
 have h2:=RM.C8 q
 have h3:=RM.K7 r
 rw[c6W,c6w]
 unfold RM.bl at *
 omega
theorem b94{r:Rat}(h:r≠0):r.num≠0:=fun z=>h (Rat.num_eq_zero.mp z)
noncomputable def j3(q:Rat):Rat:=if 0≤q then q else -q
theorem a1x(q:Rat):0≤j3 q:=by
 unfold j3;split
 ·assumption
 ·grind
theorem a65(q:Rat):j3 q*j3 q=q*q:=by
 unfold j3;split
 ·rfl
 ·grind
theorem b5i(q:Rat):d8 (j3 q) = .tup [.int (q.num.natAbs:Int),.int (q.den:Int)]:=by
 unfold j3 d8
 have hz:0≤q↔0≤q.num:=Rat.num_nonneg.symm
 split
 ·rename_i h
  have:=hz.mp h
  rw[show q.num=(q.num.natAbs:Int)by omega];simp
 ·rename_i h
  have h':¬ 0≤q.num:=fun z=>h (hz.mpr z)
  rw[c9n,c9o,show -q.num=(q.num.natAbs:Int)by omega]
end GM
namespace GM
open RM (sz)
theorem a8J{a:Rat}{A:Int}{D S:Nat}(hS:0<S)(hD:D≠0)(hd:D<2 ^ S)(h:a*(D:Rat)=(A:Rat))(hA:A.natAbs<2 ^ S):sz a≤S:=by
 have hD':(D:Rat)≠0:=by
  intro z;exact hD (by exact_mod_cast z)
 have e:a=c7g A (D:Int):=by
  rw[c7q]
  have:a=(A:Rat) / (D:Rat):=by grind
  rw[this];rfl
 rw[e]
 exact c6D (RM.K3 A D (by omega)) (c8A.mpr ⟨RM.X5 hA hS,RM.X5 (by rw[c6w];exact hd) hS⟩)
structure CD(S:Nat)(a b c d:Rat):Prop where
 ex:∃(A B C E:Int) (D:Nat),D≠0∧D<2 ^ S∧(A.natAbs<2 ^ S∧B.natAbs<2 ^ S∧C.natAbs<2 ^ S∧E.natAbs<2 ^ S)∧a*(D:Rat)=(A:Rat)∧b*(D:Rat)=(B:Rat)∧c*(D:Rat)=(C:Rat)∧d*(D:Rat)=(E:Rat)
theorem q9(q:Rat){k:Nat}(h:sz q≤k):q.num.natAbs<2 ^ k:=c6A (RM.a1m _) (c6T (by decide) (c6D (RM.K7 q) h))
theorem t9(q:Rat){k:Nat}(h:sz q≤k):q.den<2 ^ k:=c6A (RM.a1m _) (c6T (by decide) (c6D (RM.C8 q) h))
theorem u9(q:Rat):q*(q.den:Rat)=(q.num:Rat):=by
 have h:(q.den:Rat)≠0:=by
  intro z;exact q.den_nz (by exact_mod_cast z)
 have e:=c76 q
 rw[c7q,c6C]at e
 grind
theorem o9{a b m n:Nat}(h1:a<2 ^ m)(h2:b<2 ^ n):a*b<2 ^ (m+n):=by
 rw[c8Y];exact Nat.mul_lt_mul'' h1 h2
theorem e7{a b:Int}{m n:Nat}(h1:a.natAbs<2 ^ m)(h2:b.natAbs<2 ^ n):(a*b).natAbs<2 ^ (m+n):=by
 rw[c6W];exact o9 h1 h2
theorem A3{a b:Int}{m:Nat}(h1:a.natAbs<2 ^ m)(h2:b.natAbs<2 ^ m):(a+b).natAbs<2 ^ (m+1):=by
 have:=c9A a b
 rw[c8N];omega
theorem a0w{a m n:Nat}(h:a<2 ^ m)(hn:m≤n):a<2 ^ n:=c6A h (c6T (by decide) hn)
theorem CD.one:CD 1 1 0 0 1:=⟨1,0,0,1,1,by decide,by decide,⟨by decide,by decide,by decide,by decide⟩,by grind,by grind,by grind,by grind⟩
theorem CD.neg{S:Nat}{a b c d:Rat}(h:CD S a b c d):CD S (-a) (-b) (-c) (-d):=by
 obtain⟨A,B,C,E,D,h0,hd,⟨h1,h2,h3,h4⟩,e1,e2,e3,e4⟩:=h.ex
 refine⟨-A,-B,-C,-E,D,h0,hd,⟨by rw[c7T];exact h1,by rw[c7T];exact h2,by rw[c7T];exact h3,by rw[c7T];exact h4⟩,?_,?_,?_,?_⟩<;>(rw[Rat.intCast_neg];grind)
theorem CD.swap{S:Nat}{a b c d:Rat}(h:CD S a b c d):CD S c d a b:=by
 obtain⟨A,B,C,E,D,h0,hd,⟨h1,h2,h3,h4⟩,e1,e2,e3,e4⟩:=h.ex
 exact⟨C,E,A,B,D,h0,hd,⟨h3,h4,h1,h2⟩,e3,e4,e1,e2⟩
theorem CD.step{S k:Nat}{a b c d q:Rat}(h:CD S a b c d)(hq:sz q≤k):CD (S+k+1) (a+q*c) (b+q*d) c d:=by
 obtain⟨A,B,C,E,D,h0,hd,⟨h1,h2,h3,h4⟩,e1,e2,e3,e4⟩:=h.ex
 have hn:=q9 q hq
 have hm:=t9 q hq
 have hm':(q.den:Int).natAbs<2 ^ k:=by rw[c6w];exact hm
 have e:=u9 q
 have z:∀{X:Int},X.natAbs<2 ^ S→(X*(q.den:Int)).natAbs<2 ^ (S+k):=fun h=>e7 h hm'
 have z2:∀{X:Int},X.natAbs<2 ^ S→(X*q.num).natAbs<2 ^ (S+k):=fun h=>e7 h hn
 refine⟨A*(q.den:Int)+C*q.num,B*(q.den:Int)+E*q.num,C*(q.den:Int),E*(q.den:Int),D*q.den,c7H h0 q.den_nz,a0w (o9 hd hm) (by omega),
  ⟨A3 (z h1) (z2 h3),A3 (z h2) (z2 h4),a0w (z h3) (by omega),a0w (z h4) (by omega)⟩,?_,?_,?_,?_⟩
 all_goals (simp only[c6Z,c7P,c6B,c6C];grind)
theorem CD.scale{S k:Nat}{a b c d q r:Rat}(h:CD S a b c d)(hq:sz q≤k)(hp:0<q.num)(hr:r*q=1):CD (S+2*k) (q*a) (q*b) (r*c) (r*d):=by
 obtain⟨A,B,C,E,D,h0,hd,⟨h1,h2,h3,h4⟩,e1,e2,e3,e4⟩:=h.ex
 have hn:=q9 q hq
 have hm:=t9 q hq
 have hm':(q.den:Int).natAbs<2 ^ k:=by rw[c6w];exact hm
 have e:=u9 q
 obtain⟨n,en⟩:∃ n:Nat,q.num=(n:Int):=⟨q.num.toNat,by omega⟩
 rw[en]at hn e hp
 rw[c6w]at hn
 rw[c6C]at e
 have hn':(n:Int).natAbs<2 ^ k:=by rw[c6w];exact hn
 refine⟨A*((n:Int)*n),B*((n:Int)*n),C*((q.den:Int)*q.den),E*((q.den:Int)*q.den),D*(n*q.den),c7H h0 (c7H (by omega) q.den_nz),?_,⟨?_,?_,?_,?_⟩,?_,?_,?_,?_⟩
 ·rw[show S+2*k=S+(k+k)by omega];exact o9 hd (o9 hn hm)
 ·rw[show S+2*k=S+(k+k)by omega];exact e7 h1 (e7 hn' hn')
 ·rw[show S+2*k=S+(k+k)by omega];exact e7 h2 (e7 hn' hn')
 ·rw[show S+2*k=S+(k+k)by omega];exact e7 h3 (e7 hm' hm')
 ·rw[show S+2*k=S+(k+k)by omega];exact e7 h4 (e7 hm' hm')
 all_goals (simp only[c6Z,c6B,c6C];grind)
end GM
namespace GM
open PySem PySem.Spec L2 DL
open RM (sz)
noncomputable abbrev a1A(a b c d:Rat):D:=.tup [d8 a,d8 b,d8 c,d8 d]
noncomputable abbrev u5(y u:Rat):D:=.tup [d8 y,d8 u]
structure T4(S:Nat)(a b c d:Rat):Prop where
 a:sz a≤S
 b:sz b≤S
 c:sz c≤S
 d:sz d≤S
structure T2(S:Nat)(y u:Rat):Prop where
 y:sz y≤S
 u:sz u≤S
theorem CD.t4{S:Nat}{a b c d:Rat}(h:CD S a b c d)(hS:0<S:=by omega):T4 S a b c d:=by
 obtain⟨A,B,C,E,D,h0,hd,⟨h1,h2,h3,h4⟩,e1,e2,e3,e4⟩:=h.ex
 exact⟨a8J hS h0 hd e1 h1,a8J hS h0 hd e2 h2,a8J hS h0 hd e3 h3,a8J hS h0 hd e4 h4⟩
noncomputable def a1B:DSp:=fun ds M R _=>∃ a b c d:Rat,ds=[u5 a c,u5 b d]∧R (a1A a b c d) M
theorem c1T{q:Rat}(h:0<q.num):D.tup [.int (q.den:Int),.int q.num]=d8 q⁻¹:=by
 unfold d8
 have h1:q⁻¹.num=(q.den:Int):=by rw[Rat.num_inv,c8m h,c9m]
 have h2:((q⁻¹).den:Int)=q.num:=by
  rw[Rat.inv_def,Rat.den_divInt,if_neg (by omega)]
  have hg:q.num.gcd (q.den:Int)=1:=by
   have:=q.reduced
   unfold c9b
   rw[c6w];exact this
  rw[hg,Nat.div_one];omega
 rw[h1,h2]
theorem CD.mono{S S':Nat}{a b c d:Rat}(h:CD S a b c d)(hs:S≤S'):CD S' a b c d:=by
 obtain⟨A,B,C,E,D,h0,hd,⟨h1,h2,h3,h4⟩,e1,e2,e3,e4⟩:=h.ex
 exact⟨A,B,C,E,D,h0,a0w hd hs,⟨a0w h1 hs,a0w h2 hs,a0w h3 hs,a0w h4 hs⟩,e1,e2,e3,e4⟩
end GM
namespace GM
open PySem PySem.Spec L2 DL
open RM (sz)
theorem a5V(q:Rat):sz (j3 q)=sz q:=by
 unfold j3;split
 ·rfl
 ·exact RM.I0 q
noncomputable def f9(x:Str × Rat):D:=.tup [.str x.1,d8 x.2]
noncomputable def B4(x:Str × Rat)(y u:Rat):Rat × Rat:=if x.1 = "gap" then(y+x.2*u,u)else if x.1 = "glass" then(y,u - x.2*y)else(y,u)
noncomputable def g7(bs:List (Str × Rat))(r:Rat × Rat):Rat × Rat:=bs.foldl (fun r x=>B4 x r.1 r.2) r
theorem CD.led{S:Nat}{x:Str × Rat}{y u:Rat}(h:CD S y 0 u 0)(hx:sz x.2≤41):CD (S+42) (B4 x y u).1 0 (B4 x y u).2 0:=by
 unfold B4
 split
 ·have:=h.step hx
  rw[show(0:Rat)+x.2*0=0 by grind]at this
  exact this
 ·split
  ·have:=(h.swap.step (q:=-x.2) (k:=41) (by rw[RM.I0];exact hx)).swap
   rw[show(0:Rat) + -x.2*0=0 by grind,show u + -x.2*y=u - x.2*y by grind]at this
   exact this
  ·exact h.mono (by omega)
theorem CD.t2{S:Nat}{y u:Rat}(h:CD S y 0 u 0)(hS:0<S:=by omega):T2 S y u:=⟨h.t4.a,h.t4.c⟩
theorem CD.ray{y u:Rat}{k:Nat}(h1:sz y≤k)(h2:sz u≤k):CD (2*k) y 0 u 0:=by
 have n1:=q9 y h1
 have d1:=t9 y h1
 have n2:=q9 u h2
 have d2:=t9 u h2
 have d1':(y.den:Int).natAbs<2 ^ k:=by rw[c6w];exact d1
 have d2':(u.den:Int).natAbs<2 ^ k:=by rw[c6w];exact d2
 have e1:=u9 y
 have e2:=u9 u
 refine⟨y.num*(u.den:Int),0,u.num*(y.den:Int),0,y.den*u.den,c7H y.den_nz u.den_nz,?_,⟨?_,?_,?_,?_⟩,?_,?_,?_,?_⟩
 ·rw[show 2*k=k+k by omega];exact o9 d1 d2
 ·rw[show 2*k=k+k by omega];exact e7 n1 d2'
 ·exact c7O _
 ·rw[show 2*k=k+k by omega];exact e7 n2 d1'
 ·exact c7O _
 all_goals (simp only[c6Z,c6B,c6C,Rat.intCast_zero];grind)
theorem L5{bs:List (Str × Rat)}{i:Nat}{x:Str × Rat}(h:bs[i]? = some x)(r:Rat × Rat):g7 (bs.take (i+1)) r=B4 x (g7 (bs.take i) r).1 (g7 (bs.take i) r).2:=by
 obtain⟨hl,he⟩:=c6F.mp h
 unfold g7
 rw[c7x hl,List.foldl_append,he]
 rfl
theorem M9(bs:List (Str × Rat))(y u:Rat):(g7 bs (y,u)).1=(g7 bs (1,0)).1*y+(g7 bs (0,1)).1*u∧(g7 bs (y,u)).2=(g7 bs (1,0)).2*y+(g7 bs (0,1)).2*u:=by
 have gen:∀(bs:List (Str × Rat)) (y u a b c d z w:Rat),z=a*y+b*u→w=c*y+d*u →
   (g7 bs (z,w)).1=(g7 bs (a,c)).1*y+(g7 bs (b,d)).1*u∧(g7 bs (z,w)).2=(g7 bs (a,c)).2*y+(g7 bs (b,d)).2*u:=by
  intro bs
  induction bs with
  | nil=>intro y u a b c d z w h1 h2;exact⟨h1,h2⟩
  | cons x r ih =>
   intro y u a b c d z w h1 h2
   refine ih y u (B4 x a c).1 (B4 x b d).1 (B4 x a c).2 (B4 x b d).2 (B4 x z w).1 (B4 x z w).2 ?_ ?_
   ·unfold B4;split
    ·grind
    ·split<;>grind
   ·unfold B4;split
    ·grind
    ·split<;>grind
 exact gen bs y u 1 0 0 1 y u (by grind) (by grind)
theorem a5A{bs:List (Str × Rat)}{i:Nat}{d:D}(h:(bs.map f9)[i]? = some d):∃ x,bs[i]? = some x∧d=f9 x:=by
 rw[c6K]at h
 cases e:bs[i]? with
 | none=>rw[e]at h;cases h
 | some x=>rw[e]at h;exact⟨x,rfl,(Option.some.inj h).symm⟩
theorem a32{M:Mem}{l:Addr}{ds:List D}(h:M l=some (.lst ds)):G2 M (.ref l)=some ds:=by
 unfold G2;simp only[h]
end GM
namespace GM
open PySem PySem.Spec L2 DL
open RM (sz)
theorem b6V(bs:List (Str × Rat)):(g7 bs (1,0)).1*(g7 bs (0,1)).2 - (g7 bs (0,1)).1*(g7 bs (1,0)).2=1:=by
 have gen:∀(bs:List (Str × Rat)) (y u z w:Rat),(g7 bs (y,u)).1*(g7 bs (z,w)).2 - (g7 bs (z,w)).1*(g7 bs (y,u)).2=y*w - z*u:=by
  intro bs
  induction bs with
  | nil=>intro y u z w;rfl
  | cons x r ih =>
   intro y u z w
   have:=ih (B4 x y u).1 (B4 x y u).2 (B4 x z w).1 (B4 x z w).2
   refine Eq.trans this ?_
   unfold B4
   split
   ·grind
   ·split<;>grind
 have:=gen bs 1 0 0 1
 rw[this];grind
end GM
namespace GM
open PySem PySem.Spec L2 DL
open RM (sz)
end GM
namespace GM
open PySem PySem.Spec L2 DL
open RM (sz)
noncomputable def b0I:DSp:=fun ds M R _=>∃ q:Rat,ds=[d8 q]∧R (d8 (j3 q)) M
end GM
namespace GM
open PySem PySem.Spec L2 DL
open RM (sz)
theorem a5B{x y:Str × Rat}(h:f9 x=f9 y):x=y:=by
 unfold f9 at h
 injection h with h
 injection h with h1 h2
 injection h1 with h1
 injection h2 with h2 _
 exact Prod.ext h1 (C1 h2)
theorem j5{x y:Str × Rat}:f9 x=f9 y↔x=y:=⟨a5B,fun h=>by rw[h]⟩
theorem i6{xs ys:List (Str × Rat)}:xs.map f9=ys.map f9↔xs=ys:=c8O (fun _ _ h=>a5B h)
noncomputable def p5(l:Rat × Rat × Rat):D:=.tup [d8 l.1,d8 l.2.1,d8 l.2.2]
theorem a5E{x y:Rat × Rat × Rat}(h:p5 x=p5 y):x=y:=by
 unfold p5 at h
 injection h with h
 injection h with h1 h2
 injection h2 with h2 h3
 injection h3 with h3 _
 exact Prod.ext (C1 h1) (Prod.ext (C1 h2) (C1 h3))
theorem j6{x y:Rat × Rat × Rat}:p5 x=p5 y↔x=y:=⟨a5E,fun h=>by rw[h]⟩
theorem i7{xs ys:List (Rat × Rat × Rat)}:xs.map p5=ys.map p5↔xs=ys:=c8O (fun _ _ h=>a5E h)
theorem b9x{p q r:Rat}:D.tup [d8 p,d8 q,d8 r]=p5 (p,q,r):=rfl
theorem b0b{gs:X6}{l:Rat × Rat × Rat}{e:Ev}{M:Mem}{Q:Ev→Mem→Prop}:a8A 3 gs (p5 l) e M Q=gs [d8 l.1,d8 l.2.1,d8 l.2.2] e M Q:=a3d rfl
theorem b0e{l:Rat × Rat × Rat}{M:Mem}{R:DK}:gIx (p5 l) (.int 0) M R=R (d8 l.1) M:=a2Y
theorem b0d{l:Rat × Rat × Rat}{M:Mem}{R:DK}:gIx (p5 l) (.int 1) M R=R (d8 l.2.1) M:=a2X
theorem b0c{l:Rat × Rat × Rat}{M:Mem}{R:DK}:gIx (p5 l) (.int 2) M R=R (d8 l.2.2) M:=a8V
theorem b2v{q:Rat}{M:Mem}{R:DK}:gIx (d8 q) (.int 0) M R=R (.int q.num) M:=a2Y
theorem b2u{q:Rat}{M:Mem}{R:DK}:gIx (d8 q) (.int 1) M R=R (.int (q.den:Int)) M:=a2X
theorem b2t{gs:X6}{q:Rat}{e:Ev}{M:Mem}{Q:Ev→Mem→Prop}:a8A 2 gs (d8 q) e M Q=gs [.int q.num,.int (q.den:Int)] e M Q:=a3d rfl
theorem b2s{q:Rat}{M:Mem}{R:DK}:b1V [d8 q] M R=R (.int 2) M:=a7I rfl
theorem b0a{x:Str × Rat}{M:Mem}{R:DK}:gIx (f9 x) (.int 0) M R=R (.str x.1) M:=a2Y
theorem a99{x:Str × Rat}{M:Mem}{R:DK}:gIx (f9 x) (.int 1) M R=R (d8 x.2) M:=a2X
theorem a98{gs:X6}{x:Str × Rat}{e:Ev}{M:Mem}{Q:Ev→Mem→Prop}:a8A 2 gs (f9 x) e M Q=gs [.str x.1,d8 x.2] e M Q:=a3d rfl
theorem a7w{q:Rat}{M:Mem}{R:DK}:C4 [d8 q,.ty "tuple"] M R=R (.bl true) M:=v9 rfl rfl
theorem a5e{x:Str × Rat}{M:Mem}{R:DK}:C4 [f9 x,.ty "tuple"] M R=R (.bl true) M:=v9 rfl rfl
theorem a97{x:Str × Rat}{M:Mem}{R:DK}:b1V [f9 x] M R=R (.int 2) M:=a7I rfl
theorem b5V{q:Rat}:cl 60 (d8 q)=true:=rfl
theorem b5W{q:Rat}:cl 59 (d8 q)=true:=rfl
theorem b5X{q:Rat}:cl 58 (d8 q)=true:=rfl
theorem b5Y{q:Rat}:cl 57 (d8 q)=true:=rfl
theorem r0:D.tup [.int 0,.int 1]=d8 0:=rfl
theorem r1:D.tup [.int 1,.int 1]=d8 1:=rfl
theorem r2:D.tup [.int 2,.int 1]=d8 2:=rfl
theorem r4:D.tup [.int 4,.int 1]=d8 4:=rfl
theorem c1v{q:Rat}:D.tup [.int (q.num.natAbs:Int),.int (q.den:Int)]=d8 (j3 q):=(b5i q).symm
theorem c1u{q:Rat}:D.tup [.int (-q.num),.int (q.den:Int)]=d8 (-q):=by unfold d8;rw[c9n,c9o]
theorem b9w{q:Rat}:D.tup [.int q.num,.int (q.den:Int)]=d8 q:=rfl
theorem rm2:D.tup [.int (-2),.int 1]=d8 (-2):=rfl
theorem rm1:D.tup [.int (-1),.int 1]=d8 (-1):=rfl
local macro_rules|`(tactic| walk_at "inj")=>`(tactic| (rename_i e h;simp only[List.cons.injEq,and_true,true_and,GM.j8,GM.j5,GM.i6,GM.j6,GM.i7,D.tup.injEq,D.ref.injEq,D.int.injEq,D.str.injEq,D.bl.injEq,D.vl.injEq,c6V,and_assoc]at e;(repeat(obtain⟨e1,e⟩:=e;subst e1));subst e;exact h))
local macro_rules|`(tactic| walk_at "injs")=>`(tactic| (rename_i e o h;rcases o with o|o<;>(subst o;first|(exfalso;simp only[D.tup.injEq,List.cons.injEq,reduceCtorEq,false_and,and_false]at e;done)|(simp only[List.cons.injEq,and_true,true_and,GM.j8,GM.j5,GM.i6,GM.j6,GM.i7,D.tup.injEq,D.ref.injEq,D.int.injEq,D.str.injEq,D.bl.injEq,D.vl.injEq,c6V,and_assoc]at e;(repeat(obtain⟨e1,e⟩:=e;subst e1));subst e;exact h))))
theorem a1S{a b:Nat}{M:Mem}{R:DK}{Y:DXK}:K4 [.int (a:Int),.int (b:Int)] M R Y=(R (.int ((c7e a b:Nat):Int)) M):=propext ⟨fun z=>by obtain⟨_,_,_,_⟩:=z;walk_at "inj",fun h=>⟨a,b,rfl,h⟩⟩
theorem a9W{q:Rat}{M:Mem}{R:DK}{Y:DXK}:a5x [d8 q] M R Y=(R (d8 (-q)) M):=propext ⟨fun z=>by obtain⟨_,_,_⟩:=z;walk_at "inj",fun h=>⟨q,rfl,h⟩⟩
theorem a7b{q r:Rat}{M:Mem}{R:DK}{Y:DXK}:F1 [d8 q,d8 r] M R Y=(sz q+sz r≤8900∧R (d8 (q+r)) M):=propext ⟨fun z=>by obtain⟨_,_,_,_⟩:=z;walk_at "inj",fun h=>⟨q,r,rfl,h⟩⟩
theorem a4V{q r:Rat}{M:Mem}{R:DK}{Y:DXK}:E2 [d8 q,d8 r] M R Y=(sz q+sz r≤8900∧R (d8 (q - r)) M):=propext ⟨fun z=>by obtain⟨_,_,_,_⟩:=z;walk_at "inj",fun h=>⟨q,r,rfl,h⟩⟩
theorem a4U{q r:Rat}{M:Mem}{R:DK}{Y:DXK}:D5 [d8 q,d8 r] M R Y=(sz q+sz r≤8900∧R (d8 (q*r)) M):=propext ⟨fun z=>by obtain⟨_,_,_,_⟩:=z;walk_at "inj",fun h=>⟨q,r,rfl,h⟩⟩
theorem a7c{q r:Rat}{M:Mem}{R:DK}{Y:DXK}:P9 [d8 q,d8 r] M R Y=(r≠0∧sz q+sz r≤8900∧R (d8 (q / r)) M):=propext ⟨fun z=>by obtain⟨_,_,_,_⟩:=z;walk_at "inj",fun h=>⟨q,r,rfl,h⟩⟩
theorem a7e{q r:Rat}{M:Mem}{R:DK}{Y:DXK}:a0A [d8 q,d8 r] M R Y=(sz q+sz r≤8900∧R (.bl (decide (q<r))) M):=propext ⟨fun z=>by obtain⟨_,_,_,_⟩:=z;walk_at "inj",fun h=>⟨q,r,rfl,h⟩⟩
theorem a9X{a b:Int}{M:Mem}{R:DK}{Y:DXK}:K9 [.int a,.int b] M R Y=(b≠0∧b.natAbs.log2<9000∧R (d8 (c7g a b)) M):=propext ⟨fun z=>by obtain⟨_,_,_,_⟩:=z;walk_at "inj",fun h=>⟨a,b,rfl,h⟩⟩
theorem a7a{c:Int}{M:Mem}{R:DK}{Y:DXK}:a85 [.int c] M R Y=(∀ p M',M p=none→MK M M'→B5 M' p→R (.ref p) M'):=propext ⟨fun z=>by obtain⟨_,_,_⟩:=z;walk_at "inj",fun h=>⟨c,rfl,h⟩⟩
theorem a7d{p:Addr}{b:Int}{M:Mem}{R:DK}{Y:DXK}:J2 [.ref p,.int b] M R Y=(B5 M p∧0<b∧b.natAbs.log2<9000∧∀(r:Int) M',0≤r→r<b→p6 p M M'→R (.int r) M'):=propext ⟨fun z=>by obtain⟨_,_,_,_⟩:=z;walk_at "inj",fun h=>⟨p,b,rfl,h⟩⟩
theorem a9Y{q:Rat}{M:Mem}{R:DK}{Y:DXK}:b0I [d8 q] M R Y=(R (d8 (j3 q)) M):=propext ⟨fun z=>by obtain⟨_,_,_⟩:=z;walk_at "inj",fun h=>⟨q,rfl,h⟩⟩
theorem a69{q:Rat}{M:Mem}{R:DK}{Y:DXK}:a84 [d8 q] M R Y=(RM.sz q≤4000∧∀ v,b5n q v→R v M):=propext ⟨fun z=>by obtain⟨_,_,_⟩:=z;walk_at "inj",fun h=>⟨q,rfl,h⟩⟩
theorem a1T{a b c d:Rat}{M:Mem}{R:DK}{Y:DXK}:a1B [u5 a c,u5 b d] M R Y=(R (a1A a b c d) M):=propext ⟨fun z=>by obtain⟨_,_,_,_,_,_⟩:=z;walk_at "inj",fun h=>⟨a,b,c,d,rfl,h⟩⟩
noncomputable abbrev a6v(a b c d y u:Rat)(M:Mem)(R:DK)(Y:DXK):Prop:=sz a+sz y+(sz b+sz u)≤8900∧sz c+sz y+(sz d+sz u)≤8900∧R (u5 (a*y+b*u) (c*y+d*u)) M
noncomputable def b6y:DSp:=fun ds M R Y=>∃(a b c d y u:Rat),ds=[a1A a b c d,u5 y u]∧a6v a b c d y u M R Y
theorem b2q{a b c d y u:Rat}{M:Mem}{R:DK}{Y:DXK}:b6y [a1A a b c d,u5 y u] M R Y=(a6v a b c d y u M R Y):=propext ⟨fun z=>by obtain⟨_,_,_,_,_,_,_,_⟩:=z;walk_at "inj",fun h=>⟨a,b,c,d,y,u,rfl,h⟩⟩
noncomputable abbrev a2x(x:Str × Rat)(y u:Rat)(M:Mem)(R:DK)(Y:DXK):Prop:=sz x.2+sz y+sz u≤8900∧R (u5 (B4 x y u).1 (B4 x y u).2) M
noncomputable def a3C:DSp:=fun ds M R Y=>∃(x:Str × Rat) (y u:Rat),ds=[f9 x,u5 y u]∧a2x x y u M R Y
theorem a95{x:Str × Rat}{y u:Rat}{M:Mem}{R:DK}{Y:DXK}:a3C [f9 x,u5 y u] M R Y=(a2x x y u M R Y):=propext ⟨fun z=>by obtain⟨_,_,_,_,_⟩:=z;walk_at "inj",fun h=>⟨x,y,u,rfl,h⟩⟩
theorem a62{k:Nat}:∀{ds:List D},(∀ x∈ds,cl k x=true)→clL k ds=true
 | [],_=>rfl
 | d :: r,h=>by
  show(cl k d && clL k r)=true
  rw[h d c7j,a62 (fun x hx=>h x (c6Y _ hx))];rfl
theorem p6.put{p l:Addr}{M M':Mem}{o:MO}(h:p6 p M M')(hl:M l=none)(hp:l≠p):p6 p M (A7 M' l o):=⟨fun b u hb e=>by
  rw[A0 (by intro z;subst z;rw[hl]at e;cases e)];exact h.keep b u hb e,by
  obtain⟨x,y,z,e⟩:=h.pool.ex
  exact⟨x,y,z,by rw[A0 (Ne.symm hp)];exact e⟩⟩
theorem p6.del{p l:Addr}{M M':Mem}(h:p6 p M M')(hl:M l=none)(hp:l≠p):p6 p M (a0o M' l):=⟨fun b u hb e=>by
  rw[a2I (by intro z;subst z;rw[hl]at e;cases e)];exact h.keep b u hb e,by
  obtain⟨x,y,z,e⟩:=h.pool.ex
  exact⟨x,y,z,by rw[a2I (Ne.symm hp)];exact e⟩⟩
theorem a9P{ds:List D}{n:Nat}:U0 ds none (some (n:Int))=ds.take n:=by
 unfold U0 HT.sIx
 simp only[List.drop_zero,Nat.sub_zero]
 rw[if_neg (by omega)]
 by_cases h:n≤ds.length
 ·congr 1;omega
 ·rw[c7y (by omega),c7y (by omega)]
end GM
set_option maxHeartbeats 1000000
namespace GM
open PySem PySem.Spec L2 DL
open RM (sz)
theorem E3{xs:List D}{r:Int}{M:Mem}{R:DK}(h0:0≤r)(h1:r<xs.length)(h:∀ d∈xs,R d M):gIx (.vl xs) (.int r) M R:=by
 obtain⟨z,e,hz⟩:=b1k h0 h1
 exact⟨z,e,h z hz⟩
local macro_rules|`(tactic| walk_at "inj")=>`(tactic| (rename_i e h;simp only[List.cons.injEq,and_true,true_and,GM.j8,GM.j5,GM.i6,GM.j6,GM.i7,D.tup.injEq,D.ref.injEq,D.int.injEq,D.str.injEq,D.bl.injEq,D.vl.injEq,c6V,and_assoc]at e;(repeat(obtain⟨e1,e⟩:=e;subst e1));subst e;exact h))
local macro_rules|`(tactic| walk_at "injs")=>`(tactic| (rename_i e o h;rcases o with o|o<;>(subst o;first|(exfalso;simp only[D.tup.injEq,List.cons.injEq,reduceCtorEq,false_and,and_false]at e;done)|(simp only[List.cons.injEq,and_true,true_and,GM.j8,GM.j5,GM.i6,GM.j6,GM.i7,D.tup.injEq,D.ref.injEq,D.int.injEq,D.str.injEq,D.bl.injEq,D.vl.injEq,c6V,and_assoc]at e;(repeat(obtain⟨e1,e⟩:=e;subst e1));subst e;exact h))))
structure b5m(w:Rat):Prop where
 n:w.num.natAbs≤4
 d:w.den≤4
 ne:w≠0
theorem small_one:b5m 1:=⟨by decide,by decide,by decide⟩
theorem b5m.sz{w:Rat}(h:b5m w):RM.sz w≤3:=by
 rw[← c76 w]
 exact b96 (by decide) (by have:=h.n;omega) (by have:=h.d;omega) (RM.D3 w)
end GM
namespace GM
open PySem PySem.Spec L2 DL
open RM (sz)
noncomputable abbrev Q4:=Rat × Rat × Rat × Rat
noncomputable def K5(m:Q4):D:=a1A m.1 m.2.1 m.2.2.1 m.2.2.2
noncomputable def a8n(m k:Q4):Q4:=(m.1*k.1+m.2.1*k.2.2.1,m.1*k.2.1+m.2.1*k.2.2.2,m.2.2.1*k.1+m.2.2.2*k.2.2.1,m.2.2.1*k.2.1+m.2.2.2*k.2.2.2)
noncomputable def a1Q(m:Q4):Rat:=m.1*m.2.2.2 - m.2.1*m.2.2.1
noncomputable def CDQ(S:Nat)(m:Q4):Prop:=CD S m.1 m.2.1 m.2.2.1 m.2.2.2
noncomputable def pwQ(m:Q4):Nat→Q4
 | 0=>(1,0,0,1)
 | k+1=>a8n m (pwQ m k)
noncomputable def xwQ(m:Q4):Nat→Rat × Rat
 | 0=>(0,-1)
 | k+1=>((m.1+m.2.2.2)*(xwQ m k).1 - (xwQ m k).2,(xwQ m k).1)
theorem a6Z{m k:Q4}(h1:m.1=k.1)(h2:m.2.1=k.2.1)(h3:m.2.2.1=k.2.2.1)(h4:m.2.2.2=k.2.2.2):m=k:=Prod.ext h1 (Prod.ext h2 (Prod.ext h3 h4))
theorem b0U{m:Q4}(hd:a1Q m=1):∀ k,pwQ m k=(m.1*(xwQ m k).1 - (xwQ m k).2,m.2.1*(xwQ m k).1,m.2.2.1*(xwQ m k).1,m.2.2.2*(xwQ m k).1 - (xwQ m k).2)
 | 0=>by refine a6Z ?_ ?_ ?_ ?_<;>(simp only[pwQ,xwQ];grind)
 | k+1=>by
  have ih:=b0U hd k
  have hd':m.1*m.2.2.2 - m.2.1*m.2.2.1=1:=hd
  show a8n m (pwQ m k)=_
  rw[ih]
  generalize h1:xwQ m k=xw at *
  refine a6Z ?_ ?_ ?_ ?_<;>(simp only[a8n,xwQ,h1];grind)
theorem CD.mul{S T:Nat}{m k:Q4}(h:CDQ S m)(g:CDQ T k):CDQ (S+T+1) (a8n m k):=by
 obtain⟨A,B,C,E,D,h0,hd,⟨h1,h2,h3,h4⟩,e1,e2,e3,e4⟩:=h.ex
 obtain⟨A',B',C',E',D',h0',hd',⟨h1',h2',h3',h4'⟩,e1',e2',e3',e4'⟩:=g.ex
 refine⟨A*A'+B*C',A*B'+B*E',C*A'+E*C',C*B'+E*E',D*D',c7H h0 h0',a0w (o9 hd hd') (by omega),⟨A3 (e7 h1 h1') (e7 h2 h3'),A3 (e7 h1 h2') (e7 h2 h4'),A3 (e7 h3 h1') (e7 h4 h3'),A3 (e7 h3 h2') (e7 h4 h4')⟩,?_,?_,?_,?_⟩
 all_goals (simp only[a8n,c6Z,c7P,c6B];grind)
theorem CD.tr{S:Nat}{a b c d:Rat}(h:CD S a b c d):sz (a+d)≤S+1:=by
 obtain⟨A,B,C,E,D,h0,hd,⟨h1,h2,h3,h4⟩,e1,e2,e3,e4⟩:=h.ex
 exact a8J (A:=A+E) (D:=D) (by omega) h0 (a0w hd (by omega)) (by rw[c7P];grind) (A3 h1 h4)
theorem a4T{n:Int}{M:Mem}{R:DK}{Y:DXK}:a00 [.int n] M R Y=R (.bl true) M:=propext ⟨fun⟨_,e,h⟩=>by cases e;exact h,fun h=>⟨_,rfl,h⟩⟩
local macro_rules|`(tactic| walk_at "inj")=>`(tactic| (rename_i e h;simp only[List.cons.injEq,and_true,true_and,GM.j8,GM.j5,GM.i6,GM.j6,GM.i7,D.tup.injEq,D.ref.injEq,D.int.injEq,D.str.injEq,D.bl.injEq,D.vl.injEq,c6V,and_assoc]at e;(repeat(obtain⟨e1,e⟩:=e;subst e1));subst e;exact h))
local macro_rules|`(tactic| walk_at "injs")=>`(tactic| (rename_i e o h;rcases o with o|o<;>(subst o;first|(exfalso;simp only[D.tup.injEq,List.cons.injEq,reduceCtorEq,false_and,and_false]at e;done)|(simp only[List.cons.injEq,and_true,true_and,GM.j8,GM.j5,GM.i6,GM.j6,GM.i7,D.tup.injEq,D.ref.injEq,D.int.injEq,D.str.injEq,D.bl.injEq,D.vl.injEq,c6V,and_assoc]at e;(repeat(obtain⟨e1,e⟩:=e;subst e1));subst e;exact h))))
end GM
namespace GM
open PySem PySem.Spec L2 DL
open RM (sz)
noncomputable def y9(G:Rat)(x:Str × Rat):Str × Rat:=if x.1 = "gap" then(x.1,G*x.2)else if x.1 = "glass" then(x.1,x.2 / G)else x
theorem a3e(G:Rat)(x:Str × Rat):(y9 G x).1=x.1:=by
 unfold y9;split
 ·rfl
 ·split<;>rfl
theorem b4k{G:Rat}(h:G≠0)(x:Str × Rat)(y u:Rat):B4 (y9 G x) (G*y) u=(G*(B4 x y u).1,(B4 x y u).2):=by
 unfold B4
 rw[a3e]
 unfold y9
 by_cases h1:x.1 = "gap"
 ·rw[if_pos h1,if_pos h1,if_pos h1]
  exact Prod.ext (by show G*y+G*x.2*u=G*(y+x.2*u);grind) rfl
 ·rw[if_neg h1,if_neg h1,if_neg h1]
  by_cases h2:x.1 = "glass"
  ·rw[if_pos h2,if_pos h2,if_pos h2]
   exact Prod.ext rfl (by show u - x.2 / G*(G*y)=u - x.2*y;grind)
  ·rw[if_neg h2,if_neg h2]
theorem b3U{G:Rat}(h:G≠0)(bs:List (Str × Rat))(y u:Rat):g7 (bs.map (y9 G)) (G*y,u)=(G*(g7 bs (y,u)).1,(g7 bs (y,u)).2):=by
 induction bs generalizing y u with
 | nil=>rfl
 | cons x r ih =>
  show g7 (r.map (y9 G)) (B4 (y9 G x) (G*y) u)=_
  rw[b4k h x y u]
  exact ih _ _
noncomputable def L7(x:Str × Rat):Bool:=x.1 == "gap" || x.1 == "glass"
noncomputable def E1(bs:List (Str × Rat)):Nat:=(bs.filter L7).length
theorem a8q{x:Str × Rat}(h:L7 x=false)(y u:Rat):B4 x y u=(y,u):=by
 unfold L7 at h
 rw[Bool.or_eq_false_iff]at h
 unfold B4
 rw[if_neg (by have:=h.1;intro e;rw[e]at this;cases this),if_neg (by have:=h.2;intro e;rw[e]at this;cases this)]
theorem CD.ledk{S k:Nat}{x:Str × Rat}{y u y' u':Rat}(h:CD S y y' u u')(hx:sz x.2≤k):CD (S+(k+1)) (B4 x y u).1 (B4 x y' u').1 (B4 x y u).2 (B4 x y' u').2:=by
 unfold B4
 split
 ·exact h.step hx
 ·split
  ·have:=(h.swap.step (q:=-x.2) (k:=k) (by rw[RM.I0];exact hx)).swap
   rw[show u + -x.2*y=u - x.2*y by grind,show u' + -x.2*y'=u' - x.2*y' by grind]at this
   exact this
  ·exact h.mono (by omega)
theorem b6W{k:Nat}(bs:List (Str × Rat))(hb:∀ x∈bs,L7 x=true→sz x.2≤k):∀{S:Nat} {y u y' u':Rat},CD S y y' u u'→CD (S+(k+1)*E1 bs) (g7 bs (y,u)).1 (g7 bs (y',u')).1 (g7 bs (y,u)).2 (g7 bs (y',u')).2:=by
 induction bs with
 | nil=>intro S y u y' u' h;exact h.mono (by omega)
 | cons x r ih =>
  intro S y u y' u' h
  have hr:=fun z hz=>hb z (c6Y _ hz)
  cases ha:L7 x with
  | false =>
   have e:E1 (x :: r)=E1 r:=by unfold E1;rw[c7L,ha];rfl
   rw[e]
   show CD _ (g7 r (B4 x y u)).1 (g7 r (B4 x y' u')).1 (g7 r (B4 x y u)).2 (g7 r (B4 x y' u')).2
   rw[a8q ha,a8q ha]
   exact ih hr h
  | true =>
   have e:E1 (x :: r)=E1 r+1:=by unfold E1;rw[c7L,ha];rfl
   rw[e,show S+(k+1)*(E1 r+1)=S+(k+1)+(k+1)*E1 r by rw[Nat.mul_succ];omega]
   exact ih hr (h.ledk (hb x c7j ha))
theorem CD.wide{S k:Nat}{a b c d G:Rat}(h:CD S a b c d)(hG:sz G≤k)(hp:0<G.num):CD (S+2*k) a (G*b) (c / G) d:=by
 obtain⟨A,B,C,E,D,h0,hd,⟨h1,h2,h3,h4⟩,e1,e2,e3,e4⟩:=h.ex
 have hn:=q9 G hG
 have hm:=t9 G hG
 have hm':(G.den:Int).natAbs<2 ^ k:=by rw[c6w];exact hm
 have e:=u9 G
 obtain⟨n,en⟩:∃ n:Nat,G.num=(n:Int):=⟨G.num.toNat,by omega⟩
 rw[en]at hn e hp
 rw[c6w]at hn
 rw[c6C]at e
 have hn':(n:Int).natAbs<2 ^ k:=by rw[c6w];exact hn
 have g0:G≠0:=by
  intro z
  rw[z]at e
  have:(n:Rat)=0:=by grind
  have:n=0:=by exact_mod_cast this
  omega
 refine⟨A*((n:Int)*G.den),B*((n:Int)*n),C*((G.den:Int)*G.den),E*((n:Int)*G.den),D*(n*G.den),c7H h0 (c7H (by omega) G.den_nz),?_,⟨?_,?_,?_,?_⟩,?_,?_,?_,?_⟩
 ·rw[show S+2*k=S+(k+k)by omega];exact o9 hd (o9 hn hm)
 ·rw[show S+2*k=S+(k+k)by omega];exact e7 h1 (e7 hn' hm')
 ·rw[show S+2*k=S+(k+k)by omega];exact e7 h2 (e7 hn' hn')
 ·rw[show S+2*k=S+(k+k)by omega];exact e7 h3 (e7 hm' hm')
 ·rw[show S+2*k=S+(k+k)by omega];exact e7 h4 (e7 hn' hm')
 all_goals (simp only[c6Z,c6B,c6C])
 ·grind
 ·grind
 ·have:c / G*G=c:=by grind
  grind
 ·grind
theorem b1o{G:Rat}(h:G≠0)(x:Str × Rat):y9 G (y9 (1 / G) x)=x:=by
 have e:=a3e (1 / G) x
 by_cases h1:x.1 = "gap"
 ·have e2:y9 (1 / G) x=(x.1,1 / G*x.2):=if_pos h1
  rw[e2]
  show(if x.1 = "gap" then(x.1,G*(1 / G*x.2))else _)=x
  rw[if_pos h1]
  exact Prod.ext rfl (by show G*(1 / G*x.2)=x.2;grind)
 ·by_cases h2:x.1 = "glass"
  ·have e2:y9 (1 / G) x=(x.1,x.2 / (1 / G)):=by unfold y9;rw[if_neg h1,if_pos h2]
   rw[e2]
   show(if x.1 = "gap" then _ else if x.1 = "glass" then(x.1,x.2 / (1 / G) / G)else _)=x
   rw[if_neg h1,if_pos h2]
   exact Prod.ext rfl (by show x.2 / (1 / G) / G=x.2;grind)
  ·have e2:y9 (1 / G) x=x:=by unfold y9;rw[if_neg h1,if_neg h2]
   rw[e2]
   unfold y9
   rw[if_neg h1,if_neg h2]
theorem a8Q(G:Rat)(x:Str × Rat):L7 (y9 G x)=L7 x:=by unfold L7;rw[a3e]
theorem b2f(G:Rat)(xs:List (Str × Rat)):E1 (xs.map (y9 G))=E1 xs:=by
 induction xs with
 | nil=>rfl
 | cons x r ih =>
  unfold E1 at ih ⊢
  rw[c7C,c7L,c7L,a8Q]
  split
  ·rw[c7f,c7f,ih]
  ·exact ih
theorem a1w(xs ys:List (Str × Rat)):E1 (xs++ys)=E1 xs+E1 ys:=by unfold E1;rw[c7r,c6H]
theorem a8P(xs:List (Str × Rat)):E1 xs.reverse=E1 xs:=by unfold E1;rw[c9r,c7d]
theorem b2g(xs:List (Str × Rat))(i:Nat):E1 (xs.take i)≤E1 xs:=by
 have:=a1w (xs.take i) (xs.drop i)
 rw[c8t]at this
 omega
theorem a9w{G:Rat}(h:0<G.num):G≠0:=by
 intro z;rw[z]at h;exact absurd h (by decide)
noncomputable def tbQ(bs:List (Str × Rat)):Q4:=((g7 bs (1,0)).1,(g7 bs (0,1)).1,(g7 bs (1,0)).2,(g7 bs (0,1)).2)
theorem b6l{G:Rat}(hp:0<G.num)(hG:sz G≤67){xs:List (Str × Rat)}(hx:∀ x∈xs,L7 x=true→sz (y9 (1 / G) x).2≤5)(ha:E1 xs≤14):CDQ 230 (tbQ xs):=by
 have g0:=a9w hp
 have e:xs=(xs.map (y9 (1 / G))).map (y9 G):=by
  rw[c7w]
  exact(List.map_id xs).symm.trans (List.map_congr_left fun x _=>(b1o g0 x).symm)
 have c:=b6W (k:=5) (xs.map (y9 (1 / G))) (fun x h=>by
  obtain⟨z,hz,rfl⟩:=c7k.mp h
  rw[a8Q]
  exact hx z hz) CD.one
 rw[b2f]at c
 have c2:=(c.mono (show 1+(5+1)*E1 xs≤85 by omega)).wide hG hp
 have o:=b3U g0 (xs.map (y9 (1 / G)))
 rw[← e]at o
 have o1:=o (1 / G) 0
 have o2:=o 0 1
 rw[show G*(1 / G)=1 by grind]at o1
 rw[show G*(0:Rat)=0 by grind]at o2
 have l1:=M9 (xs.map (y9 (1 / G))) (1 / G) 0
 unfold CDQ tbQ
 rw[o1,o2]
 generalize g7 (xs.map (y9 (1 / G))) (1,0)=p at *
 generalize g7 (xs.map (y9 (1 / G))) (0,1)=q at *
 show CD 230 (G*(g7 (xs.map (y9 (1 / G))) (1 / G,0)).1) (G*q.1) (g7 (xs.map (y9 (1 / G))) (1 / G,0)).2 q.2
 rw[l1.1,l1.2,show G*(p.1*(1 / G)+q.1*0)=p.1 by grind,show p.2*(1 / G)+q.2*0=p.2 / G by grind]
 exact c2.mono (by omega)
theorem a81(bs:List (Str × Rat)):a1Q (tbQ bs)=1:=b6V bs
noncomputable def e6(near:Rat)(bs:List (Str × Rat))(far:Rat):List (Str × Rat):=bs++[(Str.ofString "glass",far)]++bs.reverse++[(Str.ofString "glass",near)]
structure B6(near:Rat)(bs:List (Str × Rat))(far:Rat):Prop where
 ex:∃ G:Rat,0<G.num∧sz G≤67∧sz (near*G)≤5∧sz (far*G)≤5∧∀ x∈bs,L7 x=true→sz (y9 (1 / G) x).2≤5
 act:E1 bs≤6
 len:bs.length≤9
 part:∀ x∈bs,sz x.2≤80∧((x.1 = "gap" ∧ 0≤x.2)∨x.1 = "glass" ∨ (x.1 = "stop" ∧ 0<x.2))
 zn:sz near≤80
 zf:sz far≤80
theorem a34{G q:Rat}(h:sz (q*G)≤5):sz (y9 (1 / G) (Str.ofString "glass",q)).2≤5:=by
 have:y9 (1 / G) (Str.ofString "glass",q)=(Str.ofString "glass",q / (1 / G)):=by
  unfold y9
  rw[if_neg (show ¬ Str.ofString "glass" = Str.ofString "gap" by decide),if_pos rfl]
 rw[this]
 by_cases g:G=0
 ·rw[g]
  show sz (q / (1 / 0))≤5
  rw[show q / (1 / 0)=(0:Rat)by grind,RM.F0];decide
 ·rw[show q / (1 / G)=q*G by grind];exact h
theorem B6.cd{near far:Rat}{bs:List (Str × Rat)}(h:B6 near bs far)(i:Nat):CDQ 230 (tbQ ((e6 near bs far).take i)):=by
 obtain⟨G,hp,hG,hn,hf,hb⟩:=h.ex
 refine b6l hp hG (fun x hx ha=>?_) ?_
 ·have hx:=c8a hx
  unfold e6 at hx
  rcases c6R.mp hx with hx|hx
  ·rcases c6R.mp hx with hx|hx
   ·rcases c6R.mp hx with hx|hx
    ·exact hb x hx ha
    ·rw[c6N.mp hx];exact a34 hf
   ·exact hb x (c7Q.mp hx) ha
  ·rw[c6N.mp hx];exact a34 hn
 ·refine c6D (b2g _ _) ?_
  unfold e6
  rw[a1w,a1w,a1w,a8P]
  have:=h.act
  have e1:E1 [(Str.ofString "glass",far)]=1:=rfl
  have e2:E1 [(Str.ofString "glass",near)]=1:=rfl
  omega
theorem B6.szs{near far:Rat}{bs:List (Str × Rat)}(h:B6 near bs far):∀ x∈e6 near bs far,sz x.2≤80:=by
 intro x hx
 unfold e6 at hx
 rcases c6R.mp hx with hx|hx
 ·rcases c6R.mp hx with hx|hx
  ·rcases c6R.mp hx with hx|hx
   ·exact(h.part x hx).1
   ·rw[c6N.mp hx];exact h.zf
  ·exact(h.part x (c7Q.mp hx)).1
 ·rw[c6N.mp hx];exact h.zn
theorem P7(near far:Rat)(bs:List (Str × Rat)):(e6 near bs far).length=2*bs.length+2:=by
 unfold e6
 simp only[c6H,c7d,c7f,c7o]
 omega
theorem W5{S T:Nat}{xs:List (Str × Rat)}{y u:Rat}(h:CDQ S (tbQ xs))(g:CD T y 0 u 0):CD (S+T+1) (g7 xs (y,u)).1 0 (g7 xs (y,u)).2 0:=by
 have c:=CD.mul (k:=(y,0,u,0)) h g
 have l:=M9 xs y u
 unfold CDQ a8n tbQ at c
 rw[l.1,l.2]
 rw[show ∀ a b:Rat,a*0+b*0=0 from fun a b=>by grind]at c
 rw[show ∀ a b:Rat,a*0+b*0=0 from fun a b=>by grind]at c
 exact c
theorem b7A(q:Rat)(m:Int):c7g q.num ((q.den:Int)*m)=q / (m:Rat):=by
 rw[c7q,c6B,c6C,← u9 q]
 have h:(q.den:Rat)≠0:=by
  intro z;exact q.den_nz (by exact_mod_cast z)
 grind
theorem c2V{m:Int}(h0:2≤m)(h1:m≤3):sz (m:Rat)≤2∧sz (1 - 1 / (m:Rat))≤2∧0<1 / (m:Rat)∧0<1 - 1 / (m:Rat):=by
 have:m=2∨m=3:=by omega
 rcases this with rfl|rfl
 ·exact⟨by decide +kernel,by decide +kernel,by decide +kernel,by decide +kernel⟩
 ·exact⟨by decide +kernel,by decide +kernel,by decide +kernel,by decide +kernel⟩
theorem a9D{q:Rat}(h:0<q):0<q.num:=by
 have:=(c9B 0 q).mp h
 simpa using this
theorem a1I{t b:Int}{k:Nat}(hk:0<k)(ht:t.natAbs<2 ^ k)(h0:0<b)(hb:b.natAbs<2 ^ k):sz (c7g t b)≤k:=c6D (RM.K3 t b (by omega)) (c8A.mpr ⟨RM.X5 ht hk,RM.X5 hb hk⟩)
theorem a9v{t b:Int}(h:0<t)(h0:0<b):0<c7g t b:=by
 rw[c7q]
 have h1:(0:Rat)<(t:Rat):=by exact_mod_cast h
 have h2:(0:Rat)<(b:Rat):=by exact_mod_cast h0
 exact(Rat.lt_div_iff h2).mpr (by grind)
theorem a0d{ts bs:List Int}{k:Nat}(hk:0<k)(ht:∀ t∈ts,t.natAbs<2 ^ k)(hb:∀ b∈bs,0<b∧b.natAbs<2 ^ k):∀ t∈ts,∀ b∈bs,sz (c7g t b)≤k:=fun t h b g=>a1I hk (ht t h) (hb b g).1 (hb b g).2
theorem b05{ts bs:List Int}{k:Nat}(hk:0<k)(ht:∀ t∈ts,0<t∧t.natAbs<2 ^ k)(hb:∀ b∈bs,0<b∧b.natAbs<2 ^ k):∀ t∈ts,∀ b∈bs,0<c7g t b∧sz (c7g t b)≤k:=fun t h b g=>⟨a9v (ht t h).1 (hb b g).1,a1I hk (ht t h).2 (hb b g).1 (hb b g).2⟩
theorem b7r{ts bs:List Int}{k:Nat}(hk:0<k)(ht:∀ t∈ts,0≤t∧t.natAbs<2 ^ k)(hb:∀ b∈bs,0<b∧b.natAbs<2 ^ k):∀ t∈ts,∀ b∈bs,0≤c7g t b∧sz (c7g t b)≤k:=fun t h b g=>⟨by
 by_cases z:t=0
 ·rw[z,Rat.zero_divInt];exact Rat.le_refl
 ·exact c9d (a9v (by have:=(ht t h).1;omega) (hb b g).1),a1I hk (ht t h).2 (hb b g).1 (hb b g).2⟩
theorem lg9{n:Nat}(h:n<128):n.log2<9000:=c6A (E7 (k:=7) h (by decide)) (by decide)
local macro_rules|`(tactic| walk_at "inj")=>`(tactic| (rename_i e h;simp only[List.cons.injEq,and_true,true_and,GM.j8,GM.j5,GM.i6,GM.j6,GM.i7,D.tup.injEq,D.ref.injEq,D.int.injEq,D.str.injEq,D.bl.injEq,D.vl.injEq,c6V,and_assoc]at e;(repeat(obtain⟨e1,e⟩:=e;subst e1));subst e;exact h))
local macro_rules|`(tactic| walk_at "injs")=>`(tactic| (rename_i e o h;rcases o with o|o<;>(subst o;first|(exfalso;simp only[D.tup.injEq,List.cons.injEq,reduceCtorEq,false_and,and_false]at e;done)|(simp only[List.cons.injEq,and_true,true_and,GM.j8,GM.j5,GM.i6,GM.j6,GM.i7,D.tup.injEq,D.ref.injEq,D.int.injEq,D.str.injEq,D.bl.injEq,D.vl.injEq,c6V,and_assoc]at e;(repeat(obtain⟨e1,e⟩:=e;subst e1));subst e;exact h))))
noncomputable abbrev a2u(p:Addr)(x y:D)(M:Mem)(R:DK)(Y:DXK):Prop:=B5 M p∧∃(ts bs:List Int) (P:Rat→Prop),x = .vl (ts.map D.int)∧y = .vl (bs.map D.int)∧((0<ts.length∧ts.length≤100)∧(0<bs.length∧bs.length≤100)∧(∀ b∈bs,0<b∧b≤1000)∧∀ t∈ts,∀ b∈bs,P (c7g t b))∧∀(q:Rat) M',P q→p6 p M M'→R (d8 q) M'
noncomputable def a5y:DSp:=fun ds M R Y=>∃(p:Addr) (x y:D),ds=[.ref p,x,y]∧a2u p x y M R Y
theorem a93{p:Addr}{x y:D}{M:Mem}{R:DK}{Y:DXK}:a5y [.ref p,x,y] M R Y=(a2u p x y M R Y):=propext ⟨fun z=>by obtain⟨_,_,_,_,_⟩:=z;walk_at "inj",fun h=>⟨p,x,y,rfl,h⟩⟩
noncomputable abbrev Y7(p:Addr)(G:Rat)(M:Mem)(R:DK)(Y:DXK):Prop:=B5 M p∧(0<G∧sz G≤67)∧∀(qs:List Rat) M',qs.length≤3→(∀ q∈qs,0≤q∧sz q≤5)→p6 p M M'→R (.vl ((qs.map fun q=>(Str.ofString "gap",G*q)).map f9)) M'
noncomputable def a6p:DSp:=fun ds M R Y=>∃(p:Addr) (G:Rat),ds=[.ref p,d8 G]∧Y7 p G M R Y
theorem a45{p:Addr}{G:Rat}{M:Mem}{R:DK}{Y:DXK}:a6p [.ref p,d8 G] M R Y=(Y7 p G M R Y):=propext ⟨fun z=>by obtain⟨_,_,_,_⟩:=z;walk_at "inj",fun h=>⟨p,G,rfl,h⟩⟩
noncomputable abbrev Z2(p:Addr)(x:D)(n:Int)(M:Mem)(R:DK)(Y:DXK):Prop:=B5 M p∧∃ bs:List (Str × Rat),x = .vl (bs.map f9)∧(0≤n∧n≤4∧bs.length≤20)∧∀(cs:List (Str × Rat)) M',cs.length≤bs.length+n.toNat→cs.filter L7=bs.filter L7→(∀ x∈cs,x∈bs∨(x.1 = "stop" ∧ 0<x.2∧sz x.2≤10))→p6 p M M'→R (.vl (cs.map f9)) M'
noncomputable def a2z:DSp:=fun ds M R Y=>∃(p:Addr) (x:D) (n:Int),ds=[.ref p,x,.int n]∧Z2 p x n M R Y
theorem a5a{p:Addr}{x:D}{n:Int}{M:Mem}{R:DK}{Y:DXK}:a2z [.ref p,x,.int n] M R Y=(Z2 p x n M R Y):=propext ⟨fun z=>by obtain⟨_,_,_,_,_⟩:=z;walk_at "inj",fun h=>⟨p,x,n,rfl,h⟩⟩
noncomputable abbrev a2y(p:Addr)(M:Mem)(R:DK)(Y:DXK):Prop:=B5 M p∧∀(near:Rat) (bs:List (Str × Rat)) (far:Rat) M',B6 near bs far→bs.length≤7→E1 bs≤4→p6 p M M'→R (.tup [d8 near,.vl (bs.map f9),d8 far]) M'
noncomputable def a71:DSp:=fun ds M R Y=>∃(p:Addr),ds=[.ref p]∧a2y p M R Y
theorem a96{p:Addr}{M:Mem}{R:DK}{Y:DXK}:a71 [.ref p] M R Y=(a2y p M R Y):=propext ⟨fun z=>by obtain⟨_,_,_⟩:=z;walk_at "inj",fun h=>⟨p,rfl,h⟩⟩
noncomputable def lpD(w:D)(n:D)(x:Str × Rat):D:=.tup [w,n,f9 x]
noncomputable def a5J(near:Rat)(bs:List (Str × Rat))(far:Rat):List D:=(bs.zipIdx.map fun x=>lpD (.str "forth") (.int (x.2:Int)) x.1)++[lpD .non .non (Str.ofString "glass",far)]++(bs.zipIdx.reverse.map fun x=>lpD (.str "back") (.int (x.2:Int)) x.1)++[lpD .non .non (Str.ofString "glass",near)]
noncomputable abbrev Z3(near:Rat)(bs:List (Str × Rat))(far:Rat)(M:Mem)(R:DK)(Y:DXK):Prop:=bs.length≤9∧R (.vl (a5J near bs far)) M
noncomputable def a2A:DSp:=fun ds M R Y=>∃(near:Rat) (bs:List (Str × Rat)) (far:Rat),ds=[.tup [d8 near,.vl (bs.map f9),d8 far]]∧Z3 near bs far M R Y
theorem a5b{near:Rat}{bs:List (Str × Rat)}{far:Rat}{M:Mem}{R:DK}{Y:DXK}:a2A [.tup [d8 near,.vl (bs.map f9),d8 far]] M R Y=(Z3 near bs far M R Y):=propext ⟨fun z=>by obtain⟨_,_,_,_,_⟩:=z;walk_at "inj",fun h=>⟨near,bs,far,rfl,h⟩⟩
theorem a7J{G near far:Rat}{bs cs:List (Str × Rat)}(hp:0<G.num)(hG:sz G≤67)(hn:sz (near*G)≤5)(hf:sz (far*G)≤5)(zn:sz near≤80)(zf:sz far≤80)
  (hb:∀ x∈bs,sz (y9 (1 / G) x).2≤5∧sz x.2≤80∧((x.1 = "gap" ∧ 0≤x.2)∨x.1 = "glass")) (hl:bs.length≤4) (hc:cs.length≤7) (hfl:cs.filter L7=bs.filter L7)
  (hm:∀ x∈cs,x∈bs∨(x.1 = "stop" ∧ 0<x.2∧sz x.2≤10)):B6 near cs far∧cs.length≤7∧E1 cs≤4:=by
 have ha:E1 cs≤4:=by
  unfold E1;rw[hfl];exact c6D (c8s _ _) hl
 refine⟨⟨⟨G,hp,hG,hn,hf,fun x hx h=>?_⟩,by omega,by omega,fun x hx=>?_,zn,zf⟩,hc,ha⟩
 ·rcases hm x hx with h1|⟨h1,_⟩
  ·exact(hb x h1).1
  ·unfold L7 at h;rw[h1]at h;exact absurd h (by decide)
 ·rcases hm x hx with h1|⟨h1,h2,h3⟩
  ·obtain⟨_,h2,h3⟩:=hb x h1
   exact⟨h2,h3.elim .inl fun h=>.inr (.inl h)⟩
  ·exact⟨by omega,.inr (.inr ⟨h1,h2⟩)⟩
theorem b4B{G q:Rat}(h:G≠0):(y9 (1 / G) (Str.ofString "gap",G*q)).2=q:=by
 show(if Str.ofString "gap" = Str.ofString "gap" then(Str.ofString "gap",1 / G*(G*q))else _).2=q
 rw[if_pos rfl]
 show 1 / G*(G*q)=q
 grind
theorem b3X(x:Str × Rat):(y9 (1 / 1) x).2=x.2:=by
 unfold y9
 split
 ·show 1 / 1*x.2=x.2;grind
 ·split
  ·show x.2 / (1 / 1)=x.2;grind
  ·rfl
theorem a8p{G:Rat}(h:0<G.num){n b:Int}(hb:b≠0):c7g (n*(G.den:Int)) (b*G.num)=(n:Rat) / (b:Rat) / G:=by
 have hd:(G.den:Rat)≠0:=by
  intro z;exact G.den_nz (by exact_mod_cast z)
 have e:=u9 G
 have g0:=a9w h
 have b0:(b:Rat)≠0:=by
  intro z;exact hb (by exact_mod_cast z)
 rw[c7q,c6B,c6B,c6C,← e]
 grind
theorem b4m{G:Rat}(h0:0<G)(hG:sz G≤67){qs:List Rat}(hl:qs.length≤3)(hq:∀ q∈qs,0≤q∧sz q≤5){cs:List (Str × Rat)}(hc:cs.length≤7)
  (hfl:cs.filter L7=(qs.map fun q=>(Str.ofString "gap",G*q)).filter L7) (hm:∀ x∈cs,x∈(qs.map fun q=>(Str.ofString "gap",G*q))∨(x.1 = "stop" ∧ 0<x.2∧sz x.2≤10)) {n f b:Int}
  (hn:n.natAbs≤13) (hf:f.natAbs≤13) (hb:b=1∨b=2):B6 ((n:Rat) / (b:Rat) / G) cs ((f:Rat) / (b:Rat) / G)∧cs.length≤7∧E1 cs≤4:=by
 have hp:0<G.num:=a9D h0
 have g0:=a9w hp
 have sm:∀ k:Int,k.natAbs≤13→sz ((k:Rat) / (b:Rat))≤5:=fun k hk=>by
  have:=a1I (t:=k) (b:=b) (k:=5) (by decide) (show k.natAbs<32 by omega) (by omega) (show b.natAbs<32 by omega)
  rw[c7q]at this
  exact this
 have z1:=RM.J1 ((n:Rat) / (b:Rat)) G g0
 have z2:=RM.J1 ((f:Rat) / (b:Rat)) G g0
 have y1:=sm n hn
 have y2:=sm f hf
 refine a7J hp hG ?_ ?_ (by omega) (by omega) (fun x hx=>?_) (by rw[c6x];omega) hc hfl hm
 ·rw[show(n:Rat) / (b:Rat) / G*G=(n:Rat) / (b:Rat)by grind];exact y1
 ·rw[show(f:Rat) / (b:Rat) / G*G=(f:Rat) / (b:Rat)by grind];exact y2
 ·obtain⟨q,h1,rfl⟩:=c7k.mp hx
  have h2:=hq q h1
  have z3:=RM.u3 G q
  exact⟨by rw[b4B g0];exact h2.2,by show sz (G*q)≤80;omega,.inl ⟨rfl,c8c (c9d h0) h2.1⟩⟩
theorem a76{near far:Rat}{bs cs:List (Str × Rat)}(hn:sz near≤5)(hf:sz far≤5)(hb:∀ x∈bs,sz x.2≤5∧((x.1 = "gap" ∧ 0≤x.2)∨x.1 = "glass"))(hl:bs.length≤4)(hc:cs.length≤7)(hfl:cs.filter L7=bs.filter L7)
  (hm:∀ x∈cs,x∈bs∨(x.1 = "stop" ∧ 0<x.2∧sz x.2≤10)):B6 near cs far∧cs.length≤7∧E1 cs≤4 :=
 a7J (G:=1) (by decide) (by rw[RM.K6];decide) (by rw[show near*1=near by grind];exact hn) (by rw[show far*1=far by grind];exact hf) (by omega) (by omega)
  (fun x hx=>⟨by rw[b3X];exact(hb x hx).1,c6D (hb x hx).1 (by decide),(hb x hx).2⟩) hl hc hfl hm
theorem a1P(bs:List (Str × Rat)):X2 (bs.map f9)=bs.zipIdx.map fun x=>D.tup [.int (x.2:Int),f9 x.1]:=by
 unfold X2
 refine c8v (by simp) fun i h1 h2=>?_
 simp
theorem b4L(bs:List (Str × Rat)):a0x ((bs.length:Int) - 1) bs.length=bs.zipIdx.reverse.map fun x=>D.int (x.2:Int):=by
 unfold a0x
 refine c8v (by simp) fun i h1 h2=>?_
 have hi:i<bs.length:=by simpa using h1
 simp only[List.getElem_map,List.getElem_range,c9h,List.getElem_zipIdx,c7s]
 congr 1
 omega
noncomputable def y3(near:Rat)(bs:List (Str × Rat))(far:Rat):List (D × D × (Str × Rat)):=(bs.zipIdx.map fun x=>(D.str "forth",D.int (x.2:Int),x.1))++[(.non,.non,(Str.ofString "glass",far))]++(bs.zipIdx.reverse.map fun x=>(D.str "back",D.int (x.2:Int),x.1))++[(.non,.non,(Str.ofString "glass",near))]
theorem a6V(near far:Rat)(bs:List (Str × Rat)):a5J near bs far=(y3 near bs far).map fun z=>lpD z.1 z.2.1 z.2.2:=by
 unfold a5J y3
 simp only[c6P,c7w,c7C,c8g,c8f]
 rfl
theorem a1q(near far:Rat)(bs:List (Str × Rat)):e6 near bs far=(y3 near bs far).map fun z=>z.2.2:=by
 unfold e6 y3
 simp only[c6P,c7w,c7C,c8g,c8f]
 have e1:∀ w:D,c7i ((fun z:D × D × (Str × Rat)=>z.2.2) ∘ fun x:(Str × Rat) × Nat=>(w,D.int (x.2:Int),x.1)) bs.zipIdx=bs:=fun w=>by
  have:((fun z:D × D × (Str × Rat)=>z.2.2) ∘ fun x:(Str × Rat) × Nat=>(w,D.int (x.2:Int),x.1))=Prod.fst:=rfl
  rw[this];exact List.zipIdx_map_fst 0 bs
 rw[e1,e1]
theorem b1U{near far:Rat}{bs:List (Str × Rat)}{i:Nat}{d:D}(h:(a5J near bs far)[i]? = some d):∃(w n:D) (x:Str × Rat),d = .tup [w,n,f9 x]∧(e6 near bs far)[i]? = some x:=by
 rw[a6V,c6K]at h
 rw[a1q,c6K]
 cases e:(y3 near bs far)[i]? with
 | none=>rw[e]at h;cases h
 | some z =>
  rw[e]at h
  exact⟨z.1,z.2.1,z.2.2,(Option.some.inj h).symm,rfl⟩
theorem a5I(near far:Rat)(bs:List (Str × Rat)):(a5J near bs far).length=(e6 near bs far).length:=by rw[a6V,a1q,c6x,c6x]
end GM
namespace GM
open PySem PySem.Spec L2 DL
open RM (sz)
theorem a7O{m k:Q4}(h:K5 m=K5 k):m=k:=by
 unfold K5 a1A at h
 injection h with h
 injection h with h1 h
 injection h with h2 h
 injection h with h3 h
 injection h with h4 _
 exact a6Z (C1 h1) (C1 h2) (C1 h3) (C1 h4)
theorem b6o{q r:Rat}(h:r*r=q):sz r≤sz q:=by
 have e:=a3i r
 rw[h]at e
 refine RM.b0E (c6D (RM.T6 ?_) (RM.K7 q)) (c6D (RM.T6 ?_) (RM.C8 q))
 ·rw[e.1,c6W];exact c8J _
 ·rw[e.2];exact c8J _
noncomputable def trQ(m:Q4):Rat:=m.1+m.2.2.2
noncomputable def a1G(m:Q4):D:=if m=(1,0,0,1)then .int 1 else if m=(-1,0,0,-1)then .int 2 else if trQ m = -1 then .int 3 else if trQ m=0 then .int 4 else if trQ m=1 then .int 6 else .non
noncomputable abbrev B2(m:Q4):Prop:=m=(1,0,0,1)∨m=(-1,0,0,-1)∨trQ m = -1∨trQ m=0∨trQ m=1
theorem b0O{m:Q4}(h:B2 m):∃ n:Int,a1G m = .int n:=by
 unfold a1G
 by_cases h1:m=(1,0,0,1)
 ·exact⟨1,if_pos h1⟩
 ·rw[if_neg h1]
  by_cases h2:m=(-1,0,0,-1)
  ·exact⟨2,if_pos h2⟩
  ·rw[if_neg h2]
   by_cases h3:trQ m = -1
   ·exact⟨3,if_pos h3⟩
   ·rw[if_neg h3]
    by_cases h4:trQ m=0
    ·exact⟨4,if_pos h4⟩
    ·rw[if_neg h4]
     by_cases h5:trQ m=1
     ·exact⟨6,if_pos h5⟩
     ·rcases h with h|h|h|h|h<;>contradiction
theorem a6z{m:Q4}(h:¬ B2 m):a1G m = .non:=by
 unfold B2 at h
 unfold a1G
 rw[if_neg (fun e=>h (.inl e)),if_neg (fun e=>h (.inr (.inl e))),if_neg (fun e=>h (.inr (.inr (.inl e)))),if_neg (fun e=>h (.inr (.inr (.inr (.inl e))))),if_neg (fun e=>h (.inr (.inr (.inr (.inr e)))))]
noncomputable def kwS(m:Q4):Str:=if B2 m then "same" else if j3 (trQ m)=2 then "shear" else if j3 (trQ m)<2 then "turns" else "off"
noncomputable def b8D(m:Q4):D:=.tup [d8 m.2.2.1,d8 (m.2.2.2 - m.1),d8 (-m.2.1)]
noncomputable def a9S(m:Q4):D:=if m.2.1=0 then u5 0 1 else u5 m.2.1 (trQ m / 2 - m.1)
noncomputable def b1m(t:Rat)(v:D):Prop:=(∃ r:Rat,0≤r∧r*r=t*t - 4∧v=d8 ((t - (if t<0 then -r else r)) / 2))∨((∀ r:Rat,r*r≠t*t - 4)∧v = .non)
noncomputable def c0G(m:Q4)(v:D):Prop:=(kwS m = "same" ∧ v=a1G m)∨(kwS m = "turns" ∧ v=b8D m)∨(kwS m = "shear" ∧ v=a9S m)∨(kwS m = "off" ∧ b1m (trQ m) v)
theorem B6.rev{near far:Rat}{bs:List (Str × Rat)}(h:B6 near bs far):B6 far bs.reverse near:=by
 obtain⟨G,g1,g2,g3,g4,g5⟩:=h.ex
 exact⟨⟨G,g1,g2,g4,g3,fun x hx=>g5 x (c7Q.mp hx)⟩,by rw[a8P];exact h.act,by rw[c7d];exact h.len,fun x hx=>h.part x (c7Q.mp hx),h.zf,h.zn⟩
noncomputable def F4(m:Q4)(r:Rat × Rat):Nat→Rat × Rat
 | 0=>r
 | k+1=>(m.1*(F4 m r k).1+m.2.1*(F4 m r k).2,m.2.2.1*(F4 m r k).1+m.2.2.2*(F4 m r k).2)
theorem b0Q{bs:List (Str × Rat)}(r:Rat × Rat)(k:Nat):g7 bs (F4 (tbQ bs) r k)=F4 (tbQ bs) r (k+1):=by
 have l:=M9 bs (F4 (tbQ bs) r k).1 (F4 (tbQ bs) r k).2
 exact Prod.ext l.1 l.2
theorem a9r(m:Q4)(r:Rat × Rat):∀ k,F4 m r k=((pwQ m k).1*r.1+(pwQ m k).2.1*r.2,(pwQ m k).2.2.1*r.1+(pwQ m k).2.2.2*r.2)
 | 0=>by
  show r=_
  simp only[pwQ]
  exact Prod.ext (by grind) (by grind)
 | k+1=>by
  have ih:=a9r m r k
  show(_,_)=_
  rw[ih]
  simp only[pwQ,a8n]
  exact Prod.ext (by grind) (by grind)
theorem a9s{S T:Nat}{m:Q4}(h:CDQ S m){y u:Rat}(g:CD T y 0 u 0):∀ k,CD (T+(S+1)*k) (F4 m (y,u) k).1 0 (F4 m (y,u) k).2 0
 | 0=>g
 | k+1=>by
  have ih:=a9s h g k
  have c:=CD.mul (k:=((F4 m (y,u) k).1,0,(F4 m (y,u) k).2,0)) h ih
  unfold CDQ a8n at c
  simp only at c
  rw[show ∀ a b:Rat,a*0+b*0=0 from fun a b=>by grind]at c
  rw[show ∀ a b:Rat,a*0+b*0=0 from fun a b=>by grind]at c
  exact c.mono (by rw[Nat.mul_succ];omega)
local macro_rules|`(tactic| walk_at "inj")=>`(tactic| (rename_i e h;simp only[List.cons.injEq,and_true,true_and,GM.j8,GM.j5,GM.i6,GM.j6,GM.i7,D.tup.injEq,D.ref.injEq,D.int.injEq,D.str.injEq,D.bl.injEq,D.vl.injEq,c6V,and_assoc]at e;(repeat(obtain⟨e1,e⟩:=e;subst e1));subst e;exact h))
local macro_rules|`(tactic| walk_at "injs")=>`(tactic| (rename_i e o h;rcases o with o|o<;>(subst o;first|(exfalso;simp only[D.tup.injEq,List.cons.injEq,reduceCtorEq,false_and,and_false]at e;done)|(simp only[List.cons.injEq,and_true,true_and,GM.j8,GM.j5,GM.i6,GM.j6,GM.i7,D.tup.injEq,D.ref.injEq,D.int.injEq,D.str.injEq,D.bl.injEq,D.vl.injEq,c6V,and_assoc]at e;(repeat(obtain⟨e1,e⟩:=e;subst e1));subst e;exact h))))
noncomputable abbrev a6h(x:D)(M:Mem)(R:DK)(Y:DXK):Prop:=∃ m:Q4,x=K5 m∧CDQ 230 m∧R (d8 (trQ m)) M
noncomputable def a4u:DSp:=fun ds M R Y=>∃(x:D),ds=[x]∧a6h x M R Y
theorem b2k{x:D}{M:Mem}{R:DK}{Y:DXK}:a4u [x] M R Y=(a6h x M R Y):=propext ⟨fun z=>by obtain⟨_,_,_⟩:=z;walk_at "inj",fun h=>⟨x,rfl,h⟩⟩
noncomputable abbrev a6n(x:D)(M:Mem)(R:DK)(Y:DXK):Prop:=∃ m:Q4,x=K5 m∧CDQ 230 m∧R (a1G m) M
noncomputable def b3B:DSp:=fun ds M R Y=>∃(x:D),ds=[x]∧a6n x M R Y
theorem b2n{x:D}{M:Mem}{R:DK}{Y:DXK}:b3B [x] M R Y=(a6n x M R Y):=propext ⟨fun z=>by obtain⟨_,_,_⟩:=z;walk_at "inj",fun h=>⟨x,rfl,h⟩⟩
noncomputable abbrev b0N(x:D)(M:Mem)(R:DK)(Y:DXK):Prop:=∃ m:Q4,x=K5 m∧CDQ 230 m∧R (.str (kwS m)) M
noncomputable def sKw:DSp:=fun ds M R Y=>∃(x:D),ds=[x]∧b0N x M R Y
theorem b74{x:D}{M:Mem}{R:DK}{Y:DXK}:sKw [x] M R Y=(b0N x M R Y):=propext ⟨fun z=>by obtain⟨_,_,_⟩:=z;walk_at "inj",fun h=>⟨x,rfl,h⟩⟩
noncomputable abbrev Z4(x:D)(M:Mem)(R:DK)(Y:DXK):Prop:=∃ m:Q4,x=K5 m∧CDQ 230 m∧R (b8D m) M
noncomputable def a6w:DSp:=fun ds M R Y=>∃(x:D),ds=[x]∧Z4 x M R Y
theorem a5c{x:D}{M:Mem}{R:DK}{Y:DXK}:a6w [x] M R Y=(Z4 x M R Y):=propext ⟨fun z=>by obtain⟨_,_,_⟩:=z;walk_at "inj",fun h=>⟨x,rfl,h⟩⟩
noncomputable abbrev a1k(x:D)(M:Mem)(R:DK)(Y:DXK):Prop:=∃ m:Q4,x=K5 m∧CDQ 230 m∧R (a9S m) M
noncomputable def a9q:DSp:=fun ds M R Y=>∃(x:D),ds=[x]∧a1k x M R Y
theorem a7v{x:D}{M:Mem}{R:DK}{Y:DXK}:a9q [x] M R Y=(a1k x M R Y):=propext ⟨fun z=>by obtain⟨_,_,_⟩:=z;walk_at "inj",fun h=>⟨x,rfl,h⟩⟩
noncomputable abbrev a6l(t:Rat)(M:Mem)(R:DK)(Y:DXK):Prop:=sz t≤231∧∀ v,b1m t v→R v M
noncomputable def b9q:DSp:=fun ds M R Y=>∃(t:Rat),ds=[d8 t]∧a6l t M R Y
theorem b2m{t:Rat}{M:Mem}{R:DK}{Y:DXK}:b9q [d8 t] M R Y=(a6l t M R Y):=propext ⟨fun z=>by obtain⟨_,_,_⟩:=z;walk_at "inj",fun h=>⟨t,rfl,h⟩⟩
end GM
namespace GM
open PySem PySem.Spec L2 DL
open RM (sz)
noncomputable def xwI(p q:Int):Nat→Int × Int
 | 0=>(0,1)
 | k+1=>((xwI p q k).2,p*(xwI p q k).2 - q*q*(xwI p q k).1)
theorem b0B{p:Int}{q:Nat}(h:Nat.Coprime p.natAbs q):∀ k,Nat.Coprime (xwI p q k).2.natAbs q
 | 0=>by show Nat.Coprime 1 q;exact Nat.coprime_one_left q
 | k+1=>by
  have ih:=b0B h k
  show Nat.Coprime (p*(xwI p q k).2 - (q:Int)*q*(xwI p q k).1).natAbs q
  have h1:Nat.Coprime (p*(xwI p q k).2).natAbs q:=by rw[c6W];exact Nat.Coprime.mul_left h ih
  generalize p*(xwI p q k).2=x at *
  generalize (xwI p q k).1=y at *
  have e:c9b (x - (q:Int)*q*y) (q:Int)=c9b x (q:Int):=by
   rw[show x - (q:Int)*q*y=x+(q:Int)*(-((q:Int)*y))by grind]
   exact Int.gcd_add_mul_left_left ..
  unfold Nat.Coprime at h1 ⊢
  exact Eq.trans e h1
theorem b3d{m:Q4}{p:Int}{q:Nat}(h:trQ m*(q:Rat)=(p:Rat)):∀ k,(xwQ m (k+1)).1*(q:Rat) ^ k=((xwI p q k).2:Rat)∧(xwQ m k).1*(q:Rat) ^ k=(q:Rat)*((xwI p q k).1:Rat)
 | 0=>by
  refine⟨?_,?_⟩
  ·show((m.1+m.2.2.2)*0 - -1)*(q:Rat) ^ 0=((1:Int):Rat)
   rw[show((1:Int):Rat)=1 from rfl,Rat.pow_zero];grind
  ·show(0:Rat)*(q:Rat) ^ 0=(q:Rat)*((0:Int):Rat)
   rw[show((0:Int):Rat)=0 from rfl];grind
 | k+1=>by
  obtain⟨h1,h2⟩:=b3d h k
  have e2:(xwQ m (k+1+1)).1=trQ m*(xwQ m (k+1)).1 - (xwQ m k).1:=rfl
  refine⟨?_,?_⟩
  ·rw[e2]
   show _=((p*(xwI p q k).2 - (q:Int)*q*(xwI p q k).1:Int):Rat)
   rw[c8k,c6B,c6B,c6B,c6C,← h1,← h,Rat.pow_succ]
   have:(xwQ m k).1*((q:Rat) ^ k*(q:Rat))=(q:Rat)*(q:Rat)*((xwI p q k).1:Rat):=by
    rw[show(xwQ m k).1*((q:Rat) ^ k*(q:Rat))=(xwQ m k).1*(q:Rat) ^ k*(q:Rat)by grind,h2];grind
   generalize (q:Rat) ^ k=Q at *
   grind
  ·show _=(q:Rat)*((xwI p q k).2:Rat)
   rw[← h1,Rat.pow_succ]
   grind
theorem b3e{m:Q4}{k:Nat}(h:(xwQ m (k+1)).1=0):(trQ m).den=1:=by
 have e:=u9 (trQ m)
 have h1:=(b3d e k).1
 have c:=b0B (trQ m).reduced k
 rw[h,show(0:Rat)*((trQ m).den:Rat) ^ k=0 by grind]at h1
 have:(xwI (trQ m).num (trQ m).den k).2=0:=by exact_mod_cast h1.symm
 rw[this]at c
 unfold Nat.Coprime at c
 simpa using c
theorem b5j(a b:Rat):j3 (a*b)=j3 a*j3 b:=by
 have h1:=a1x (a*b)
 have h2:0≤j3 a*j3 b:=c8c (a1x a) (a1x b)
 have h3:=a65 (a*b)
 have h4:=a65 a
 have h5:=a65 b
 have e:j3 (a*b)*j3 (a*b)=(j3 a*j3 b)*(j3 a*j3 b):=by grind
 have f:(j3 (a*b) - j3 a*j3 b)*(j3 (a*b)+j3 a*j3 b)=0:=by grind
 rcases c7I.mp f with z|z<;>grind
theorem c0B(a b:Rat):j3 a - j3 b≤j3 (a - b):=by
 unfold j3
 split<;>split<;>split<;>grind
theorem b0A{m:Q4}(h:2≤j3 (trQ m)):∀ k,j3 (xwQ m k).1+1≤j3 (xwQ m (k+1)).1
 | 0=>by
  show j3 0+1≤j3 ((m.1+m.2.2.2)*0 - -1)
  rw[show(m.1+m.2.2.2)*0 - -1=1 by grind]
  decide +kernel
 | k+1=>by
  have ih:=b0A h k
  show _≤j3 (trQ m*(xwQ m (k+1)).1 - (xwQ m k).1)
  generalize (xwQ m (k+1)).1=x at *
  generalize (xwQ m k).1=y at *
  generalize trQ m=t at *
  have h1:=c0B (t*x) y
  rw[b5j]at h1
  have h2:2*j3 x≤j3 t*j3 x:=c7Y h (a1x x)
  grind
theorem c1g{m:Q4}(h:2≤j3 (trQ m))(k:Nat):(xwQ m (k+1)).1≠0:=by
 intro e
 have g:=b0A h k
 rw[e]at g
 have:=a1x (xwQ m k).1
 have z:j3 0=0:=by decide +kernel
 grind
theorem b0V{m:Q4}(hd:a1Q m=1){k:Nat}(h:pwQ m (k+1)=(1,0,0,1)):B2 m:=by
 have e:=b0U hd (k+1)
 rw[h]at e
 have hd':m.1*m.2.2.2 - m.2.1*m.2.2.1=1:=hd
 by_cases hx:(xwQ m (k+1)).1=0
 ·have w:=b3e hx
  by_cases h2:2≤j3 (trQ m)
  ·exact absurd hx (c1g h2 k)
  ·have en:=u9 (trQ m)
   rw[w]at en
   have en:trQ m=((trQ m).num:Rat):=by
    have:((1:Nat):Rat)=1:=rfl
    rw[this]at en
    grind
   generalize (trQ m).num=z at *
   have b1:(z:Rat)<2:=by rw[← en];unfold j3 at h2;split at h2<;>grind
   have b2:(-2:Rat)<z:=by rw[← en];unfold j3 at h2;split at h2<;>grind
   have b1:z<2:=by exact_mod_cast b1
   have b2:-2<z:=by rw[show(-2:Rat)=((-2:Int):Rat)from rfl]at b2;exact_mod_cast b2
   have:z = -1∨z=0∨z=1:=by omega
   rcases this with rfl|rfl|rfl
   ·exact .inr (.inr (.inl en))
   ·exact .inr (.inr (.inr (.inl en)))
   ·exact .inr (.inr (.inr (.inr en)))
 ·generalize (xwQ m (k+1)).1=x at *
  generalize (xwQ m (k+1)).2=w at *
  injection e with e1 e
  injection e with e2 e
  injection e with e3 e4
  have b0:m.2.1=0:=by
   rcases c7I.mp e2.symm with z|z
   ·exact z
   ·exact absurd z hx
  have c0:m.2.2.1=0:=by
   rcases c7I.mp e3.symm with z|z
   ·exact z
   ·exact absurd z hx
  have ad:m.1=m.2.2.2:=by
   have:(m.1 - m.2.2.2)*x=0:=by grind
   rcases c7I.mp this with z|z
   ·grind
   ·exact absurd z hx
  have:(m.1 - 1)*(m.1+1)=0:=by grind
  rcases c7I.mp this with z|z
  ·exact .inl (a6Z (by show m.1=1;grind) b0 c0 (by show m.2.2.2=1;grind))
  ·exact .inr (.inl (a6Z (by show m.1 = -1;grind) b0 c0 (by show m.2.2.2 = -1;grind)))
theorem a3G{m:Q4}(hd:a1Q m=1)(h:B2 m):∃ n:Nat,a1G m = .int (n:Int)∧(n=1∨n=2∨n=3∨n=4∨n=6)∧pwQ m n=(1,0,0,1):=by
 have e:=b0U hd
 unfold a1G
 by_cases h1:m=(1,0,0,1)
 ·exact⟨1,by rw[if_pos h1];rfl,by decide,by rw[h1];decide +kernel⟩
 ·rw[if_neg h1]
  by_cases h2:m=(-1,0,0,-1)
  ·exact⟨2,by rw[if_pos h2];rfl,by decide,by rw[h2];decide +kernel⟩
  ·rw[if_neg h2]
   by_cases h3:trQ m = -1
   ·refine⟨3,by rw[if_pos h3];rfl,by decide,?_⟩
    have h3':m.1+m.2.2.2 = -1:=h3
    rw[e 3]
    simp only[xwQ,h3']
    exact a6Z (by grind) (by grind) (by grind) (by grind)
   ·rw[if_neg h3]
    by_cases h4:trQ m=0
    ·refine⟨4,by rw[if_pos h4];rfl,by decide,?_⟩
     have h3':m.1+m.2.2.2=0:=h4
     rw[e 4]
     simp only[xwQ,h3']
     exact a6Z (by grind) (by grind) (by grind) (by grind)
    ·rw[if_neg h4]
     by_cases h5:trQ m=1
     ·refine⟨6,by rw[if_pos h5];rfl,by decide,?_⟩
      have h3':m.1+m.2.2.2=1:=h5
      rw[e 6]
      simp only[xwQ,h3']
      exact a6Z (by grind) (by grind) (by grind) (by grind)
     ·rcases h with h|h|h|h|h<;>contradiction
theorem b9n{t r:Rat}(h:¬ j3 t<2)(h2:¬ j3 t=2)(r0:0≤r)(r1:r*r=t*t - 4):∀ k,k=(t - (if t<0 then -r else r)) / 2→k<1∧-1<k∧k*k - t*k+1=0:=by
 intro k hk
 unfold j3 at h h2
 by_cases ht:t<0
 ·rw[if_pos ht]at hk
  rw[if_neg (by grind)]at h h2
  have e:k+k=t+r:=by grind
  have hr:r < -t:=by
   rcases c9e (a:=r) (b:=(-t))with z|z
   ·rcases Decidable.em (r = -t)with y|y
    ·exfalso;rw[y]at r1;grind
    ·grind
   ·exfalso
    have:-t * -t≤r*r:=Rat.le_trans (c8w z (by grind)) (c7Y z r0)
    grind
  have kk:k*k - t*k+1=0:=by grind
  refine⟨by grind,?_,kk⟩
  rcases c9e (a:=k) (b:=(-1))with z|z
  ·exfalso
   have e2:(k+1)*(k - t - 1)=k*k - t*k - t - 1:=by grind
   have e3:k - t - 1≥0:=by grind
   have:0≤(-1 - k)*(k - t - 1):=c8c (by grind) (by grind)
   grind
  ·rcases Decidable.em (k = -1)with y|y
   ·exfalso;rw[y]at kk;grind
   ·grind
 ·rw[if_neg ht]at hk
  rw[if_pos (by grind)]at h h2
  have e:k+k=t - r:=by grind
  have kk:k*k - t*k+1=0:=by grind
  have hr:r<t:=by
   rcases c9e (a:=r) (b:=t)with z|z
   ·rcases Decidable.em (r=t)with y|y
    ·exfalso;rw[y]at r1;grind
    ·grind
   ·exfalso
    have:t*t≤r*r:=Rat.le_trans (c8w z (by grind)) (c7Y z r0)
    grind
  refine⟨?_,by grind,kk⟩
  rcases c9e (a:=1) (b:=k)with z|z
  ·exfalso
   have:0≤(k - 1)*(t - 1 - k):=c8c (by grind) (by grind)
   grind
  ·rcases Decidable.em (k=1)with y|y
   ·exfalso;rw[y]at kk;grind
   ·grind
theorem lz(a y b u:Rat):sz (a*y+b*u)≤sz a+sz y+sz b+sz u+1:=by
 have h1:=RM.u3 a y
 have h2:=RM.u3 b u
 have h3:=RM.U4 (a*y) (b*u)
 omega
theorem a3Z(m:Q4):(B2 m∧kwS m=Str.ofString "same")∨(¬ B2 m∧j3 (trQ m)=2∧kwS m=Str.ofString "shear")∨(¬ B2 m∧¬ j3 (trQ m)=2∧j3 (trQ m)<2∧kwS m=Str.ofString "turns")∨(¬ B2 m∧¬ j3 (trQ m)=2∧¬ j3 (trQ m)<2∧kwS m=Str.ofString "off"):=by
 unfold kwS
 by_cases h1:B2 m
 ·exact .inl ⟨h1,if_pos h1⟩
 ·rw[if_neg h1]
  by_cases h2:j3 (trQ m)=2
  ·exact .inr (.inl ⟨h1,h2,if_pos h2⟩)
  ·rw[if_neg h2]
   by_cases h3:j3 (trQ m)<2
   ·exact .inr (.inr (.inl ⟨h1,h2,h3,if_pos h3⟩))
   ·exact .inr (.inr (.inr ⟨h1,h2,h3,if_neg h3⟩))
noncomputable def hD(h:Rat × List (Str × Rat) × Rat):D:=.tup [d8 h.1,.vl (h.2.1.map f9),d8 h.2.2]
local macro_rules|`(tactic| walk_at "inj")=>`(tactic| (rename_i e h;simp only[List.cons.injEq,and_true,true_and,GM.j8,GM.j5,GM.i6,GM.j6,GM.i7,D.tup.injEq,D.ref.injEq,D.int.injEq,D.str.injEq,D.bl.injEq,D.vl.injEq,c6V,and_assoc]at e;(repeat(obtain⟨e1,e⟩:=e;subst e1));subst e;exact h))
local macro_rules|`(tactic| walk_at "injs")=>`(tactic| (rename_i e o h;rcases o with o|o<;>(subst o;first|(exfalso;simp only[D.tup.injEq,List.cons.injEq,reduceCtorEq,false_and,and_false]at e;done)|(simp only[List.cons.injEq,and_true,true_and,GM.j8,GM.j5,GM.i6,GM.j6,GM.i7,D.tup.injEq,D.ref.injEq,D.int.injEq,D.str.injEq,D.bl.injEq,D.vl.injEq,c6V,and_assoc]at e;(repeat(obtain⟨e1,e⟩:=e;subst e1));subst e;exact h))))
end GM
namespace GM
open PySem PySem.Spec L2 DL
open RM (sz)
local macro_rules|`(tactic| walk_at "inj")=>`(tactic| (rename_i e h;simp only[List.cons.injEq,and_true,true_and,GM.j8,GM.j5,GM.i6,GM.j6,GM.i7,D.tup.injEq,D.ref.injEq,D.int.injEq,D.str.injEq,D.bl.injEq,D.vl.injEq,c6V,and_assoc]at e;(repeat(obtain⟨e1,e⟩:=e;subst e1));subst e;exact h))
local macro_rules|`(tactic| walk_at "injs")=>`(tactic| (rename_i e o h;rcases o with o|o<;>(subst o;first|(exfalso;simp only[D.tup.injEq,List.cons.injEq,reduceCtorEq,false_and,and_false]at e;done)|(simp only[List.cons.injEq,and_true,true_and,GM.j8,GM.j5,GM.i6,GM.j6,GM.i7,D.tup.injEq,D.ref.injEq,D.int.injEq,D.str.injEq,D.bl.injEq,D.vl.injEq,c6V,and_assoc]at e;(repeat(obtain⟨e1,e⟩:=e;subst e1));subst e;exact h))))
noncomputable abbrev V7(xs:List D)(M:Mem)(R:DK)(Y:DXK):Prop:=R (.vl xs.reverse) M
noncomputable def a6g:DSp:=fun ds M R Y=>∃(x0:D) (xs:List D),ds=[x0]∧(x0 = .vl (xs)∨x0 = .tup (xs))∧V7 xs M R Y
theorem a7f{xs:List D}{M:Mem}{R:DK}{Y:DXK}:a6g [.vl (xs)] M R Y=(V7 xs M R Y):=propext ⟨fun z=>by obtain⟨_,_,_,_,_⟩:=z;walk_at "injs",fun h=>⟨_,xs,rfl,.inl rfl,h⟩⟩
theorem a2K{xs:List D}{M:Mem}{R:DK}{Y:DXK}:a6g [.tup (xs)] M R Y=(V7 xs M R Y):=propext ⟨fun z=>by obtain⟨_,_,_,_,_⟩:=z;walk_at "injs",fun h=>⟨_,xs,rfl,.inr rfl,h⟩⟩
noncomputable abbrev V8(near:Rat)(bs:List (Str × Rat))(far:Rat)(M:Mem)(R:DK)(Y:DXK):Prop:=bs.length≤9∧R (.vl ((e6 near bs far).map f9)) M
noncomputable def a3x:DSp:=fun ds M R Y=>∃(x0:D) (near:Rat) (bs:List (Str × Rat)) (far:Rat),ds=[.tup [d8 near,x0,d8 far]]∧(x0 = .vl (bs.map f9)∨x0 = .tup (bs.map f9))∧V8 near bs far M R Y
theorem a7i{near:Rat}{bs:List (Str × Rat)}{far:Rat}{M:Mem}{R:DK}{Y:DXK}:a3x [.tup [d8 near,.vl (bs.map f9),d8 far]] M R Y=(V8 near bs far M R Y):=propext ⟨fun z=>by obtain⟨_,_,_,_,_,_,_⟩:=z;walk_at "injs",fun h=>⟨_,near,bs,far,rfl,.inl rfl,h⟩⟩
theorem a2M{near:Rat}{bs:List (Str × Rat)}{far:Rat}{M:Mem}{R:DK}{Y:DXK}:a3x [.tup [d8 near,.tup (bs.map f9),d8 far]] M R Y=(V8 near bs far M R Y):=propext ⟨fun z=>by obtain⟨_,_,_,_,_,_,_⟩:=z;walk_at "injs",fun h=>⟨_,near,bs,far,rfl,.inr rfl,h⟩⟩
noncomputable abbrev W1(near:Rat)(bs:List (Str × Rat))(far:Rat)(M:Mem)(R:DK)(Y:DXK):Prop:=B6 near bs far∧∀ v,c0G (tbQ (e6 near bs far)) v→R (.tup [.str (kwS (tbQ (e6 near bs far))),v]) M
noncomputable def a3D:DSp:=fun ds M R Y=>∃(x0:D) (near:Rat) (bs:List (Str × Rat)) (far:Rat),ds=[.tup [d8 near,x0,d8 far]]∧(x0 = .vl (bs.map f9)∨x0 = .tup (bs.map f9))∧W1 near bs far M R Y
theorem a7r{near:Rat}{bs:List (Str × Rat)}{far:Rat}{M:Mem}{R:DK}{Y:DXK}:a3D [.tup [d8 near,.vl (bs.map f9),d8 far]] M R Y=(W1 near bs far M R Y):=propext ⟨fun z=>by obtain⟨_,_,_,_,_,_,_⟩:=z;walk_at "injs",fun h=>⟨_,near,bs,far,rfl,.inl rfl,h⟩⟩
theorem a2T{near:Rat}{bs:List (Str × Rat)}{far:Rat}{M:Mem}{R:DK}{Y:DXK}:a3D [.tup [d8 near,.tup (bs.map f9),d8 far]] M R Y=(W1 near bs far M R Y):=propext ⟨fun z=>by obtain⟨_,_,_,_,_,_,_⟩:=z;walk_at "injs",fun h=>⟨_,near,bs,far,rfl,.inr rfl,h⟩⟩
end GM
namespace GM
open PySem PySem.Spec L2 DL
open RM (sz)
noncomputable def rtN(m:Q4):Nat:=if m=(1,0,0,1)then 1 else if m=(-1,0,0,-1)then 2 else if trQ m = -1 then 3 else if trQ m=0 then 4 else if trQ m=1 then 6 else 0
theorem a6A(m:Q4)(h:B2 m):a1G m = .int (rtN m:Int):=by
 unfold a1G rtN
 by_cases h1:m=(1,0,0,1)
 ·rw[if_pos h1,if_pos h1];rfl
 ·rw[if_neg h1,if_neg h1]
  by_cases h2:m=(-1,0,0,-1)
  ·rw[if_pos h2,if_pos h2];rfl
  ·rw[if_neg h2,if_neg h2]
   by_cases h3:trQ m = -1
   ·rw[if_pos h3,if_pos h3];rfl
   ·rw[if_neg h3,if_neg h3]
    by_cases h4:trQ m=0
    ·rw[if_pos h4,if_pos h4];rfl
    ·rw[if_neg h4,if_neg h4]
     by_cases h5:trQ m=1
     ·rw[if_pos h5,if_pos h5];rfl
     ·rcases h with h|h|h|h|h<;>contradiction
theorem b0P{m:Q4}(h:¬ B2 m):rtN m=0:=by
 unfold B2 at h
 unfold rtN
 rw[if_neg (fun e=>h (.inl e)),if_neg (fun e=>h (.inr (.inl e))),if_neg (fun e=>h (.inr (.inr (.inl e)))),if_neg (fun e=>h (.inr (.inr (.inr (.inl e))))),if_neg (fun e=>h (.inr (.inr (.inr (.inr e)))))]
theorem c1x{m:Q4}(hd:a1Q m=1)(k:Nat):trQ (pwQ m k)=trQ m*(xwQ m k).1 - 2*(xwQ m k).2:=by
 rw[b0U hd];simp only[trQ];grind
theorem b9u{m:Q4}(hd:a1Q m=1){j:Nat}(h0:0<j)(h1:j<rtN m):pwQ m j≠(1,0,0,1):=by
 intro e
 have ht:=c1x hd j
 rw[e,show trQ (1,0,0,1)=2 by decide +kernel]at ht
 unfold rtN at h1
 by_cases g1:m=(1,0,0,1)
 ·rw[if_pos g1]at h1;omega
 ·rw[if_neg g1]at h1
  by_cases g2:m=(-1,0,0,-1)
  ·rw[if_pos g2]at h1
   have:j=1:=by omega
   subst this
   rw[g2]at e
   exact absurd e (by decide +kernel)
  ·rw[if_neg g2]at h1
   by_cases g3:trQ m = -1
   ·rw[if_pos g3]at h1
    have g:m.1+m.2.2.2 = -1:=g3
    have:j=1∨j=2:=by omega
    rcases this with rfl|rfl
    all_goals (rw[g3]at ht;simp only[xwQ,g]at ht;grind)
   ·rw[if_neg g3]at h1
    by_cases g4:trQ m=0
    ·rw[if_pos g4]at h1
     have g:m.1+m.2.2.2=0:=g4
     have:j=1∨j=2∨j=3:=by omega
     rcases this with rfl|rfl|rfl
     all_goals (rw[g4]at ht;simp only[xwQ,g]at ht;grind)
    ·rw[if_neg g4]at h1
     by_cases g5:trQ m=1
     ·rw[if_pos g5]at h1
      have g:m.1+m.2.2.2=1:=g5
      have:j=1∨j=2∨j=3∨j=4∨j=5:=by omega
      rcases this with rfl|rfl|rfl|rfl|rfl
      all_goals (rw[g5]at ht;simp only[xwQ,g]at ht;grind)
     ·rw[if_neg g5]at h1;omega
theorem b3F{m:Q4}(hd:a1Q m=1){i:Nat}(h0:0<i)(h:pwQ m i=(1,0,0,1))(hb:∀ j,0<j→j<i→pwQ m j≠(1,0,0,1)):rtN m=i:=by
 obtain⟨k,rfl⟩:∃ k,i=k+1:=⟨i - 1,by omega⟩
 have hs:=b0V hd h
 obtain⟨n,e1,e2,e3⟩:=a3G hd hs
 have e4:=a6A m hs
 rw[e1]at e4
 injection e4 with e4
 have e4:n=rtN m:=by omega
 rw[e4]at e2 e3
 rcases c9E (k+1) (rtN m)with z|z|z
 ·exact absurd h (b9u hd (by omega) z)
 ·exact z.symm
 ·exact absurd e3 (hb _ (by omega) z)
theorem b6B{m:Q4}(hd:a1Q m=1)(hb:∀ j,0<j→j≤12→pwQ m j≠(1,0,0,1)):rtN m=0:=by
 by_cases hs:B2 m
 ·obtain⟨n,e1,e2,e3⟩:=a3G hd hs
  exact absurd e3 (hb n (by omega) (by omega))
 ·exact b0P hs
theorem b0X(k:Nat):∀{bs:List (Str × Rat)},(∀ x∈bs,x.1 = "gap" ∨ x.1 = "glass" ∨ x.1 = "stop")→clL (k+2) (bs.map f9)=true
 | [],_=>rfl
 | x :: r,h=>by
  have c:PyData.canLay0 (.str x.1)=true:=by
   rcases h x c7j with e|e|e<;>(rw[e];decide +kernel)
  have ih:=b0X k (bs:=r) fun y hy=>h y (c6Y _ hy)
  rw[c7C]
  show((PyData.canLay0 (.str x.1) && (cl (k+1) (d8 x.2) && true)) && clL (k+2) (r.map f9))=true
  rw[c,ih];rfl
theorem B6.cl{near far:Rat}{bs:List (Str × Rat)}(h:B6 near bs far):clL 58 (bs.map f9)=true:=b0X 56 fun x hx=>by
 rcases(h.part x hx).2 with⟨e,_⟩|e|⟨e,_⟩
 ·exact .inl e
 ·exact .inr (.inl e)
 ·exact .inr (.inr e)
theorem cdA:CD 1 1 0 0 0:=⟨1,0,0,0,1,by decide,by decide,⟨by decide,by decide,by decide,by decide⟩,by grind,by grind,by grind,by grind⟩
theorem cdB:CD 1 0 0 1 0:=⟨0,0,1,0,1,by decide,by decide,⟨by decide,by decide,by decide,by decide⟩,by grind,by grind,by grind,by grind⟩
theorem a5z(m:Q4)(i:Nat):F4 m (1,0) i=((pwQ m i).1,(pwQ m i).2.2.1)∧F4 m (0,1) i=((pwQ m i).2.1,(pwQ m i).2.2.2):=by
 constructor
 ·rw[a9r];exact Prod.ext (by show _*(1:Rat)+_*0=_;grind) (by show _*(1:Rat)+_*0=_;grind)
 ·rw[a9r];exact Prod.ext (by show _*(0:Rat)+_*1=_;grind) (by show _*(0:Rat)+_*1=_;grind)
theorem a8F{m:Q4}{i:Nat}:D.vl [u5 (F4 m (1,0) i).1 (F4 m (1,0) i).2,u5 (F4 m (0,1) i).1 (F4 m (0,1) i).2] = .vl [.tup [d8 1,d8 0],.tup [d8 0,d8 1]]↔pwQ m i=(1,0,0,1):=by
 rw[(a5z m i).1,(a5z m i).2]
 constructor
 ·intro h
  injection h with h
  injection h with h1 h
  injection h with h2 _
  have h1:D.tup [d8 (pwQ m i).1,d8 (pwQ m i).2.2.1] = .tup [d8 1,d8 0]:=h1
  have h2:D.tup [d8 (pwQ m i).2.1,d8 (pwQ m i).2.2.2] = .tup [d8 0,d8 1]:=h2
  injection h1 with h1
  injection h1 with h1 h3
  injection h3 with h3 _
  injection h2 with h2
  injection h2 with h2 h4
  injection h4 with h4 _
  exact a6Z (C1 h1) (C1 h2) (C1 h3) (C1 h4)
 ·intro h
  rw[h]
theorem K2{t:Rat}:j3 t<2 ↔ -2<t∧t<2:=by
 unfold j3;split<;>constructor<;>grind
local macro_rules|`(tactic| walk_at "inj")=>`(tactic| (rename_i e h;simp only[List.cons.injEq,and_true,true_and,GM.j8,GM.j5,GM.i6,GM.j6,GM.i7,D.tup.injEq,D.ref.injEq,D.int.injEq,D.str.injEq,D.bl.injEq,D.vl.injEq,c6V,and_assoc]at e;(repeat(obtain⟨e1,e⟩:=e;subst e1));subst e;exact h))
local macro_rules|`(tactic| walk_at "injs")=>`(tactic| (rename_i e o h;rcases o with o|o<;>(subst o;first|(exfalso;simp only[D.tup.injEq,List.cons.injEq,reduceCtorEq,false_and,and_false]at e;done)|(simp only[List.cons.injEq,and_true,true_and,GM.j8,GM.j5,GM.i6,GM.j6,GM.i7,D.tup.injEq,D.ref.injEq,D.int.injEq,D.str.injEq,D.bl.injEq,D.vl.injEq,c6V,and_assoc]at e;(repeat(obtain⟨e1,e⟩:=e;subst e1));subst e;exact h))))
end GM
namespace GM
open PySem PySem.Spec L2 DL
open RM (sz)
noncomputable def S5(t x f:Rat):Rat:=4*(x*x - t*(x*f)+f*f) / (4 - t*t)
theorem b0D{t:Rat}(h1:-2<t)(h2:t<2):0<4 - t*t:=by
 have:0<(2 - t)*(2+t):=c8p (by grind) (by grind)
 grind
theorem b6D{D V B n:Rat}(h1:n≠0)(h2:B≠0)(h3:D≠0):4*(n*V*B)*n / (B*(D*(n*n)))=4*V / D:=by
 have nz:B*(D*(n*n))≠0:=by
  intro z
  rcases c7I.mp z with z|z
  ·exact h2 z
  ·rcases c7I.mp z with z|z
   ·exact h3 z
   ·rcases c7I.mp z with z|z<;>exact h1 z
 have e1:4*(n*V*B)*n / (B*(D*(n*n)))*(B*(D*(n*n)))=4*(n*V*B)*n:=by grind
 have e2:4*V / D*D=4*V:=by grind
 have:(4*(n*V*B)*n / (B*(D*(n*n))) - 4*V / D)*(B*(D*(n*n)))=0:=by
  generalize 4*(n*V*B)*n / (B*(D*(n*n)))=L at *
  generalize 4*V / D=W at *
  grind
 rcases c7I.mp this with z|z
 ·grind
 ·exact absurd z nz
theorem U3{q:Rat}{b:Nat}(h:q.den ∣ b):((q.num*((b:Int).fdiv (q.den:Int)):Int):Rat)=q*(b:Rat)∧(q.num*((b:Int).fdiv (q.den:Int))).natAbs≤q.num.natAbs*b:=by
 obtain⟨k,rfl⟩:=h
 have e:((q.den*k:Nat):Int).fdiv (q.den:Int)=(k:Int):=by
  rw[N4 (by omega) (by omega),c7t]
  exact c8U _ (by have:=q.den_pos;omega)
 rw[e]
 constructor
 ·rw[c6B,c6Z,← u9 q,c6C];grind
 ·rw[c6W,c6w]
  exact c9q _ (c87 k q.den_pos)
theorem b5h{a b:Int}{k:Nat}(h1:a.natAbs<2 ^ k)(h2:b.natAbs<2 ^ k):(a+b).natAbs<2 ^ (k+1):=A3 h1 h2
theorem a0X{a b:Int}{k:Nat}(h1:a.natAbs<2 ^ k)(h2:b.natAbs<2 ^ k):(a - b).natAbs<2 ^ (k+1):=by
 rw[Int.sub_eq_add_neg];exact A3 h1 (by rw[c7T];exact h2)
theorem p0{n k l:Nat}(h:n<2 ^ k)(hk:k≤l):n<2 ^ l:=c6A h (c6T (by decide) hk)
local macro_rules|`(tactic| walk_at "inj")=>`(tactic| (rename_i e h;simp only[List.cons.injEq,and_true,true_and,GM.j8,GM.j5,GM.i6,GM.j6,GM.i7,D.tup.injEq,D.ref.injEq,D.int.injEq,D.str.injEq,D.bl.injEq,D.vl.injEq,c6V,and_assoc]at e;(repeat(obtain⟨e1,e⟩:=e;subst e1));subst e;exact h))
local macro_rules|`(tactic| walk_at "injs")=>`(tactic| (rename_i e o h;rcases o with o|o<;>(subst o;first|(exfalso;simp only[D.tup.injEq,List.cons.injEq,reduceCtorEq,false_and,and_false]at e;done)|(simp only[List.cons.injEq,and_true,true_and,GM.j8,GM.j5,GM.i6,GM.j6,GM.i7,D.tup.injEq,D.ref.injEq,D.int.injEq,D.str.injEq,D.bl.injEq,D.vl.injEq,c6V,and_assoc]at e;(repeat(obtain⟨e1,e⟩:=e;subst e1));subst e;exact h))))
noncomputable abbrev a09(p q y u:Rat)(M:Mem)(R:DK)(Y:DXK):Prop:=sz p+sz y+(sz q+sz u)≤8900∧R (d8 (p*y+q*u)) M
noncomputable def a6r:DSp:=fun ds M R Y=>∃(p q y u:Rat),ds=[d8 p,d8 q,u5 y u]∧a09 p q y u M R Y
theorem a7m{p q y u:Rat}{M:Mem}{R:DK}{Y:DXK}:a6r [d8 p,d8 q,u5 y u] M R Y=(a09 p q y u M R Y):=propext ⟨fun z=>by obtain⟨_,_,_,_,_,_⟩:=z;walk_at "inj",fun h=>⟨p,q,y,u,rfl,h⟩⟩
end GM
namespace GM
open PySem PySem.Spec L2 DL
open RM (sz)
noncomputable def B8(L:List (Str × Rat)):Nat→List (Rat × Rat × Rat)
 | 0=>[]
 | i+1=>B8 L i++(match L[i]? with|some x=>if x.1 = "stop" then[((g7 (L.take i) (1,0)).1,(g7 (L.take i) (0,1)).1,x.2)]else[]|none=>[])
noncomputable def P2(T:List (D × D × (Str × Rat))):Nat→List (D × D)
 | 0=>[]
 | i+1=>P2 T i++(match T[i]? with|some x=>if x.2.2.1 = "stop" then[(x.1,x.2.1)]else[]|none=>[])
noncomputable def hlD(w:D × D)(l:Rat × Rat × Rat):D:=.tup [w.1,w.2,p5 l]
noncomputable def hlN(T:List (D × D × (Str × Rat)))(i:Nat):List D:=List.zipWith hlD (P2 T i) (B8 (T.map fun z=>z.2.2) i)
theorem X7(T:List (D × D × (Str × Rat))):∀ i,(P2 T i).length=(B8 (T.map fun z=>z.2.2) i).length
 | 0=>rfl
 | i+1=>by
  have ih:=X7 T i
  unfold P2 B8
  rw[c6H,c6H,ih,c6K]
  cases T[i]? with
  | none=>rfl
  | some x =>
   show _+(if x.2.2.1 = "stop" then[(x.1,x.2.1)]else[]).length=_+(if x.2.2.1 = "stop" then _ else[]).length
   split<;>rfl
theorem K8(L:List (Str × Rat)):∀ i,(B8 L i).length≤i
 | 0=>c6U _
 | i+1=>by
  have ih:=K8 L i
  unfold B8
  rw[c6H]
  cases L[i]? with
  | none=>exact c9F ih
  | some x =>
   show _+(if x.1 = "stop" then _ else[]).length≤_
   split
   ·exact Nat.succ_le_succ ih
   ·exact c9F ih
theorem a5W{L:List (Str × Rat)}{i:Nat}{x:Str × Rat}(h:L[i]? = some x):B8 L (i+1)=if x.1 = "stop" then B8 L i++[((g7 (L.take i) (1,0)).1,(g7 (L.take i) (0,1)).1,x.2)]else B8 L i:=by
 show B8 L i++(match L[i]? with|some x=>if x.1 = "stop" then[((g7 (L.take i) (1,0)).1,(g7 (L.take i) (0,1)).1,x.2)]else[]|none=>[])=_
 rw[h]
 show B8 L i++(if x.1 = "stop" then _ else[])=_
 split
 ·rfl
 ·exact c7G _
theorem c0i{T:List (D × D × (Str × Rat))}{i:Nat}{w n:D}{x:Str × Rat}(h:T[i]? = some (w,n,x)):hlN T (i+1)=if x.1 = "stop" then hlN T i++[.tup [w,n,p5 ((g7 ((T.map fun z=>z.2.2).take i) (1,0)).1,(g7 ((T.map fun z=>z.2.2).take i) (0,1)).1,x.2)]]else hlN T i:=by
 have hl:=X7 T i
 unfold hlN
 have h2:(T.map fun z=>z.2.2)[i]? = some x:=by rw[c6K,h];rfl
 rw[a5W h2]
 have e:P2 T (i+1)=if x.1 = "stop" then P2 T i++[(w,n)]else P2 T i:=by
  show P2 T i++(match T[i]? with|some x=>if x.2.2.1 = "stop" then[(x.1,x.2.1)]else[]|none=>[])=_
  rw[h]
  show P2 T i++(if x.1 = "stop" then _ else[])=_
  split
  ·rfl
  ·exact c7G _
 rw[e]
 split
 ·rw[List.zipWith_append hl];rfl
 ·rfl
theorem U5(T:List (D × D × (Str × Rat))):∀ i,P2 T i=((T.take i).filter fun z=>z.2.2.1 == Str.ofString "stop").map fun z=>(z.1,z.2.1)
 | 0=>rfl
 | i+1=>by
  have ih:=U5 T i
  unfold P2
  rw[ih,c7X,c7r,c6P]
  cases h:T[i]? with
  | none=>rfl
  | some x =>
   show _++(if x.2.2.1 = "stop" then[(x.1,x.2.1)]else[])=_++((c80 _ [x]).map _)
   by_cases e:x.2.2.1=Str.ofString "stop"
   ·rw[if_pos e,c7L,if_pos (by rw[e];exact beq_self_eq_true _)];rfl
   ·rw[if_neg e,c7L,if_neg (fun z=>e (eq_of_beq z))];rfl
noncomputable def frW(bs:List (Str × Rat)):List ((Str × Rat) × Nat):=bs.zipIdx.filter fun x=>x.1.1 == Str.ofString "stop"
theorem b1A(near far:Rat)(bs:List (Str × Rat)):P2 (y3 near bs far) (y3 near bs far).length=((frW bs).map fun x=>(D.str "forth",D.int (x.2:Int)))++((frW bs).reverse.map fun x=>(D.str "back",D.int (x.2:Int))):=by
 rw[U5,c6X]
 unfold y3 frW
 rw[c7r,c7r,c7r,List.filter_map,List.filter_map,c6P,c6P,c6P,c7w,c7w]
 have g:∀ q:Rat,c80 (fun z:D × D × (Str × Rat)=>z.2.2.1 == Str.ofString "stop") [(D.non,D.non,(Str.ofString "glass",q))]=[]:=fun q=>by
  rw[c7L,if_neg (by show ¬ (Str.ofString "glass" == Str.ofString "stop")=true;decide)];rfl
 rw[g,g,c8g,c7G,c7G,c9r]
 rfl
theorem S7(near far:Rat)(bs:List (Str × Rat)):(y3 near bs far).map (fun z=>z.2.2)=e6 near bs far:=(a1q near far bs).symm
theorem G3(near far:Rat)(bs:List (Str × Rat)):(y3 near bs far).length=(e6 near bs far).length:=by rw[a1q,c6x]
theorem b7p(T:List (D × D × (Str × Rat)))(i:Nat):(hlN T i).length≤i:=by
 unfold hlN
 rw[c9s,← X7,Nat.min_self,X7]
 exact K8 _ i
theorem a9K{near far:Rat}{bs:List (Str × Rat)}{i:Nat}{d:D}(h:(a5J near bs far)[i]? = some d):∃(w n:D) (x:Str × Rat),d = .tup [w,n,f9 x]∧(y3 near bs far)[i]? = some (w,n,x)∧(e6 near bs far)[i]? = some x:=by
 rw[a6V,c6K]at h
 rw[a1q,c6K]
 cases e:(y3 near bs far)[i]? with
 | none=>rw[e]at h;cases h
 | some z =>
  rw[e]at h
  exact⟨z.1,z.2.1,z.2.2,(Option.some.inj h).symm,rfl,rfl⟩
noncomputable def fwD(x:(Str × Rat) × Nat):D:=.tup [.str "forth",.int (x.2:Int)]
noncomputable def bwD(x:(Str × Rat) × Nat):D:=.tup [.str "back",.int (x.2:Int)]
noncomputable def prD(w:D × D):D:=.tup [w.1,w.2]
theorem c0n(near far:Rat)(bs:List (Str × Rat)):(frW bs).map fwD++(frW bs).reverse.map bwD=(P2 (y3 near bs far) (y3 near bs far).length).map prD:=by
 rw[b1A,c6P,c7w,c7w];rfl
theorem c0g(near far:Rat)(bs:List (Str × Rat)):((P2 (y3 near bs far) (y3 near bs far).length).zip (B8 (e6 near bs far) (e6 near bs far).length)).map (fun z=>hlD z.1 z.2)=hlN (y3 near bs far) (y3 near bs far).length:=by
 unfold hlN
 rw[S7,G3,c8K,c85]
theorem b83(ws:List (D × D))(ls:List (Rat × Rat × Rat)):T9 (ws.map prD) (ls.map p5)=(ws.zip ls).map fun z=>D.tup [prD z.1,p5 z.2]:=by
 unfold T9
 rw[c8K,c85]
 rw[c9O]
theorem b1a(bs:List (Str × Rat)):(frW bs).length≤bs.length:=by
 unfold frW
 have:=c8s (fun x:(Str × Rat) × Nat=>x.1.1 == Str.ofString "stop") bs.zipIdx
 rw[c7s]at this
 exact this
theorem b3s{T:List (D × D × (Str × Rat))}{i:Nat}{w:D × D}(h:w∈P2 T i):∃ z∈T,z.1=w.1∧z.2.1=w.2:=by
 rw[U5]at h
 obtain⟨z,hz,rfl⟩:=c7k.mp h
 exact⟨z,c8a (c8B.mp hz).1,rfl,rfl⟩
theorem b4w{near far:Rat}{bs:List (Str × Rat)}{z:D × D × (Str × Rat)}(h:z∈y3 near bs far)(k:Nat):cl (k+1) z.1=true∧cl (k+1) z.2.1=true:=by
 have f:cl (k+1) (D.str (Str.ofString "forth"))=true:=by show PyData.canLay0 (.str (Str.ofString "forth"))=true;decide +kernel
 have b:cl (k+1) (D.str (Str.ofString "back"))=true:=by show PyData.canLay0 (.str (Str.ofString "back"))=true;decide +kernel
 unfold y3 at h
 rcases c6R.mp h with h|h
 ·rcases c6R.mp h with h|h
  ·rcases c6R.mp h with h|h
   ·obtain⟨x,_,rfl⟩:=c7k.mp h
    exact⟨f,rfl⟩
   ·rw[c6N.mp h];exact⟨rfl,rfl⟩
  ·obtain⟨x,_,rfl⟩:=c7k.mp h
   exact⟨b,rfl⟩
 ·rw[c6N.mp h];exact⟨rfl,rfl⟩
theorem b0F{L:List (Str × Rat)}(h:∀ i,CDQ 230 (tbQ (L.take i))):∀ i,∀ l∈B8 L i,sz l.1≤230∧sz l.2.1≤230
 | 0,l,hl=>by cases hl
 | i+1,l,hl=>by
  unfold B8 at hl
  rcases c6R.mp hl with hl|hl
  ·exact b0F h i l hl
  ·cases e:L[i]? with
   | none=>rw[e]at hl;cases hl
   | some x =>
    rw[e]at hl
    have hl:l∈(if x.1 = "stop" then[((g7 (L.take i) (1,0)).1,(g7 (L.take i) (0,1)).1,x.2)]else[]):=hl
    split at hl
    ·rw[c6N.mp hl]
     have t4:=CD.t4 (h i)
     exact⟨t4.a,t4.b⟩
    ·cases hl
theorem b7n(near far:Rat)(bs:List (Str × Rat)):hlN (y3 near bs far) (y3 near bs far).length=((P2 (y3 near bs far) (y3 near bs far).length).zip (B8 (e6 near bs far) (y3 near bs far).length)).map (fun z=>hlD z.1 z.2):=by
 unfold hlN
 rw[S7,c8K,c85]
local macro_rules|`(tactic| walk_at "inj")=>`(tactic| (rename_i e h;simp only[List.cons.injEq,and_true,true_and,GM.j8,GM.j5,GM.i6,GM.j6,GM.i7,D.tup.injEq,D.ref.injEq,D.int.injEq,D.str.injEq,D.bl.injEq,D.vl.injEq,c6V,and_assoc]at e;(repeat(obtain⟨e1,e⟩:=e;subst e1));subst e;exact h))
local macro_rules|`(tactic| walk_at "injs")=>`(tactic| (rename_i e o h;rcases o with o|o<;>(subst o;first|(exfalso;simp only[D.tup.injEq,List.cons.injEq,reduceCtorEq,false_and,and_false]at e;done)|(simp only[List.cons.injEq,and_true,true_and,GM.j8,GM.j5,GM.i6,GM.j6,GM.i7,D.tup.injEq,D.ref.injEq,D.int.injEq,D.str.injEq,D.bl.injEq,D.vl.injEq,c6V,and_assoc]at e;(repeat(obtain⟨e1,e⟩:=e;subst e1));subst e;exact h))))
end GM
namespace GM
open PySem PySem.Spec L2 DL
open RM (sz)
structure D8(near:Rat)(bs:List (Str × Rat))(far:Rat):Prop where
 cd:∀ i,CDQ 230 (tbQ ((e6 near bs far).take i))
 szs:∀ x∈e6 near bs far,sz x.2≤3000
 len:bs.length≤9
 part:∀ x∈bs,(x.1 = "gap" ∨ x.1 = "glass")∨(x.1 = "stop" ∧ 0<x.2)
theorem B6.w{near far:Rat}{bs:List (Str × Rat)}(h:B6 near bs far):D8 near bs far :=
 ⟨h.cd,fun x hx=>c6D (h.szs x hx) (by decide),h.len,fun x hx=>by
  rcases(h.part x hx).2 with h|h|h
  ·exact .inl (.inl h.1)
  ·exact .inl (.inr h)
  ·exact .inr h⟩
theorem b3G{S:Nat}{L:List (Str × Rat)}{y u:Rat}(h:∀ i,CDQ 230 (tbQ (L.take i)))(g:CD S y 0 u 0)(i:Nat):sz ((g7 (L.take i) (1,0)).1*y+(g7 (L.take i) (0,1)).1*u)≤231+S∧sz ((g7 (L.take i) (1,0)).1*(g7 L (y,u)).1+(g7 (L.take i) (0,1)).1*(g7 L (y,u)).2)≤462+S:=by
 have c1:=W5 (h i) g
 have cL:=h L.length
 rw[c6X]at cL
 have c2:=W5 cL g
 have c3:=W5 (h i) c2
 have e1:=(M9 (L.take i) y u).1
 have e2:=(M9 (L.take i) (g7 L (y,u)).1 (g7 L (y,u)).2).1
 have t1:=c1.t2.y
 have t3:=c3.t2.y
 rw[e1]at t1
 rw[e2]at t3
 exact⟨by omega,by omega⟩
theorem P3{L:List (Str × Rat)}:∀ i,∀ l∈B8 L i,∃(j:Nat) (x:Str × Rat),L[j]? = some x∧x.1 = "stop" ∧ l=((g7 (L.take j) (1,0)).1,(g7 (L.take j) (0,1)).1,x.2)
 | 0,l,hl=>by cases hl
 | i+1,l,hl=>by
  cases e:L[i]? with
  | none =>
   have:B8 L (i+1)=B8 L i++[]:=by
    show B8 L i++_=_
    rw[e]
   rw[this,c7G]at hl
   exact P3 i l hl
  | some x =>
   rw[a5W e]at hl
   by_cases hx:x.1 = "stop"
   ·rw[if_pos hx]at hl
    rcases c6R.mp hl with hl|hl
    ·exact P3 i l hl
    ·exact⟨i,x,e,hx,c6N.mp hl⟩
   ·rw[if_neg hx]at hl
    exact P3 i l hl
theorem b4i{q:Rat}{T B:Int}(b0:0<B):q.num*B<T*(q.den:Int)↔q<c7g T B:=by
 have hB:(0:Rat)<(B:Rat):=by exact_mod_cast b0
 have hd:(0:Rat)<(q.den:Rat):=by
  have:=q.den_pos
  exact_mod_cast this
 rw[c7q,Rat.lt_div_iff hB]
 have e:=u9 q
 have e1:(q.num*B<T*(q.den:Int))↔((q.num:Rat)*(B:Rat)<(T:Rat)*(q.den:Rat)):=by
  rw[← c6B,← c6C,← c6B,c88]
 rw[e1,← e]
 constructor
 ·intro h
  apply c7E
  intro n
  have h1:=c8c (a:=q*(B:Rat) - (T:Rat)) (b:=(q.den:Rat)) (by grind) (by grind)
  grind
 ·intro h
  have h1:=c8p (a:=(T:Rat) - q*(B:Rat)) (b:=(q.den:Rat)) (by grind) hd
  grind
theorem c0h(T:List (D × D × (Str × Rat)))(i:Nat):(hlN T i).length=(B8 (T.map fun z=>z.2.2) i).length:=by
 unfold hlN
 rw[c9s,X7];omega
theorem CD.ray2{y u:Rat}{k l:Nat}(h1:sz y≤k)(h2:sz u≤l):CD (k+l) y 0 u 0:=by
 have n1:=q9 y h1
 have d1:=t9 y h1
 have n2:=q9 u h2
 have d2:=t9 u h2
 have d1':(y.den:Int).natAbs<2 ^ k:=by rw[c6w];exact d1
 have d2':(u.den:Int).natAbs<2 ^ l:=by rw[c6w];exact d2
 have e1:=u9 y
 have e2:=u9 u
 refine⟨y.num*(u.den:Int),0,u.num*(y.den:Int),0,y.den*u.den,c7H y.den_nz u.den_nz,o9 d1 d2,⟨e7 n1 d2',c7O _,by rw[c9I k l];exact e7 n2 d1',c7O _⟩,?_,?_,?_,?_⟩
 ·rw[c6Z,c6B,c6C,← e1];grind
 ·show(0:Rat)*_=((0:Int):Rat);grind
 ·rw[c6Z,c6B,c6C,← e2];grind
 ·show(0:Rat)*_=((0:Int):Rat);grind
theorem c1Q{t k:Rat}(h:k*k - t*k+1=0):sz k≤sz t:=by
 have e1:=u9 k
 have e2:=u9 t
 have kd:(k.den:Rat)≠0:=by intro z;exact k.den_nz (by exact_mod_cast z)
 have tdn:(t.den:Rat)≠0:=by intro z;exact t.den_nz (by exact_mod_cast z)
 have main:(k.num*k.num+(k.den:Int)*(k.den:Int))*(t.den:Int)=t.num*(k.num*(k.den:Int)):=by
  have:(((k.num*k.num+(k.den:Int)*(k.den:Int))*(t.den:Int):Int):Rat)=((t.num*(k.num*(k.den:Int)):Int):Rat):=by
   rw[c6B,c7P,c6B,c6B,c6B,c6B,c6C,c6C,← e1,← e2]
   grind
  exact_mod_cast this
 have cop:Nat.Coprime k.num.natAbs k.den:=k.reduced
 have main':(k.num.natAbs*k.num.natAbs+k.den*k.den)*t.den=t.num.natAbs*(k.num.natAbs*k.den):=by
  have hm:=congrArg Int.natAbs main
  rw[c6W,c6W,c6W,c6w,c6w]at hm
  rw[← hm]
  congr 1
  have a1:0≤k.num*k.num:=by
   rcases Int.le_total 0 k.num with h|h
   ·exact Int.mul_nonneg h h
   ·exact Int.mul_nonneg_of_nonpos_of_nonpos h h
  have a2:(k.num.natAbs*k.num.natAbs:Nat)=(k.num*k.num).natAbs:=(c6W _ _).symm
  have a3:((k.den:Int)*(k.den:Int))=((k.den*k.den:Nat):Int):=by rw[c7t]
  rw[a2,a3]
  omega
 have d0:=t.den_pos
 have key:∀{P Q d n:Nat},Nat.Coprime P Q→(P*P+Q*Q)*d=n*(P*Q)→P ∣ d∧Q ∣ d:=fun{P Q d n} hc he=>by
  have h1:P ∣ Q*Q*d:=by
   have:P ∣ (P*P+Q*Q)*d:=by rw[he];exact⟨n*Q,by rw[c9G]⟩
   rw[c9Q]at this
   exact(c9H ⟨P*d,by rw[c9v]⟩).mp this
  have h2:Q ∣ P*P*d:=by
   have:Q ∣ (P*P+Q*Q)*d:=by rw[he];exact⟨n*P,by rw[c89 P Q,c9G]⟩
   rw[c9I,c9Q]at this
   exact(c9H ⟨Q*d,by rw[c9v]⟩).mp this
  exact⟨(Nat.Coprime.mul_right hc hc).dvd_of_dvd_mul_left h1,(Nat.Coprime.mul_right hc.symm hc.symm).dvd_of_dvd_mul_left h2⟩
 obtain⟨p1,p2⟩:=key cop main'
 exact RM.b0E (c6D (RM.T6 (c9w d0 p1)) (RM.C8 t)) (c6D (RM.T6 (c9w d0 p2)) (RM.C8 t))
theorem b9m{t k:Rat}(h:¬ j3 t<2)(h2:¬ j3 t=2)(hs:b1m t (d8 k)):k≠0∧sz k≤sz t:=by
 rcases hs with⟨r,r0,r1,e⟩|⟨_,e⟩
 ·have e:k=(t - (if t<0 then -r else r)) / 2:=j8.mp e
  obtain⟨_,_,q⟩:=b9n h h2 r0 r1 k e
  exact⟨fun z=>by rw[z]at q;grind,c1Q q⟩
 ·cases e
theorem c2v:a8U 10 20:=⟨by decide,by decide,by decide⟩
theorem b8U:a8U 10 40:=⟨by decide,by decide,by decide⟩
theorem c2u:a8U 10 25:=⟨by decide,by decide,by decide⟩
theorem a78{N k:Nat}(h0:0<N)(h:N<2 ^ k):∃ q:Rat,D.tup [D.int 1,D.int (N:Int)]=d8 q∧sz q≤k+1:=by
 have hn:(0:Int)<(((N:Int):Rat)).num:=by show(0:Int)<(N:Int);omega
 refine⟨(((N:Int):Rat))⁻¹,c1T hn,?_⟩
 have hne:((N:Int):Rat)≠0:=by intro z;exact absurd (show(N:Int)=0 by exact_mod_cast z) (by omega)
 have e:(((N:Int):Rat))⁻¹=1 / ((N:Int):Rat):=by grind
 rw[e]
 have s:=RM.J1 1 ((N:Int):Rat) hne
 have s1:sz (1:Rat)=1:=RM.K6
 have hk:0<k:=by
  rcases c8i k with z|z
  ·rw[z]at h;omega
  ·exact z
 have s2:sz ((N:Int):Rat)≤k:=RM.b0E (RM.X5 (by show(N:Int).natAbs<_;rw[c6w];exact h) hk) (RM.X5 (show 1<2 ^ k from c8P (by omega)) hk)
 omega
theorem c0A(q:Rat):(j3 q).num=(q.num.natAbs:Int)∧(j3 q).den=q.den:=by
 have h:=b5i q
 unfold d8 at h
 injection h with h
 injection h with h1 h2
 injection h1 with h1
 injection h2 with h2 _
 injection h2 with h2
 exact⟨h1,by omega⟩
theorem b7o{T:List (D × D × (Str × Rat))}{i k:Nat}{d:D}(h:(hlN T i)[k]? = some d):∃ w l,d=hlD w l∧(B8 (T.map fun z=>z.2.2) i)[k]? = some l:=by
 unfold hlN at h
 rw[c7S]at h
 cases h1:(P2 T i)[k]? with
 | none=>rw[h1]at h;simp at h
 | some w =>
  cases h2:(B8 (T.map fun z=>z.2.2) i)[k]? with
  | none=>rw[h1,h2]at h;simp at h
  | some l=>rw[h1,h2]at h;exact⟨w,l,(Option.some.inj h).symm,rfl⟩
theorem b4t{T:List (D × D × (Str × Rat))}{i k:Nat}{d:D}(h:(hlN T i)[k]? = some d):∃ w l,d=hlD w l∧(B8 (T.map fun z=>z.2.2) i)[k]? = some l∧w∈P2 T i:=by
 unfold hlN at h
 rw[c7S]at h
 cases h1:(P2 T i)[k]? with
 | none=>rw[h1]at h;simp at h
 | some w =>
  cases h2:(B8 (T.map fun z=>z.2.2) i)[k]? with
  | none=>rw[h1,h2]at h;simp at h
  | some l=>rw[h1,h2]at h;exact⟨w,l,(Option.some.inj h).symm,rfl,c6J h1⟩
theorem b3E{m:Q4}(hd:a1Q m=1)(hb:∀ j,0<j→j≤6→pwQ m j≠(1,0,0,1)):rtN m=0:=by
 by_cases hs:B2 m
 ·obtain⟨n,e1,e2,e3⟩:=a3G hd hs
  exact absurd e3 (hb n (by omega) (by omega))
 ·exact b6B hd fun j j0 _ e=>by
   obtain⟨i,rfl⟩:∃ i,j=i+1:=⟨j - 1,by omega⟩
   exact hs (b0V hd e)
theorem D8.line{near far:Rat}{bs:List (Str × Rat)}(hw:D8 near bs far){y u:Rat}(cd:CD 1000 y 0 u 0){l:Rat × Rat × Rat}(hl:l∈B8 (e6 near bs far) (e6 near bs far).length) :
  (sz l.1≤230∧sz l.2.1≤230)∧(sz l.2.2≤3000∧0<l.2.2)∧sz (l.1*y+l.2.1*u)≤1231∧sz (l.1*(g7 (e6 near bs far) (y,u)).1+l.2.1*(g7 (e6 near bs far) (y,u)).2)≤1462:=by
 obtain⟨j,px,hj,hpx,el⟩:=P3 _ l hl
 obtain⟨z1,z2⟩:=b3G hw.cd cd j
 have hpz:=hw.szs px (c6J hj)
 have hp0:0<px.2:=by
  have hm:=c6J hj
  unfold e6 at hm
  have inb:px∈bs→0<px.2:=fun h=>by
   rcases hw.part px h with h|h
   ·rw[hpx]at h;exact absurd h (by decide)
   ·exact h.2
  rcases c6R.mp hm with hm|hm
  ·rcases c6R.mp hm with hm|hm
   ·rcases c6R.mp hm with hm|hm
    ·exact inb hm
    ·rw[c6N.mp hm]at hpx;exact absurd hpx (show ¬ Str.ofString "glass" = Str.ofString "stop" by decide)
   ·exact inb (c7Q.mp hm)
  ·rw[c6N.mp hm]at hpx;exact absurd hpx (show ¬ Str.ofString "glass" = Str.ofString "stop" by decide)
 have lj:=CD.t4 (hw.cd j)
 have lj1:sz (g7 ((e6 near bs far).take j) (1,0)).1≤230:=lj.a
 have lj2:sz (g7 ((e6 near bs far).take j) (0,1)).1≤230:=lj.b
 rw[el]
 exact⟨⟨lj1,lj2⟩,⟨hpz,hp0⟩,by omega,by omega⟩
theorem a9u{t x f:Rat}(ht:sz t≤231)(hx:sz x≤1231)(hf:sz f≤1462)(t1:-2<t)(t2:t<2):sz (S5 t x f)≤8800:=by
 have h4:=b0D t1 t2
 have m1:=RM.u3 x x
 have m2:=RM.u3 x f
 have m3:=RM.u3 t (x*f)
 have m4:=RM.G9 (x*x) (t*(x*f))
 have m5:=RM.u3 f f
 have m6:=RM.U4 (x*x - t*(x*f)) (f*f)
 have m7:=RM.u3 4 (x*x - t*(x*f)+f*f)
 have m8:=RM.u3 t t
 have m9:=RM.G9 4 (t*t)
 have s4:sz (4:Rat)≤3:=by decide +kernel
 have d:=RM.J1 (4*(x*x - t*(x*f)+f*f)) (4 - t*t) (fun z=>by rw[z]at h4;exact absurd h4 (by decide))
 unfold S5
 omega
theorem b3J{S:Nat}{L:List (Str × Rat)}{y u:Rat}(h:CDQ 230 (tbQ L))(g:CD S y 0 u 0):CD (230+S+1) y (g7 L (y,u)).1 u (g7 L (y,u)).2:=by
 have h:CD 230 (g7 L (1,0)).1 (g7 L (0,1)).1 (g7 L (1,0)).2 (g7 L (0,1)).2:=h
 have l:=M9 L y u
 rw[l.1,l.2]
 generalize (g7 L (1,0)).1=a at *
 generalize (g7 L (0,1)).1=b at *
 generalize (g7 L (1,0)).2=c at *
 generalize (g7 L (0,1)).2=d at *
 obtain⟨A,B,C,E,D0,h0,hd,⟨h1,h2,h3,h4⟩,e1,e2,e3,e4⟩:=h.ex
 obtain⟨Y,_,U,_,D1,k0,kd,⟨k1,_,k3,_⟩,f1,_,f3,_⟩:=g.ex
 have hd':(D0:Int).natAbs<2 ^ 230:=by rw[c6w];exact hd
 have up:∀{n:Nat},n<2 ^ (230+S)→n<2 ^ (230+S+1):=fun h=>c6A h (c6T (by decide) (by omega))
 refine⟨(D0:Int)*Y,A*Y+B*U,(D0:Int)*U,C*Y+E*U,D0*D1,c7H h0 k0,up (o9 hd kd),⟨up (e7 hd' k1),A3 (e7 h1 k1) (e7 h2 k3),up (e7 hd' k3),A3 (e7 h3 k1) (e7 h4 k3)⟩,?_,?_,?_,?_⟩
 ·rw[c6Z,c6B,c6C,← f1];grind
 ·rw[c6Z,c7P,c6B,c6B,← f1,← f3,← e1,← e2];grind
 ·rw[c6Z,c6B,c6C,← f3];grind
 ·rw[c6Z,c7P,c6B,c6B,← f1,← f3,← e3,← e4];grind
theorem b7B{A Z q:Rat}(hz:Z≠0)(hq:q≠0):A / Z=A*q / (Z*q):=by grind
theorem b6C{t x f a b:Rat}{S:Nat}(ht:sz t≤231)(h:CD S x f a b)(t1:-2<t)(t2:t<2):(S5 t x f).num.natAbs<2 ^ (2*S+480):=by
 obtain⟨X,F,_,_,D0,h0,_,⟨h1,h2,_,_⟩,e1,e2,_,_⟩:=h.ex
 have td:=t9 t ht
 have tn:=q9 t ht
 have td':(t.den:Int).natAbs<2 ^ 231:=by rw[c6w];exact td
 have e:=u9 t
 have h4:=b0D t1 t2
 have d0:(t.den:Rat)≠0:=by intro z;exact t.den_nz (by exact_mod_cast z)
 have D0n:(D0:Rat)≠0:=by intro z;exact h0 (by exact_mod_cast z)
 have key:S5 t x f=c7g (4*((t.den:Int)*((t.den:Int)*(X*X+F*F) - t.num*(X*F)))) ((4*((t.den:Int)*(t.den:Int)) - t.num*t.num)*((D0:Int)*(D0:Int))):=by
  rw[c7q]
  simp only[c6B,c8k,c7P,c6C]
  rw[← e1,← e2,← e,show((4:Int):Rat)=4 from rfl]
  unfold S5
  generalize (t.den:Rat)=n at *
  generalize (D0:Rat)=w at *
  have hz:4 - t*t≠0:=fun z=>by rw[z]at h4;exact absurd h4 (by decide)
  rw[show 4*(n*(n*(x*w*(x*w)+f*w*(f*w)) - t*n*(x*w*(f*w))))=(4*(x*x - t*(x*f)+f*f))*((n*n)*(w*w))by grind,show(4*(n*n) - t*n*(t*n))*(w*w)=(4 - t*t)*((n*n)*(w*w))by grind]
  have nz:n*n*(w*w)≠0:=by grind
  exact b7B hz nz
 rw[key]
 refine c6O (RM.b4e _ _) ?_
 have xx:=e7 h1 h1
 have ff:=e7 h2 h2
 have xf:=e7 h1 h2
 have s1:=e7 td' (A3 xx ff)
 have s2:=e7 tn xf
 have s3:=e7 td' (a0X s1 (p0 s2 (show 231+(S+S)≤231+(S+S+1)by omega)))
 exact p0 (e7 (show(4:Int).natAbs<2 ^ 3 by decide) s3) (by omega)
theorem b4h{near far:Rat}{bs:List (Str × Rat)}(hw:D8 near bs far){y u:Rat}(cd:CD 1000 y 0 u 0){l:Rat × Rat × Rat}(hl:l∈B8 (e6 near bs far) (e6 near bs far).length)(t1:-2<trQ (tbQ (e6 near bs far)))(t2:trQ (tbQ (e6 near bs far))<2) :
  (S5 (trQ (tbQ (e6 near bs far))) (l.1*y+l.2.1*u) (l.1*(g7 (e6 near bs far) (y,u)).1+l.2.1*(g7 (e6 near bs far) (y,u)).2)).num.natAbs<2 ^ 3500:=by
 have cL:=hw.cd (e6 near bs far).length
 rw[c6X]at cL
 have zt:sz (trQ (tbQ (e6 near bs far)))≤231:=CD.tr cL
 obtain⟨j,px,hj,hpx,el⟩:=P3 _ l hl
 have c:=CD.mul (k:=(y,(g7 (e6 near bs far) (y,u)).1,u,(g7 (e6 near bs far) (y,u)).2)) (hw.cd j) (b3J cL cd)
 have n:=b6C zt c t1 t2
 rw[el]
 exact p0 n (by omega)
theorem a5M{ds:List D}{n:Nat}:U0 ds (some (n:Int)) none=ds.drop n:=by
 unfold U0
 rw[HT.b6z,HT.b3D]
 by_cases h:n≤ds.length
 ·rw[Nat.min_eq_left h,c7y (by rw[c7K];omega)]
 ·rw[Nat.min_eq_right (by omega),c8n (by omega),c8n (by omega),List.take_nil]
theorem b4X{bs:List (Str × Rat)}{k:Nat}(h:k<bs.length)(x:Str × Rat):U0 (bs.map f9) none (some (k:Int))++[f9 x]++U0 (bs.map f9) (some ((k:Int)+1)) none=(bs.set k x).map f9:=by
 rw[a9P,show(k:Int)+1=((k+1:Nat):Int)by omega,a5M,List.set_eq_take_append_cons_drop,if_pos h,c6P,c7C,c8y,c9x,c9z]
 rfl
theorem c2t:a8U 10 9:=⟨by decide,by decide,by decide⟩
noncomputable def erS(x:Str × Rat):Str × Rat:=if x.1 = "stop" then(Str.ofString "stop",0)else x
theorem b98(x:Str × Rat)(y u:Rat):B4 (erS x) y u=B4 x y u:=by
 unfold erS
 split
 ·rename_i h
  obtain⟨w,q⟩:=x
  have h:w=Str.ofString "stop" := h
  subst h
  unfold B4
  rfl
 ·rfl
theorem a6D(xs:List (Str × Rat)):∀ r:Rat × Rat,g7 (xs.map erS) r=g7 xs r:=by
 induction xs with
 | nil=>intro r;rfl
 | cons x xs ih =>
  intro r
  show g7 (xs.map erS) (B4 (erS x) r.1 r.2)=g7 xs (B4 x r.1 r.2)
  rw[b98,ih]
theorem c1h{xs ys:List (Str × Rat)}(h:xs.map erS=ys.map erS):tbQ xs=tbQ ys:=by
 unfold tbQ
 rw[← a6D xs,← a6D xs,← a6D ys,← a6D ys,h]
theorem b7q(near far:Rat){bs cs:List (Str × Rat)}(h:bs.map erS=cs.map erS):(e6 near bs far).map erS=(e6 near cs far).map erS:=by
 unfold e6
 simp only[c6P,c8f,h]
theorem B6.set{near far:Rat}{bs:List (Str × Rat)}(h:B6 near bs far){at':Nat}{q0 q:Rat}(hat:bs[at']? = some (Str.ofString "stop",q0))(hq:0<q)(hz:sz q≤3000):D8 near (bs.set at' (Str.ofString "stop",q)) far:=by
 have hl:=(c6F.mp hat).1
 have hm:(bs.set at' (Str.ofString "stop",q)).map erS=bs.map erS:=by
  apply List.ext_getElem?
  intro i
  rw[c6K,c6K,c8V]
  by_cases e:at'=i
  ·subst e
   rw[if_pos rfl,if_pos hl,hat];rfl
  ·rw[if_neg e]
 refine⟨fun i=>?_,fun x hx=>?_,by rw[c8G];exact h.len,fun x hx=>?_⟩
 ·rw[c1h (ys:=(e6 near bs far).take i) (by rw[c8y,c8y,b7q near far hm])]
  exact h.cd i
 ·have inb:∀ x∈bs.set at' (Str.ofString "stop",q),sz x.2≤3000:=fun x hx=>by
   rcases c8R hx with hx|rfl
   ·exact c6D (h.part x hx).1 (by decide)
   ·exact hz
  unfold e6 at hx
  rcases c6R.mp hx with hx|hx
  ·rcases c6R.mp hx with hx|hx
   ·rcases c6R.mp hx with hx|hx
    ·exact inb x hx
    ·rw[c6N.mp hx];exact c6D h.zf (by decide)
   ·exact inb x (c7Q.mp hx)
  ·rw[c6N.mp hx];exact c6D h.zn (by decide)
 ·rcases c8R hx with hx|rfl
  ·exact h.w.part x hx
  ·exact .inr ⟨rfl,hq⟩
local macro_rules|`(tactic| walk_at "inj")=>`(tactic| (rename_i e h;simp only[List.cons.injEq,and_true,true_and,GM.j8,GM.j5,GM.i6,GM.j6,GM.i7,D.tup.injEq,D.ref.injEq,D.int.injEq,D.str.injEq,D.bl.injEq,D.vl.injEq,c6V,and_assoc]at e;(repeat(obtain⟨e1,e⟩:=e;subst e1));subst e;exact h))
local macro_rules|`(tactic| walk_at "injs")=>`(tactic| (rename_i e o h;rcases o with o|o<;>(subst o;first|(exfalso;simp only[D.tup.injEq,List.cons.injEq,reduceCtorEq,false_and,and_false]at e;done)|(simp only[List.cons.injEq,and_true,true_and,GM.j8,GM.j5,GM.i6,GM.j6,GM.i7,D.tup.injEq,D.ref.injEq,D.int.injEq,D.str.injEq,D.bl.injEq,D.vl.injEq,c6V,and_assoc]at e;(repeat(obtain⟨e1,e⟩:=e;subst e1));subst e;exact h))))
noncomputable abbrev a2q(bs:List (Str × Rat))(M:Mem)(R:DK)(Y:DXK):Prop:=(((∀ x∈bs,sz x.2≤3000)∧bs.length≤40)∧∀ i,CDQ 230 (tbQ (bs.take i)))∧R (K5 (tbQ bs)) M
noncomputable def b3A:DSp:=fun ds M R Y=>∃(bs:List (Str × Rat)),ds=[.vl (bs.map f9)]∧a2q bs M R Y
theorem a9Z{bs:List (Str × Rat)}{M:Mem}{R:DK}{Y:DXK}:b3A [.vl (bs.map f9)] M R Y=(a2q bs M R Y):=propext ⟨fun z=>by obtain⟨_,_,_⟩:=z;walk_at "inj",fun h=>⟨bs,rfl,h⟩⟩
noncomputable abbrev a05(near:Rat)(bs:List (Str × Rat))(far:Rat)(M:Mem)(R:DK)(Y:DXK):Prop:=D8 near bs far∧R (K5 (tbQ (e6 near bs far))) M
noncomputable def a3w:DSp:=fun ds M R Y=>∃(x0:D) (near:Rat) (bs:List (Str × Rat)) (far:Rat),ds=[.tup [d8 near,x0,d8 far]]∧(x0 = .vl (bs.map f9)∨x0 = .tup (bs.map f9))∧a05 near bs far M R Y
theorem a90{near:Rat}{bs:List (Str × Rat)}{far:Rat}{M:Mem}{R:DK}{Y:DXK}:a3w [.tup [d8 near,.vl (bs.map f9),d8 far]] M R Y=(a05 near bs far M R Y):=propext ⟨fun z=>by obtain⟨_,_,_,_,_,_,_⟩:=z;walk_at "injs",fun h=>⟨_,near,bs,far,rfl,.inl rfl,h⟩⟩
theorem a43{near:Rat}{bs:List (Str × Rat)}{far:Rat}{M:Mem}{R:DK}{Y:DXK}:a3w [.tup [d8 near,.tup (bs.map f9),d8 far]] M R Y=(a05 near bs far M R Y):=propext ⟨fun z=>by obtain⟨_,_,_,_,_,_,_⟩:=z;walk_at "injs",fun h=>⟨_,near,bs,far,rfl,.inr rfl,h⟩⟩
noncomputable abbrev Z1(bs:List (Str × Rat))(M:Mem)(R:DK)(Y:DXK):Prop:=(((∀ x∈bs,sz x.2≤3000)∧bs.length≤40)∧∀ i,CDQ 230 (tbQ (bs.take i)))∧R (.vl ((B8 bs bs.length).map p5)) M
noncomputable def a6u:DSp:=fun ds M R Y=>∃(bs:List (Str × Rat)),ds=[.vl (bs.map f9)]∧Z1 bs M R Y
theorem a49{bs:List (Str × Rat)}{M:Mem}{R:DK}{Y:DXK}:a6u [.vl (bs.map f9)] M R Y=(Z1 bs M R Y):=propext ⟨fun z=>by obtain⟨_,_,_⟩:=z;walk_at "inj",fun h=>⟨bs,rfl,h⟩⟩
noncomputable abbrev L4(near:Rat)(bs:List (Str × Rat))(far:Rat)(M:Mem)(R:DK)(Y:DXK):Prop:=D8 near bs far∧∀ p,M p=none→R (.ref p) (A7 M p (.lst (hlN (y3 near bs far) (y3 near bs far).length)))
noncomputable def W2:DSp:=fun ds M R Y=>∃(x0:D) (near:Rat) (bs:List (Str × Rat)) (far:Rat),ds=[.tup [d8 near,x0,d8 far]]∧(x0 = .vl (bs.map f9)∨x0 = .tup (bs.map f9))∧L4 near bs far M R Y
theorem a2U{near:Rat}{bs:List (Str × Rat)}{far:Rat}{M:Mem}{R:DK}{Y:DXK}:W2 [.tup [d8 near,.vl (bs.map f9),d8 far]] M R Y=(L4 near bs far M R Y):=propext ⟨fun z=>by obtain⟨_,_,_,_,_,_,_⟩:=z;walk_at "injs",fun h=>⟨_,near,bs,far,rfl,.inl rfl,h⟩⟩
theorem a0U{near:Rat}{bs:List (Str × Rat)}{far:Rat}{M:Mem}{R:DK}{Y:DXK}:W2 [.tup [d8 near,.tup (bs.map f9),d8 far]] M R Y=(L4 near bs far M R Y):=propext ⟨fun z=>by obtain⟨_,_,_,_,_,_,_⟩:=z;walk_at "injs",fun h=>⟨_,near,bs,far,rfl,.inr rfl,h⟩⟩
noncomputable abbrev S3(near:Rat)(bs:List (Str × Rat))(far:Rat)(y u:Rat)(M:Mem)(R:DK)(Y:DXK):Prop:=(D8 near bs far∧∃ S,CD S y 0 u 0∧S≤2000)∧R (u5 (g7 (e6 near bs far) (y,u)).1 (g7 (e6 near bs far) (y,u)).2) M
noncomputable def W3:DSp:=fun ds M R Y=>∃(near:Rat) (bs:List (Str × Rat)) (far:Rat) (y u:Rat),ds=[.tup [d8 near,.vl (bs.map f9),d8 far],u5 y u]∧S3 near bs far y u M R Y
theorem a2V{near:Rat}{bs:List (Str × Rat)}{far:Rat}{y u:Rat}{M:Mem}{R:DK}{Y:DXK}:W3 [.tup [d8 near,.vl (bs.map f9),d8 far],u5 y u] M R Y=(S3 near bs far y u M R Y):=propext ⟨fun z=>by obtain⟨_,_,_,_,_,_,_⟩:=z;walk_at "inj",fun h=>⟨near,bs,far,y,u,rfl,h⟩⟩
noncomputable abbrev a1g(q:Rat)(T B:Int)(M:Mem)(R:DK)(Y:DXK):Prop:=(0<B∧sz q≤9000∧B.natAbs<2 ^ 9000∧T.natAbs<2 ^ 20000)∧R (.bl (decide (q<c7g T B))) M
noncomputable def a3B:DSp:=fun ds M R Y=>∃(q:Rat) (T B:Int),ds=[d8 q,.tup [.int T,.int B]]∧a1g q T B M R Y
theorem a7q{q:Rat}{T B:Int}{M:Mem}{R:DK}{Y:DXK}:a3B [d8 q,.tup [.int T,.int B]] M R Y=(a1g q T B M R Y):=propext ⟨fun z=>by obtain⟨_,_,_,_,_⟩:=z;walk_at "inj",fun h=>⟨q,T,B,rfl,h⟩⟩
noncomputable abbrev Y1(N:Nat)(M:Mem)(R:DK)(Y:DXK):Prop:=N<2 ^ 20000∧∀ a:Nat,a*a≤N→N<(a+1)*(a+1)→R (.int (a:Int)) M
noncomputable def a6f:DSp:=fun ds M R Y=>∃(N:Nat),ds=[.int (N:Int)]∧Y1 N M R Y
theorem a4X{N:Nat}{M:Mem}{R:DK}{Y:DXK}:a6f [.int (N:Int)] M R Y=(Y1 N M R Y):=propext ⟨fun z=>by obtain⟨_,_,_⟩:=z;walk_at "inj",fun h=>⟨N,rfl,h⟩⟩
noncomputable abbrev Y5(y u g:Rat)(M:Mem)(R:DK)(Y:DXK):Prop:=(sz y+sz g≤8900∧sz u+sz g≤8900)∧R (u5 (y*g) (u*g)) M
noncomputable def a6m:DSp:=fun ds M R Y=>∃(y u g:Rat),ds=[u5 y u,d8 g]∧Y5 y u g M R Y
theorem a41{y u g:Rat}{M:Mem}{R:DK}{Y:DXK}:a6m [u5 y u,d8 g] M R Y=(Y5 y u g M R Y):=propext ⟨fun z=>by obtain⟨_,_,_,_,_⟩:=z;walk_at "inj",fun h=>⟨y,u,g,rfl,h⟩⟩
noncomputable abbrev Z5(near:Rat)(bs:List (Str × Rat))(far:Rat)(b:Bool)(M:Mem)(R:DK)(Y:DXK):Prop:=B6 near bs far∧∀(y u:Rat),(sz y≤463∧sz u≤463∧sz y+sz u≤700)→R (u5 y u) M
noncomputable def a6y:DSp:=fun ds M R Y=>∃(near:Rat) (bs:List (Str × Rat)) (far:Rat) (b:Bool),ds=[.tup [d8 near,.vl (bs.map f9),d8 far],.bl b]∧Z5 near bs far b M R Y
theorem a5d{near:Rat}{bs:List (Str × Rat)}{far:Rat}{b:Bool}{M:Mem}{R:DK}{Y:DXK}:a6y [.tup [d8 near,.vl (bs.map f9),d8 far],.bl b] M R Y=(Z5 near bs far b M R Y):=propext ⟨fun z=>by obtain⟨_,_,_,_,_,_⟩:=z;walk_at "inj",fun h=>⟨near,bs,far,b,rfl,h⟩⟩
noncomputable abbrev a06(p:Addr)(x y:D)(M:Mem)(R:DK)(Y:DXK):Prop:=B5 M p∧∃(ts bs:List Int) (P:Rat→Prop),x = .vl (ts.map D.int)∧y = .vl (bs.map D.int)∧((0<ts.length∧ts.length≤100)∧(0<bs.length∧bs.length≤100)∧(∀ b∈bs,0<b∧b.natAbs<2 ^ 133)∧∀ t∈ts,∀ b∈bs,P (c7g t b))∧∀(q:Rat) M',P q→p6 p M M'→R (d8 q) M'
noncomputable def a9h:DSp:=fun ds M R Y=>∃(p:Addr) (x y:D),ds=[.ref p,x,y]∧a06 p x y M R Y
theorem a7j{p:Addr}{x y:D}{M:Mem}{R:DK}{Y:DXK}:a9h [.ref p,x,y] M R Y=(a06 p x y M R Y):=propext ⟨fun z=>by obtain⟨_,_,_,_,_⟩:=z;walk_at "inj",fun h=>⟨p,x,y,rfl,h⟩⟩
noncomputable abbrev a2t(p:Addr)(near:Rat)(bs:List (Str × Rat))(far:Rat)(M:Mem)(R:DK)(Y:DXK):Prop:=B5 M p∧B6 near bs far∧∀(y u:Rat) M',CD 1000 y 0 u 0→p6 p M M'→R (u5 y u) M'
noncomputable def b3C:DSp:=fun ds M R Y=>∃(p:Addr) (near:Rat) (bs:List (Str × Rat)) (far:Rat),ds=[.ref p,.tup [d8 near,.vl (bs.map f9),d8 far]]∧a2t p near bs far M R Y
theorem a92{p:Addr}{near:Rat}{bs:List (Str × Rat)}{far:Rat}{M:Mem}{R:DK}{Y:DXK}:b3C [.ref p,.tup [d8 near,.vl (bs.map f9),d8 far]] M R Y=(a2t p near bs far M R Y):=propext ⟨fun z=>by obtain⟨_,_,_,_,_,_⟩:=z;walk_at "inj",fun h=>⟨p,near,bs,far,rfl,h⟩⟩
noncomputable abbrev S1(near:Rat)(bs:List (Str × Rat))(far:Rat)(M:Mem)(R:DK)(Y:DXK):Prop:=D8 near bs far∧R (.vl (hlN (y3 near bs far) (y3 near bs far).length)) M
noncomputable def a3z:DSp:=fun ds M R Y=>∃(near:Rat) (bs:List (Str × Rat)) (far:Rat),ds=[.tup [d8 near,.vl (bs.map f9),d8 far]]∧S1 near bs far M R Y
theorem a2R{near:Rat}{bs:List (Str × Rat)}{far:Rat}{M:Mem}{R:DK}{Y:DXK}:a3z [.tup [d8 near,.vl (bs.map f9),d8 far]] M R Y=(S1 near bs far M R Y):=propext ⟨fun z=>by obtain⟨_,_,_,_,_⟩:=z;walk_at "inj",fun h=>⟨near,bs,far,rfl,h⟩⟩
noncomputable abbrev a6t(near:Rat)(bs:List (Str × Rat))(far:Rat)(M:Mem)(R:DK)(Y:DXK):Prop:=D8 near bs far∧R (d8 (trQ (tbQ (e6 near bs far)))) M
noncomputable def b6x:DSp:=fun ds M R Y=>∃(near:Rat) (bs:List (Str × Rat)) (far:Rat),ds=[.tup [d8 near,.vl (bs.map f9),d8 far]]∧a6t near bs far M R Y
theorem b2p{near:Rat}{bs:List (Str × Rat)}{far:Rat}{M:Mem}{R:DK}{Y:DXK}:b6x [.tup [d8 near,.vl (bs.map f9),d8 far]] M R Y=(a6t near bs far M R Y):=propext ⟨fun z=>by obtain⟨_,_,_,_,_⟩:=z;walk_at "inj",fun h=>⟨near,bs,far,rfl,h⟩⟩
noncomputable def b8y(L:List (Str × Rat))(y u:Rat)(l:Rat × Rat × Rat):D:=.tup [d8 (l.1*y+l.2.1*u),d8 (l.1*(g7 L (y,u)).1+l.2.1*(g7 L (y,u)).2),d8 l.2.2]
noncomputable abbrev a1e(x r:Rat)(M:Mem)(R:DK)(Y:DXK):Prop:=sz x+sz r≤8900∧R (.bl (decide (r<j3 x))) M
noncomputable def a9m:DSp:=fun ds M R Y=>∃(x r:Rat),ds=[d8 x,d8 r]∧a1e x r M R Y
theorem a7o{x r:Rat}{M:Mem}{R:DK}{Y:DXK}:a9m [d8 x,d8 r] M R Y=(a1e x r M R Y):=propext ⟨fun z=>by obtain⟨_,_,_,_⟩:=z;walk_at "inj",fun h=>⟨x,r,rfl,h⟩⟩
noncomputable abbrev R9(t x f:Rat)(M:Mem)(R:DK)(Y:DXK):Prop:=(sz t≤231∧sz x≤1231∧sz f≤1462∧-2<t∧t<2)∧R (d8 (S5 t x f)) M
noncomputable def V9:DSp:=fun ds M R Y=>∃(t x f:Rat),ds=[d8 t,d8 x,d8 f]∧R9 t x f M R Y
theorem a2P{t x f:Rat}{M:Mem}{R:DK}{Y:DXK}:V9 [d8 t,d8 x,d8 f] M R Y=(R9 t x f M R Y):=propext ⟨fun z=>by obtain⟨_,_,_,_,_⟩:=z;walk_at "inj",fun h=>⟨t,x,f,rfl,h⟩⟩
noncomputable abbrev Z0(near:Rat)(bs:List (Str × Rat))(far:Rat)(M:Mem)(R:DK)(Y:DXK):Prop:=D8 near bs far∧R (.int (rtN (tbQ (e6 near bs far)):Int)) M
noncomputable def a1c:DSp:=fun ds M R Y=>∃(near:Rat) (bs:List (Str × Rat)) (far:Rat),ds=[.tup [d8 near,.vl (bs.map f9),d8 far]]∧Z0 near bs far M R Y
theorem a48{near:Rat}{bs:List (Str × Rat)}{far:Rat}{M:Mem}{R:DK}{Y:DXK}:a1c [.tup [d8 near,.vl (bs.map f9),d8 far]] M R Y=(Z0 near bs far M R Y):=propext ⟨fun z=>by obtain⟨_,_,_,_,_⟩:=z;walk_at "inj",fun h=>⟨near,bs,far,rfl,h⟩⟩
noncomputable abbrev Y9(near:Rat)(bs:List (Str × Rat))(far:Rat)(t:Rat)(M:Mem)(R:DK)(Y:DXK):Prop:=(D8 near bs far∧t=trQ (tbQ (e6 near bs far)))∧R (.bl (decide (j3 t<2∧rtN (tbQ (e6 near bs far))=0))) M
noncomputable def a2v:DSp:=fun ds M R Y=>∃(near:Rat) (bs:List (Str × Rat)) (far:Rat) (t:Rat),ds=[.tup [d8 near,.vl (bs.map f9),d8 far],d8 t]∧Y9 near bs far t M R Y
theorem a47{near:Rat}{bs:List (Str × Rat)}{far:Rat}{t:Rat}{M:Mem}{R:DK}{Y:DXK}:a2v [.tup [d8 near,.vl (bs.map f9),d8 far],d8 t] M R Y=(Y9 near bs far t M R Y):=propext ⟨fun z=>by obtain⟨_,_,_,_,_,_⟩:=z;walk_at "inj",fun h=>⟨near,bs,far,t,rfl,h⟩⟩
noncomputable abbrev P4(near:Rat)(bs:List (Str × Rat))(far:Rat)(y u p q:Rat)(M:Mem)(R:DK)(Y:DXK):Prop:=(D8 near bs far∧CD 1000 y 0 u 0∧(sz p≤230∧sz q≤230)∧sz (p*y+q*u)≤1231∧sz (p*(g7 (e6 near bs far) (y,u)).1+q*(g7 (e6 near bs far) (y,u)).2)≤1462∧-2<trQ (tbQ (e6 near bs far))∧trQ (tbQ (e6 near bs far))<2)∧R (d8 (S5 (trQ (tbQ (e6 near bs far))) (p*y+q*u) (p*(g7 (e6 near bs far) (y,u)).1+q*(g7 (e6 near bs far) (y,u)).2))) M
noncomputable def a2r:DSp:=fun ds M R Y=>∃(x0:D) (near:Rat) (bs:List (Str × Rat)) (far:Rat) (y u p q:Rat),ds=[.tup [d8 near,x0,d8 far],u5 y u,d8 p,d8 q]∧(x0 = .vl (bs.map f9)∨x0 = .tup (bs.map f9))∧P4 near bs far y u p q M R Y
theorem a44{near:Rat}{bs:List (Str × Rat)}{far:Rat}{y u p q:Rat}{M:Mem}{R:DK}{Y:DXK}:a2r [.tup [d8 near,.vl (bs.map f9),d8 far],u5 y u,d8 p,d8 q] M R Y=(P4 near bs far y u p q M R Y):=propext ⟨fun z=>by obtain⟨_,_,_,_,_,_,_,_,_,_,_⟩:=z;walk_at "injs",fun h=>⟨_,near,bs,far,y,u,p,q,rfl,.inl rfl,h⟩⟩
theorem a1U{near:Rat}{bs:List (Str × Rat)}{far:Rat}{y u p q:Rat}{M:Mem}{R:DK}{Y:DXK}:a2r [.tup [d8 near,.tup (bs.map f9),d8 far],u5 y u,d8 p,d8 q] M R Y=(P4 near bs far y u p q M R Y):=propext ⟨fun z=>by obtain⟨_,_,_,_,_,_,_,_,_,_,_⟩:=z;walk_at "injs",fun h=>⟨_,near,bs,far,y,u,p,q,rfl,.inr rfl,h⟩⟩
noncomputable abbrev a02(p:Addr)(near:Rat)(bs:List (Str × Rat))(far:Rat)(y u:Rat)(M:Mem)(R:DK)(Y:DXK):Prop:=B5 M p∧(B6 near bs far∧bs.length≤7∧CD 1000 y 0 u 0)∧∀(bs':List (Str × Rat)) M',D8 near bs' far→p6 p M M'→R (.tup [d8 near,.vl (bs'.map f9),d8 far]) M'
noncomputable def a9e:DSp:=fun ds M R Y=>∃(p:Addr) (near:Rat) (bs:List (Str × Rat)) (far:Rat) (y u:Rat),ds=[.ref p,.tup [d8 near,.vl (bs.map f9),d8 far],u5 y u]∧a02 p near bs far y u M R Y
theorem a7g{p:Addr}{near:Rat}{bs:List (Str × Rat)}{far:Rat}{y u:Rat}{M:Mem}{R:DK}{Y:DXK}:a9e [.ref p,.tup [d8 near,.vl (bs.map f9),d8 far],u5 y u] M R Y=(a02 p near bs far y u M R Y):=propext ⟨fun z=>by obtain⟨_,_,_,_,_,_,_,_⟩:=z;walk_at "inj",fun h=>⟨p,near,bs,far,y,u,rfl,h⟩⟩
end GM
namespace DL
open PySem PySem.Spec L2
theorem a8D{e0:Ev}{g:DTG}{te:DTE}{ds:List D}{stay:Mem→Prop}{M1:Mem}{E:List D→Mem→Prop}{β:Type}(out:β→D)(Rl:Nat→β→Prop)(hn:ds.length≤1000)(hst:stay M1)
  (step:∀ i d,ds[i]? = some d→∀ Q:DK,(∀ b,Rl i b→Q (out b) M1)→g d e0 M1 fun e2 M2=>te e2 M2 Q) (h:∀ bs:List β,bs.length=ds.length→(∀ i b,bs[i]? = some b→Rl i b)→E (bs.map out) M1):∃ W,a4b e0 g b4T te ds stay M1 E W:=by
 refine⟨fun i ys M=>M=M1∧∃ bs:List β,bs.length=i∧(∀ j b,bs[j]? = some b→Rl j b)∧ys=bs.map out,⟨⟨rfl,[],rfl,(fun j b z=>by simp at z),rfl⟩,fun i ys M _ w=>by rw[w.1];exact hst,fun i d ys M hd w=>?_,fun ys M w=>?_⟩⟩
 ·obtain⟨rfl,bs,hl,hok,rfl⟩:=w
  have hi:i<ds.length:=(c6F.mp hd).1
  refine step i d hd _ fun b hb=>⟨?_,rfl,bs++[b],by simp[hl],fun j c hc=>?_,by simp⟩
  ·rw[c6x,hl];exact c6A (c6A hi hn) (show 1000≤sizeLine by decide)
  ·rcases c8h j bs.length with z|z
   ·rw[c8b z]at hc;exact hok j c hc
   ·rw[c77 z]at hc
    have hj:j - bs.length=0:=by
     have:=(c6F.mp hc).1
     simp at this;omega
    rw[hj]at hc
    have e:b=c:=by simpa using hc
    have ej:j=i:=by omega
    rw[ej,← e];exact hb
 ·obtain⟨rfl,bs,hl,hok,rfl⟩:=w
  exact h bs hl hok
end DL
namespace GM
open PySem PySem.Spec L2 DL
open RM (sz)
noncomputable def stQ(t:Rat)(p:Rat × Rat):Nat→Rat × Rat
 | 0=>p
 | n+1=>((stQ t p n).2,t*(stQ t p n).2 - (stQ t p n).1)
noncomputable def a0q(t:Rat)(l:Rat × Rat × Rat)(n:Nat):Prop:=l.2.2<j3 (stQ t (l.1,l.2.1) n).1
instance c2x(t:Rat)(l:Rat × Rat × Rat)(n:Nat):Decidable (a0q t l n):=by unfold a0q;infer_instance
noncomputable def W7(t:Rat)(l:Rat × Rat × Rat)(N:Nat):Option Nat:=(c7U N).find? fun n=>decide (a0q t l n)
theorem a3Y{t:Rat}{l:Rat × Rat × Rat}{N:Nat}(h:∀ n,n<N→¬ a0q t l n):W7 t l N=none:=by
 unfold W7
 rw[c8l]
 intro n hn
 rw[decide_eq_true_eq]
 exact h n (c7Z.mp hn)
theorem a9G{t:Rat}{l:Rat × Rat × Rat}{N n:Nat}(hn:n<N)(hb:a0q t l n)(h:∀ j,j<n→¬ a0q t l j):W7 t l N=some n:=by
 unfold W7
 rw[c8W]
 refine⟨decide_eq_true hb,c7Z.mpr hn,fun j hj=>?_⟩
 rw[decide_eq_false (h j hj)];rfl
noncomputable def c3b:Option Nat→D
 | none=>.non
 | some n=>.int (n:Int)
noncomputable def U1(t:Rat)(ls:List (Rat × Rat × Rat))(k n:Nat):Bool:=match ls[k]? with|some l=>decide (a0q t l n)|none=>false
noncomputable def a0Z(t:Rat)(ls:List (Rat × Rat × Rat))(ws:List Nat)(N:Nat):Option (Nat × Nat) :=
 match (c7U N).find? fun n=>ws.any fun k=>U1 t ls k n with
 | none=>none
 | some n=>(ws.find? fun k=>U1 t ls k n).map fun k=>(n,k)
theorem a3h{t:Rat}{ls:List (Rat × Rat × Rat)}{ws:List Nat}{N:Nat}(h:∀ n,n<N→∀ k∈ws,U1 t ls k n=false):a0Z t ls ws N=none:=by
 unfold a0Z
 rw[c8l.mpr fun n hn=>?_]
 rw[Bool.not_eq_true,c8T]
 exact fun k hk=>by rw[h n (c7Z.mp hn) k hk];decide
theorem a83{t:Rat}{ls:List (Rat × Rat × Rat)}{ws:List Nat}{N n i k:Nat}(hn:n<N)(hi:ws[i]? = some k)(hb:U1 t ls k n=true)(h1:∀ j,j<n→∀ k∈ws,U1 t ls k j=false)
  (h2:∀ j,j<i→∀ k',ws[j]? = some k'→U1 t ls k' n=false):a0Z t ls ws N=some (n,k):=by
 unfold a0Z
 have hk:=c6J hi
 have e:(c7U N).find? (fun n=>ws.any fun k=>U1 t ls k n)=some n:=by
  rw[c8W]
  refine⟨List.any_eq_true.mpr ⟨k,hk,hb⟩,c7Z.mpr hn,fun j hj=>?_⟩
  have:(ws.any fun k=>U1 t ls k j)=false:=c8T.mpr fun k hk=>by rw[h1 j hj k hk];decide
  rw[this];rfl
 rw[e]
 have hl:=(c6F.mp hi).1
 have e2:ws.find? (fun k=>U1 t ls k n)=some k:=by
  rw[List.find?_eq_some_iff_getElem]
  refine⟨hb,i,hl,(c6F.mp hi).2,fun j hj=>?_⟩
  rw[h2 j hj _ (c7c (Nat.lt_trans hj hl))];rfl
 show(ws.find? fun k=>U1 t ls k n).map (fun k=>(n,k))=_
 rw[e2];rfl
noncomputable def b0G:Option (Nat × Nat)→D
 | none=>.non
 | some z=>.tup [.int (z.1:Int),.int (z.2:Int)]
theorem b7G(a:Int):j3 (a:Rat)=((a.natAbs:Nat):Rat):=by
 rw[← c6C]
 unfold j3
 split
 ·rename_i h
  have h:0≤a:=by exact_mod_cast h
  rw[show((a.natAbs:Nat):Int)=a by omega]
 ·rename_i h
  have h:¬ 0≤a:=fun z=>h (by exact_mod_cast z)
  rw[show((a.natAbs:Nat):Int) = -a by omega,Rat.intCast_neg]
structure a4R(t:Rat)(l:Rat × Rat × Rat)(n:Nat)(s:Int × Int × Int):Prop where
 ex:∃ W:Nat,0<W∧(s.1:Rat)=(stQ t (l.1,l.2.1) n).1*(W:Rat)∧(s.2.1:Rat)=(stQ t (l.1,l.2.1) n).2*((W:Rat)*(t.den:Rat))∧(s.2.2:Rat)=l.2.2*(W:Rat)
 b1:s.1.natAbs<2 ^ (12000+470*n)
 b2:s.2.1.natAbs<2 ^ (12000+470*n)
 b3:s.2.2.natAbs<2 ^ (12000+470*n)
noncomputable def stD(s:Int × Int × Int):D:=.tup [.int s.1,.int s.2.1,.int s.2.2]
theorem a4R.bey{t:Rat}{l:Rat × Rat × Rat}{n:Nat}{s:Int × Int × Int}(h:a4R t l n s):(s.2.2<(s.1.natAbs:Int))↔a0q t l n:=by
 obtain⟨W,W0,e1,_,e3⟩:=h.ex
 have W0:(0:Rat)<(W:Rat):=by exact_mod_cast W0
 unfold a0q
 have e4:=b7G s.1
 rw[e1,b5j,show j3 (W:Rat)=(W:Rat)by unfold j3;rw[if_pos (by grind)]]at e4
 generalize (stQ t (l.1,l.2.1) n).1=x at *
 have c:(s.2.2<(s.1.natAbs:Int))↔((s.2.2:Rat)<((s.1.natAbs:Nat):Rat)):=by
  rw[← c6C,c88]
 rw[c,e3,← e4]
 generalize j3 x=a at *
 constructor
 ·intro z
  apply c7E
  intro nz
  have:=c8c (a:=l.2.2 - a) (b:=(W:Rat)) (by grind) (by grind)
  grind
 ·intro z
  have:=c8p (a:=a - l.2.2) (b:=(W:Rat)) (by grind) W0
  grind
theorem a4R.next{t:Rat}{l:Rat × Rat × Rat}{n:Nat}{s:Int × Int × Int}(ht:sz t≤231)(h:a4R t l n s):a4R t l (n+1) (s.2.1,t.num*s.2.1 - (t.den:Int)*(t.den:Int)*s.1,s.2.2*(t.den:Int)):=by
 obtain⟨W,W0,e1,e2,e3⟩:=h.ex
 have td:=t9 t ht
 have tn:=q9 t ht
 have td':(t.den:Int).natAbs<2 ^ 231:=by rw[c6w];exact td
 have e:=u9 t
 refine⟨⟨W*t.den,c81 W0 t.den_pos,?_,?_,?_⟩,?_,?_,?_⟩
 ·show(s.2.1:Rat)=(stQ t (l.1,l.2.1) n).2*((W*t.den:Nat):Rat)
  rw[e2,c6Z]
 ·show((t.num*s.2.1 - (t.den:Int)*(t.den:Int)*s.1:Int):Rat)=(t*(stQ t (l.1,l.2.1) n).2 - (stQ t (l.1,l.2.1) n).1)*(((W*t.den:Nat):Rat)*(t.den:Rat))
  rw[c8k,c6B,c6B,c6B,c6C,e1,e2,← e,c6Z]
  grind
 ·show((s.2.2*(t.den:Int):Int):Rat)=l.2.2*((W*t.den:Nat):Rat)
  rw[c6B,e3,c6C,c6Z]
  grind
 ·exact p0 h.b2 (by omega)
 ·have m1:=e7 tn h.b2
  have m2:=e7 (e7 td' td') h.b1
  exact p0 (a0X (p0 m1 (show _≤462+(12000+470*n)by omega)) (p0 m2 (by omega))) (by omega)
 ·exact p0 (e7 h.b3 td') (by omega)
noncomputable def szs(qs:List Rat):Nat:=(qs.map sz).sum
theorem a5U{qs:List Rat}{q:Rat}(h:q∈qs):sz q≤szs qs:=by
 induction qs with
 | nil=>cases h
 | cons a r ih =>
  show sz q≤sz a+szs r
  rcases c6M.mp h with rfl|h
  ·omega
  ·have:=ih h;omega
theorem b3r{qs:List Rat}{i:Nat}{q:Rat}(h:qs[i]? = some q):szs (qs.take (i+1))=szs (qs.take i)+sz q:=by
 rw[c7X,h]
 unfold szs
 rw[c6P,List.sum_append];rfl
theorem b9j(qs:List Rat)(i:Nat):szs (qs.take i)≤szs qs:=by
 have h:=congrArg szs (c8t i qs)
 unfold szs at h ⊢
 rw[c6P,List.sum_append]at h
 omega
local macro_rules|`(tactic| walk_at "inj")=>`(tactic| (rename_i e h;simp only[List.cons.injEq,and_true,true_and,GM.j8,GM.j5,GM.i6,GM.j6,GM.i7,D.tup.injEq,D.ref.injEq,D.int.injEq,D.str.injEq,D.bl.injEq,D.vl.injEq,c6V,and_assoc]at e;(repeat(obtain⟨e1,e⟩:=e;subst e1));subst e;exact h))
local macro_rules|`(tactic| walk_at "injs")=>`(tactic| (rename_i e o h;rcases o with o|o<;>(subst o;first|(exfalso;simp only[D.tup.injEq,List.cons.injEq,reduceCtorEq,false_and,and_false]at e;done)|(simp only[List.cons.injEq,and_true,true_and,GM.j8,GM.j5,GM.i6,GM.j6,GM.i7,D.tup.injEq,D.ref.injEq,D.int.injEq,D.str.injEq,D.bl.injEq,D.vl.injEq,c6V,and_assoc]at e;(repeat(obtain⟨e1,e⟩:=e;subst e1));subst e;exact h))))
noncomputable abbrev a6x(x:D)(M:Mem)(R:DK)(Y:DXK):Prop:=∃ qs:List Rat,(x = .tup (qs.map d8)∨x = .vl (qs.map d8))∧szs qs≤8500∧∀ B:Nat,0<B→B≤2 ^ szs qs→(∀ q∈qs,q.den ∣ B)→B ∣ (qs.map fun q:Rat=>q.den).prod→R (.int (B:Int)) M
noncomputable def b6A:DSp:=fun ds M R Y=>∃(x:D),ds=[x]∧a6x x M R Y
theorem b2r{x:D}{M:Mem}{R:DK}{Y:DXK}:b6A [x] M R Y=(a6x x M R Y):=propext ⟨fun z=>by obtain⟨_,_,_⟩:=z;walk_at "inj",fun h=>⟨x,rfl,h⟩⟩
noncomputable abbrev a6i(x:D)(b:Nat)(M:Mem)(R:DK)(Y:DXK):Prop:=∃ qs:List Rat,(x = .tup (qs.map d8)∨x = .vl (qs.map d8))∧(qs.length≤1000∧b≤2 ^ 8500∧0<b∧(∀ q∈qs,q.den ∣ b∧sz q≤8900))∧R (.vl (qs.map fun q=>.int (q.num*(b:Int).fdiv (q.den:Int)))) M
noncomputable def b6w:DSp:=fun ds M R Y=>∃(x:D) (b:Nat),ds=[x,.int (b:Int)]∧a6i x b M R Y
theorem b2l{x:D}{b:Nat}{M:Mem}{R:DK}{Y:DXK}:b6w [x,.int (b:Int)] M R Y=(a6i x b M R Y):=propext ⟨fun z=>by obtain⟨_,_,_,_⟩:=z;walk_at "inj",fun h=>⟨x,b,rfl,h⟩⟩
noncomputable abbrev S4(t x f r:Rat)(M:Mem)(R:DK)(Y:DXK):Prop:=(sz t≤231∧sz x+sz f+sz r≤8400∧sz x≤3000∧sz f≤3000∧sz r≤3000)∧∀ s:Int × Int × Int,a4R t (x,f,r) 0 s→R (stD s) M
noncomputable def a3F:DSp:=fun ds M R Y=>∃(t x f r:Rat),ds=[d8 t,d8 x,d8 f,d8 r]∧S4 t x f r M R Y
theorem a2W{t x f r:Rat}{M:Mem}{R:DK}{Y:DXK}:a3F [d8 t,d8 x,d8 f,d8 r] M R Y=(S4 t x f r M R Y):=propext ⟨fun z=>by obtain⟨_,_,_,_,_,_⟩:=z;walk_at "inj",fun h=>⟨t,x,f,r,rfl,h⟩⟩
noncomputable abbrev Y8(t:Rat)(x:D)(M:Mem)(R:DK)(Y:DXK):Prop:=∃ s:Int × Int × Int,x=stD s∧(sz t≤231∧∃ k,s.1.natAbs<2 ^ k∧s.2.1.natAbs<2 ^ k∧s.2.2.natAbs<2 ^ k∧k≤60000)∧R (stD (s.2.1,t.num*s.2.1 - (t.den:Int)*(t.den:Int)*s.1,s.2.2*(t.den:Int))) M
noncomputable def a6s:DSp:=fun ds M R Y=>∃(t:Rat) (x:D),ds=[d8 t,x]∧Y8 t x M R Y
theorem a46{t:Rat}{x:D}{M:Mem}{R:DK}{Y:DXK}:a6s [d8 t,x] M R Y=(Y8 t x M R Y):=propext ⟨fun z=>by obtain⟨_,_,_,_⟩:=z;walk_at "inj",fun h=>⟨t,x,rfl,h⟩⟩
theorem c0o{a b:Int}{q:Rat}(b0:0<b):c7g a b=q↔a*(q.den:Int)=q.num*b:=by
 have hB:(b:Rat)≠0:=by intro z;exact absurd (show b=0 by exact_mod_cast z) (by omega)
 have hd:(q.den:Rat)≠0:=by intro z;exact q.den_nz (by exact_mod_cast z)
 have e:=u9 q
 rw[c7q]
 have e1:(a*(q.den:Int)=q.num*b)↔((a:Rat)*(q.den:Rat)=(q.num:Rat)*(b:Rat)):=by
  rw[← c6B,← c6C,← c6B,Rat.intCast_inj]
 rw[e1,← e]
 constructor
 ·intro h;rw[← h];grind
 ·intro h
  have:(a:Rat)=q*(b:Rat):=by grind
  rw[this];grind
noncomputable abbrev a2w(a b:Int)(M:Mem)(R:DK)(Y:DXK):Prop:=(b≠0∧c7e a.natAbs b.natAbs<2 ^ 9000)∧R (d8 (c7g a b)) M
noncomputable def b0M:DSp:=fun ds M R Y=>∃(a b:Int),ds=[.int a,.int b]∧a2w a b M R Y
theorem a94{a b:Int}{M:Mem}{R:DK}{Y:DXK}:b0M [.int a,.int b] M R Y=(a2w a b M R Y):=propext ⟨fun z=>by obtain⟨_,_,_,_⟩:=z;walk_at "inj",fun h=>⟨a,b,rfl,h⟩⟩
noncomputable abbrev Y2(q r:Rat)(M:Mem)(R:DK)(Y:DXK):Prop:=(sz q+sz r≤40000∧c7e (q.num*r.num).natAbs ((q.den:Int)*(r.den:Int)).natAbs<2 ^ 9000)∧R (d8 (q*r)) M
noncomputable def a2p:DSp:=fun ds M R Y=>∃(q r:Rat),ds=[d8 q,d8 r]∧Y2 q r M R Y
theorem a4Y{q r:Rat}{M:Mem}{R:DK}{Y:DXK}:a2p [d8 q,d8 r] M R Y=(Y2 q r M R Y):=propext ⟨fun z=>by obtain⟨_,_,_,_⟩:=z;walk_at "inj",fun h=>⟨q,r,rfl,h⟩⟩
noncomputable abbrev a07(q r:Rat)(M:Mem)(R:DK)(Y:DXK):Prop:=(sz q+sz r≤40000∧c7e (q.num*(r.den:Int)+r.num*(q.den:Int)).natAbs ((q.den:Int)*(r.den:Int)).natAbs<2 ^ 9000)∧R (d8 (q+r)) M
noncomputable def a9i:DSp:=fun ds M R Y=>∃(q r:Rat),ds=[d8 q,d8 r]∧a07 q r M R Y
theorem a7k{q r:Rat}{M:Mem}{R:DK}{Y:DXK}:a9i [d8 q,d8 r] M R Y=(a07 q r M R Y):=propext ⟨fun z=>by obtain⟨_,_,_,_⟩:=z;walk_at "inj",fun h=>⟨q,r,rfl,h⟩⟩
noncomputable abbrev a1i(x:D)(M:Mem)(R:DK)(Y:DXK):Prop:=((∃ q:Rat,x=d8 q∧R (.bl true) M) ∨ ∃ n:Int,x = .int n∧R (.bl false) M)
noncomputable def a3E:DSp:=fun ds M R Y=>∃(x:D),ds=[x]∧a1i x M R Y
theorem a7t{x:D}{M:Mem}{R:DK}{Y:DXK}:a3E [x] M R Y=(a1i x M R Y):=propext ⟨fun z=>by obtain⟨_,_,_⟩:=z;walk_at "inj",fun h=>⟨x,rfl,h⟩⟩
noncomputable abbrev X9(x:D)(M:Mem)(R:DK)(Y:DXK):Prop:=((∃ q:Rat,x=d8 q∧R (.bl false) M) ∨ ∃ n:Int,x = .int n∧R (.bl true) M)
noncomputable def a6e:DSp:=fun ds M R Y=>∃(x:D),ds=[x]∧X9 x M R Y
theorem a4W{x:D}{M:Mem}{R:DK}{Y:DXK}:a6e [x] M R Y=(X9 x M R Y):=propext ⟨fun z=>by obtain⟨_,_,_⟩:=z;walk_at "inj",fun h=>⟨x,rfl,h⟩⟩
noncomputable abbrev a04(a b:Int)(q:Rat)(M:Mem)(R:DK)(Y:DXK):Prop:=(0<b∧a.natAbs<2 ^ 20000∧b.natAbs<2 ^ 9000∧sz q≤9000)∧R (.bl (decide (c7g a b=q))) M
noncomputable def a9g:DSp:=fun ds M R Y=>∃(a b:Int) (q:Rat),ds=[.tup [.int a,.int b],d8 q]∧a04 a b q M R Y
theorem a7h{a b:Int}{q:Rat}{M:Mem}{R:DK}{Y:DXK}:a9g [.tup [.int a,.int b],d8 q] M R Y=(a04 a b q M R Y):=propext ⟨fun z=>by obtain⟨_,_,_,_,_⟩:=z;walk_at "inj",fun h=>⟨a,b,q,rfl,h⟩⟩
noncomputable abbrev Y3(t x f:Rat)(M:Mem)(R:DK)(Y:DXK):Prop:=(sz t≤231∧sz x+sz f≤4200)∧∀(T B:Int),0<B→B.natAbs<2 ^ 8402→T.natAbs<2 ^ 17100→(T:Rat)=t.den*(x*x - t*(x*f)+f*f)*B→R (.tup [.int T,.int B]) M
noncomputable def a6j:DSp:=fun ds M R Y=>∃(t x f:Rat),ds=[d8 t,d8 x,d8 f]∧Y3 t x f M R Y
theorem a4Z{t x f:Rat}{M:Mem}{R:DK}{Y:DXK}:a6j [d8 t,d8 x,d8 f] M R Y=(Y3 t x f M R Y):=propext ⟨fun z=>by obtain⟨_,_,_,_,_⟩:=z;walk_at "inj",fun h=>⟨t,x,f,rfl,h⟩⟩
noncomputable abbrev a2s(t x f:Rat)(M:Mem)(R:DK)(Y:DXK):Prop:=(sz t≤231∧-2<t∧t<2∧sz x+sz f≤4200)∧∀(T B:Int),0<B→B.natAbs<2 ^ 8870→T.natAbs<2 ^ 17400→c7g T B=S5 t x f→R (.tup [.int T,.int B]) M
noncomputable def b0L:DSp:=fun ds M R Y=>∃(t x f:Rat),ds=[d8 t,d8 x,d8 f]∧a2s t x f M R Y
theorem a91{t x f:Rat}{M:Mem}{R:DK}{Y:DXK}:b0L [d8 t,d8 x,d8 f] M R Y=(a2s t x f M R Y):=propext ⟨fun z=>by obtain⟨_,_,_,_,_⟩:=z;walk_at "inj",fun h=>⟨t,x,f,rfl,h⟩⟩
structure a4S(l:Rat × Rat × Rat):Prop where
 xf:sz l.1+sz l.2.1≤4200
 x:sz l.1≤3000
 f:sz l.2.1≤3000
 r:sz l.2.2≤3000
 p:0<l.2.2
noncomputable abbrev a03(t:Rat)(x y:D)(N:Nat)(M:Mem)(R:DK)(Y:DXK):Prop:=∃(ls:List (Rat × Rat × Rat)) (ws:List Nat),x = .vl (ls.map p5)∧y = .vl (ws.map fun k:Nat=>D.int (k:Int))∧(sz t≤231∧(ls.length≤40∧ws.length≤40)∧N≤60∧(∀ l∈ls,a4S l)∧∀ k∈ws,k<ls.length)∧R (b0G (a0Z t ls ws N)) M
noncomputable def a9f:DSp:=fun ds M R Y=>∃(t:Rat) (x y:D) (N:Nat),ds=[d8 t,x,y,.int (N:Int)]∧a03 t x y N M R Y
theorem a2L{t:Rat}{x y:D}{N:Nat}{M:Mem}{R:DK}{Y:DXK}:a9f [d8 t,x,y,.int (N:Int)] M R Y=(a03 t x y N M R Y):=propext ⟨fun z=>by obtain⟨_,_,_,_,_,_⟩:=z;walk_at "inj",fun h=>⟨t,x,y,N,rfl,h⟩⟩
inductive En where
 | one (w:Str)
 | int (w:Str) (n:Int)
 | rat (w:Str) (q:Rat)
noncomputable def enD:En→D
 | .one w=>.tup [.str w]
 | .int w n=>.tup [.str w,.int n]
 | .rat w q=>.tup [.str w,d8 q]
noncomputable def N6(m:Q4)(l:Rat × Rat × Rat):En→Prop
 | .one w=>w = "nought" ∧ l.1=0∧l.2.1=0
 | .int w n=>w = "round" ∧ B2 m∧n=(rtN m:Int)∧∀ j,j<rtN m→¬ a0q (trQ m) l j
 | .rat w q=>(w = "reach" ∧ (¬ B2 m∧j3 (trQ m)<2)∧S5 (trQ m) l.1 l.2.1=q∧¬ l.2.2*l.2.2<q)∨(w = "kept" ∧ ¬ 1<j3 q∧q*q+1=trQ m*q∧q*l.1=l.2.1∧¬ l.2.2<j3 l.1)
noncomputable def E9(m:Q4)(l:Rat × Rat × Rat)(e:En):Bool:=@decide (N6 m l e) (c7v _)
theorem W8{m:Q4}{l:Rat × Rat × Rat}{e:En}(h:N6 m l e):E9 m l e=true:=@decide_eq_true _ (c7v _) h
theorem u4{m:Q4}{l:Rat × Rat × Rat}{e:En}(h:¬ N6 m l e):E9 m l e=false:=@decide_eq_false _ (c7v _) h
theorem c0k(q:Rat):c7e (q.num*q.num).natAbs ((q.den:Int)*(q.den:Int)).natAbs<2 ^ 9000:=by
 rw[c6W,← c7t,c6w]
 have h:Nat.Coprime q.num.natAbs q.den:=q.reduced
 have:c7e (q.num.natAbs*q.num.natAbs) (q.den*q.den)=1:=Nat.Coprime.mul_left (Nat.Coprime.mul_right h h) (Nat.Coprime.mul_right h h)
 rw[this];exact c8P (by decide)
theorem b4A{q r:Rat}(hq:sz q≤4000)(hr:sz r≤8990):c7e (q.num*r.num).natAbs ((q.den:Int)*(r.den:Int)).natAbs<2 ^ 9000:=by
 rw[c6W,← c7t,c6w]
 have h1:Nat.Coprime q.num.natAbs q.den:=q.reduced
 have h2:Nat.Coprime r.num.natAbs r.den:=r.reduced
 by_cases z:q.num=0
 ·have qd:q.den=1:=by rw[z]at h1;simpa using h1
  rw[z,qd]
  show c7e (0*_) (1*r.den)<_
  rw[Nat.zero_mul,Nat.gcd_zero_left,Nat.one_mul]
  exact p0 (t9 r hr) (by decide)
 ·have d1:c7e (q.num.natAbs*r.num.natAbs) (q.den*r.den) ∣ c7e (q.num.natAbs*r.num.natAbs) q.den*c7e (q.num.natAbs*r.num.natAbs) r.den:=Nat.gcd_mul_right_dvd_mul_gcd _ _ _
  have e1:c7e (q.num.natAbs*r.num.natAbs) q.den=c7e r.num.natAbs q.den:=Nat.Coprime.gcd_mul_left_cancel _ h1
  have e2:c7e (q.num.natAbs*r.num.natAbs) r.den=c7e q.num.natAbs r.den:=Nat.Coprime.gcd_mul_right_cancel _ h2
  rw[e1,e2]at d1
  have p1:c7e r.num.natAbs q.den≤q.den:=c84 _ q.den_pos
  have p2:c7e q.num.natAbs r.den≤q.num.natAbs:=Nat.gcd_le_left _ (c9j.mpr z)
  have p3:=o9 (t9 q hq) (q9 q hq)
  have p4:0<c7e r.num.natAbs q.den*c7e q.num.natAbs r.den:=c81 (c7W _ q.den_pos) (c7W _ r.den_pos)
  exact p0 (c6O (c6D (c9w p4 d1) (c74 p1 p2)) p3) (by decide)
theorem b7s(q:Rat):c7e (q.num*((1:Rat).den:Int)+(1:Rat).num*(q.den:Int)).natAbs ((q.den:Int)*((1:Rat).den:Int)).natAbs<2 ^ 9000:=by
 have h:Nat.Coprime q.num.natAbs q.den:=q.reduced
 have e1:((1:Rat).den:Int)=1:=rfl
 have e2:(1:Rat).num=1:=rfl
 rw[e1,e2,c9P,c9P,c9m,c6w]
 have:c7e (q.num+(q.den:Int)).natAbs q.den=1:=by
  have g:c9b (q.num+(q.den:Int)) (q.den:Int)=c9b q.num (q.den:Int):=Int.gcd_add_self_left ..
  exact g.trans h
 rw[this];exact c8P (by decide)
theorem c1P{t k:Rat}(h:k*k+1=t*k):sz k≤sz t:=c1Q (by grind)
noncomputable abbrev Y6(x:D)(l:Rat × Rat × Rat)(d:D)(M:Mem)(R:DK)(Y:DXK):Prop:=∃ m,x=K5 m∧(CDQ 230 m∧a1Q m=1∧a4S l)∧((∃ q:Rat,d=d8 q∧R (.bl false) M) ∨ ∃ n:Int,d = .int n∧R (.bl (E9 m l (.int "round" n))) M)
noncomputable def a6o:DSp:=fun ds M R Y=>∃(x:D) (l:Rat × Rat × Rat) (d:D),ds=[x,p5 l,d]∧Y6 x l d M R Y
theorem a42{x:D}{l:Rat × Rat × Rat}{d:D}{M:Mem}{R:DK}{Y:DXK}:a6o [x,p5 l,d] M R Y=(Y6 x l d M R Y):=propext ⟨fun z=>by obtain⟨_,_,_,_,_⟩:=z;walk_at "inj",fun h=>⟨x,l,d,rfl,h⟩⟩
noncomputable abbrev R8(x:D)(l:Rat × Rat × Rat)(d:D)(M:Mem)(R:DK)(Y:DXK):Prop:=∃ m,x=K5 m∧(CDQ 230 m∧a1Q m=1∧a4S l)∧((∃ q:Rat,d=d8 q∧sz q≤8900∧R (.bl (E9 m l (.rat "reach" q))) M) ∨ ∃ n:Int,d = .int n∧R (.bl false) M)
noncomputable def a3y:DSp:=fun ds M R Y=>∃(x:D) (l:Rat × Rat × Rat) (d:D),ds=[x,p5 l,d]∧R8 x l d M R Y
theorem a2N{x:D}{l:Rat × Rat × Rat}{d:D}{M:Mem}{R:DK}{Y:DXK}:a3y [x,p5 l,d] M R Y=(R8 x l d M R Y):=propext ⟨fun z=>by obtain⟨_,_,_,_,_⟩:=z;walk_at "inj",fun h=>⟨x,l,d,rfl,h⟩⟩
noncomputable abbrev a1h(x:D)(l:Rat × Rat × Rat)(d:D)(M:Mem)(R:DK)(Y:DXK):Prop:=∃ m,x=K5 m∧(CDQ 230 m∧a1Q m=1∧a4S l)∧((∃ q:Rat,d=d8 q∧sz q≤8890∧R (.bl (E9 m l (.rat "kept" q))) M) ∨ ∃ n:Int,d = .int n∧R (.bl false) M)
noncomputable def a9o:DSp:=fun ds M R Y=>∃(x:D) (l:Rat × Rat × Rat) (d:D),ds=[x,p5 l,d]∧a1h x l d M R Y
theorem a7s{x:D}{l:Rat × Rat × Rat}{d:D}{M:Mem}{R:DK}{Y:DXK}:a9o [x,p5 l,d] M R Y=(a1h x l d M R Y):=propext ⟨fun z=>by obtain⟨_,_,_,_,_⟩:=z;walk_at "inj",fun h=>⟨x,l,d,rfl,h⟩⟩
noncomputable def a4a:En→Prop
 | .one w=>cl 57 (.str w)=true
 | .int w n=>cl 57 (.str w)=true∧n.natAbs<2 ^ 20
 | .rat w q=>cl 57 (.str w)=true∧sz q≤8890
noncomputable abbrev a1f(x:D)(l:Rat × Rat × Rat)(d:D)(M:Mem)(R:DK)(Y:DXK):Prop:=∃ m,x=K5 m∧(CDQ 230 m∧a1Q m=1∧a4S l)∧∃ e:En,d=enD e∧a4a e∧R (.bl (E9 m l e)) M
noncomputable def a9n:DSp:=fun ds M R Y=>∃(x:D) (l:Rat × Rat × Rat) (d:D),ds=[x,p5 l,d]∧a1f x l d M R Y
theorem a7p{x:D}{l:Rat × Rat × Rat}{d:D}{M:Mem}{R:DK}{Y:DXK}:a9n [x,p5 l,d] M R Y=(a1f x l d M R Y):=propext ⟨fun z=>by obtain⟨_,_,_,_,_⟩:=z;walk_at "inj",fun h=>⟨x,l,d,rfl,h⟩⟩
noncomputable def a6P(L:List (Str × Rat))(y u:Rat)(l:Rat × Rat × Rat):Rat × Rat × Rat:=(l.1*y+l.2.1*u,l.1*(g7 L (y,u)).1+l.2.1*(g7 L (y,u)).2,l.2.2)
noncomputable def A9(near:Rat)(bs:List (Str × Rat))(far:Rat)(y u:Rat):List (Rat × Rat × Rat):=(B8 (e6 near bs far) (e6 near bs far).length).map (a6P (e6 near bs far) y u)
noncomputable def a0N(m:Q4)(ls:List (Rat × Rat × Rat))(es:List En):Bool:=decide (es.length=ls.length) && (ls.zip es).all fun z=>E9 m z.1 z.2
theorem D8.ln{near far:Rat}{bs:List (Str × Rat)}(hw:D8 near bs far){y u:Rat}{S:Nat}(cd:CD S y 0 u 0)(hS:S≤1700){l:Rat × Rat × Rat}(hl:l∈B8 (e6 near bs far) (e6 near bs far).length):a4S (a6P (e6 near bs far) y u l)∧sz l.1≤230∧sz l.2.1≤230:=by
 obtain⟨⟨a1,a2⟩,⟨a3,a4⟩,_,_⟩:=hw.line (y:=0) (u:=0) ((CD.ray2 (k:=1) (l:=1) (by rw[RM.F0];decide) (by rw[RM.F0];decide)).mono (by decide)) hl
 obtain⟨j,px,hj,hpx,el⟩:=P3 _ l hl
 obtain⟨z1,z2⟩:=b3G hw.cd cd j
 have e1:(g7 ((e6 near bs far).take j) (1,0)).1=l.1:=by rw[el]
 have e2:(g7 ((e6 near bs far).take j) (0,1)).1=l.2.1:=by rw[el]
 rw[e1,e2]at z1 z2
 have w1:sz (a6P (e6 near bs far) y u l).1≤231+S:=z1
 have w2:sz (a6P (e6 near bs far) y u l).2.1≤462+S:=z2
 exact⟨⟨by omega,by omega,by omega,a3,a4⟩,a1,a2⟩
theorem a33{near far:Rat}{bs:List (Str × Rat)}(hw:D8 near bs far){y u:Rat}{S:Nat}(cd:CD S y 0 u 0)(hS:S≤1700):∀ l∈A9 near bs far y u,a4S l:=fun l hl=>by
 obtain⟨l0,h0,rfl⟩:=c7k.mp hl
 exact(hw.ln cd hS h0).1
theorem a5K(near far:Rat)(bs:List (Str × Rat))(y u:Rat):(A9 near bs far y u).length≤2*bs.length+2:=by
 have:=K8 (e6 near bs far) (e6 near bs far).length
 have:=P7 near far bs
 unfold A9
 rw[c6x];omega
theorem b1n(near far:Rat)(bs:List (Str × Rat)):(((P2 (y3 near bs far) (y3 near bs far).length).zip (B8 (e6 near bs far) (y3 near bs far).length)).map fun z=>p5 z.2)=(B8 (e6 near bs far) (e6 near bs far).length).map p5:=by
 have h:=X7 (y3 near bs far) (y3 near bs far).length
 rw[S7]at h
 rw[show(fun z:(D × D) × (Rat × Rat × Rat)=>p5 z.2)=p5 ∘ Prod.snd from rfl,← c7w,List.map_snd_zip (by omega),G3]
noncomputable abbrev K0(x:D)(y u:Rat)(z:D)(M:Mem)(R:DK)(Y:DXK):Prop:=∃(L:List (Str × Rat)) (ls:List (Rat × Rat × Rat)),x=K5 (tbQ L)∧z = .vl (ls.map p5)∧(∃ S,CDQ 230 (tbQ L)∧CD S y 0 u 0∧S≤1700∧ls.length≤40∧∀ l∈ls,sz l.1≤230∧sz l.2.1≤230)∧R (.vl ((ls.map (a6P L y u)).map p5)) M
noncomputable def a0M:DSp:=fun ds M R Y=>∃(x:D) (y u:Rat) (z:D),ds=[x,u5 y u,z]∧K0 x y u z M R Y
theorem a0V{x:D}{y u:Rat}{z:D}{M:Mem}{R:DK}{Y:DXK}:a0M [x,u5 y u,z] M R Y=(K0 x y u z M R Y):=propext ⟨fun z=>by obtain⟨_,_,_,_,_,_⟩:=z;walk_at "inj",fun h=>⟨x,y,u,z,rfl,h⟩⟩
noncomputable abbrev a1a(x0:D)(y u:Rat)(x:D)(M:Mem)(R:DK)(Y:DXK):Prop:=∃(near:Rat) (bs:List (Str × Rat)) (far:Rat) (es:List En),x0 = .tup [d8 near,.vl (bs.map f9),d8 far]∧(x = .vl (es.map enD)∨x = .tup (es.map enD))∧((D8 near bs far∧∃ S,CD S y 0 u 0∧S≤1700)∧es.length≤40∧∀ e∈es,a4a e)∧R (.bl (a0N (tbQ (e6 near bs far)) (A9 near bs far y u) es)) M
noncomputable def a9k:DSp:=fun ds M R Y=>∃(x0:D) (y u:Rat) (x:D),ds=[x0,u5 y u,x]∧a1a x0 y u x M R Y
theorem a7n{x0:D}{y u:Rat}{x:D}{M:Mem}{R:DK}{Y:DXK}:a9k [x0,u5 y u,x] M R Y=(a1a x0 y u x M R Y):=propext ⟨fun z=>by obtain⟨_,_,_,_,_,_⟩:=z;walk_at "inj",fun h=>⟨x0,y,u,x,rfl,h⟩⟩
theorem b7u{q r:Rat}(hq:sz q≤8990)(hr:sz r≤4000):c7e (q.num*r.num).natAbs ((q.den:Int)*(r.den:Int)).natAbs<2 ^ 9000:=by
 rw[Int.mul_comm q.num,Int.mul_comm (q.den:Int)];exact b4A hr hq
noncomputable def c0p:En→Prop
 | .rat _ q=>sz q≤100
 | _=>True
noncomputable abbrev a1j(x0:D)(t x f r:Rat)(d:D)(M:Mem)(R:DK)(Y:DXK):Prop:=∃(near:Rat) (bs:List (Str × Rat)) (far:Rat) (e:En),x0 = .tup [d8 near,.vl (bs.map f9),d8 far]∧d=enD e∧(D8 near bs far∧t=trQ (tbQ (e6 near bs far))∧a4S (x,f,r)∧(sz x≤1231∧sz f≤1462)∧a4a e∧(x=0→f=0→c0p e))∧R (.bl (E9 (tbQ (e6 near bs far)) (x,f,r) e)) M
noncomputable def a9p:DSp:=fun ds M R Y=>∃(x0:D) (t x f r:Rat) (d:D),ds=[x0,d8 t,d8 x,d8 f,d8 r,d]∧a1j x0 t x f r d M R Y
theorem a7u{x0:D}{t x f r:Rat}{d:D}{M:Mem}{R:DK}{Y:DXK}:a9p [x0,d8 t,d8 x,d8 f,d8 r,d] M R Y=(a1j x0 t x f r d M R Y):=propext ⟨fun z=>by obtain⟨_,_,_,_,_,_,_,_⟩:=z;walk_at "inj",fun h=>⟨x0,t,x,f,r,d,rfl,h⟩⟩
noncomputable abbrev a08(x0:D)(y u:Rat)(d:D)(M:Mem)(R:DK)(Y:DXK):Prop:=∃(near:Rat) (bs:List (Str × Rat)) (far:Rat) (es:List En),x0 = .tup [d8 near,.vl (bs.map f9),d8 far]∧d = .vl (es.map enD)∧((D8 near bs far∧CD 1000 y 0 u 0)∧es.length≤40∧(∀ e∈es,a4a e)∧(es.length=(A9 near bs far y u).length→∀ z∈(A9 near bs far y u).zip es,z.1.1=0→z.1.2.1=0→c0p z.2))∧R (.bl (a0N (tbQ (e6 near bs far)) (A9 near bs far y u) es)) M
noncomputable def a9j:DSp:=fun ds M R Y=>∃(x0:D) (y u:Rat) (d:D),ds=[x0,u5 y u,d]∧a08 x0 y u d M R Y
theorem a7l{x0:D}{y u:Rat}{d:D}{M:Mem}{R:DK}{Y:DXK}:a9j [x0,u5 y u,d] M R Y=(a08 x0 y u d M R Y):=propext ⟨fun z=>by obtain⟨_,_,_,_,_,_⟩:=z;walk_at "inj",fun h=>⟨x0,y,u,d,rfl,h⟩⟩
noncomputable abbrev S0(near:Rat)(bs:List (Str × Rat))(far:Rat)(y u:Rat)(M:Mem)(R:DK)(Y:DXK):Prop:=(D8 near bs far∧CD 1000 y 0 u 0)∧R (.vl ((A9 near bs far y u).map p5)) M
noncomputable def a1d:DSp:=fun ds M R Y=>∃(near:Rat) (bs:List (Str × Rat)) (far:Rat) (y u:Rat),ds=[.tup [d8 near,.vl (bs.map f9),d8 far],u5 y u]∧S0 near bs far y u M R Y
theorem a2Q{near:Rat}{bs:List (Str × Rat)}{far:Rat}{y u:Rat}{M:Mem}{R:DK}{Y:DXK}:a1d [.tup [d8 near,.vl (bs.map f9),d8 far],u5 y u] M R Y=(S0 near bs far y u M R Y):=propext ⟨fun z=>by obtain⟨_,_,_,_,_,_,_⟩:=z;walk_at "inj",fun h=>⟨near,bs,far,y,u,rfl,h⟩⟩
noncomputable abbrev a1b(t x f r:Rat)(N:Nat)(M:Mem)(R:DK)(Y:DXK):Prop:=(sz t≤231∧a4S (x,f,r)∧N≤100)∧R (c3b (W7 t (x,f,r) N)) M
noncomputable def a9l:DSp:=fun ds M R Y=>∃(t x f r:Rat) (N:Nat),ds=[d8 t,d8 x,d8 f,d8 r,.int (N:Int)]∧a1b t x f r N M R Y
theorem a2O{t x f r:Rat}{N:Nat}{M:Mem}{R:DK}{Y:DXK}:a9l [d8 t,d8 x,d8 f,d8 r,.int (N:Int)] M R Y=(a1b t x f r N M R Y):=propext ⟨fun z=>by obtain⟨_,_,_,_,_,_,_⟩:=z;walk_at "inj",fun h=>⟨t,x,f,r,N,rfl,h⟩⟩
end GM
namespace DL
open PySem PySem.Spec L2
theorem b2c{e0:Ev}{g:DTG}{te:DTE}{ds:List D}{stay:Mem→Prop}{M1:Mem}{E:List D→Mem→Prop}{β:Type}(out:β→D)(Rl:Nat→β→Prop)(St:Mem→Mem→Prop)(hn:ds.length≤1000)(hst:∀ M,St M1 M→stay M)(s0:St M1 M1)
  (step:∀ i d,ds[i]? = some d→∀ M,St M1 M→∀ Q:DK,(∀ b M',Rl i b→St M1 M'→Q (out b) M')→g d e0 M fun e2 M2=>te e2 M2 Q) (h:∀(bs:List β) M,bs.length=ds.length→(∀ i b,bs[i]? = some b→Rl i b)→St M1 M→E (bs.map out) M):∃ W,a4b e0 g b4T te ds stay M1 E W:=by
 refine⟨fun i ys M=>St M1 M∧∃ bs:List β,bs.length=i∧(∀ j b,bs[j]? = some b→Rl j b)∧ys=bs.map out,⟨⟨s0,[],rfl,(fun j b z=>by simp at z),rfl⟩,fun i ys M _ w=>hst M w.1,fun i d ys M hd w=>?_,fun ys M w=>?_⟩⟩
 ·obtain⟨sM,bs,hl,hok,rfl⟩:=w
  have hi:i<ds.length:=(c6F.mp hd).1
  refine step i d hd M sM _ fun b M' hb sM'=>⟨?_,sM',bs++[b],by simp[hl],fun j c hc=>?_,by simp⟩
  ·rw[c6x,hl];exact c6A (c6A hi hn) (show 1000≤sizeLine by decide)
  ·rcases c8h j bs.length with z|z
   ·rw[c8b z]at hc;exact hok j c hc
   ·rw[c77 z]at hc
    have hj:j - bs.length=0:=by
     have:=(c6F.mp hc).1
     simp at this;omega
    rw[hj]at hc
    have e:b=c:=by simpa using hc
    have ej:j=i:=by omega
    rw[ej,← e];exact hb
 ·obtain⟨sM,bs,hl,hok,rfl⟩:=w
  exact h bs M hl hok sM
end DL
namespace GM
open PySem PySem.Spec L2 DL
open RM (sz)
noncomputable def enB(b c:Nat):En→Prop
 | .one w=>cl 57 (.str w)=true
 | .int w n=>cl 57 (.str w)=true∧n.natAbs<2 ^ c
 | .rat w q=>cl 57 (.str w)=true∧sz q≤b
structure OdL(p:Addr)(M M1:Mem)(l:Addr)(xs:List En):Prop where
 st:p6 p M M1
 at':M1 l=some (.lst (xs.map enD))
 fr:M l=none
 ne:l≠p
theorem a0e{p l:Addr}{M0 M:Mem}(st:p6 p M0 M)(h:M l=none):M0 l=none∧l≠p:=by
 have hn:=st.pool.ne h
 refine⟨?_,hn⟩
 cases e:M0 l with
 | none=>rfl
 | some o=>rw[st.keep l o hn e]at h;cases h
theorem OdL.step{p l:Addr}{M M1 M2:Mem}{xs:List En}(h:OdL p M M1 l xs)(s:p6 p M1 M2):OdL p M M2 l xs:=⟨h.st.trans s,s.keep _ _ h.ne h.at',h.fr,h.ne⟩
theorem OdL.cat{p l:Addr}{M M1:Mem}{xs:List En}(h:OdL p M M1 l xs)(ys:List En){R:DK}(n:xs.length+ys.length≤1000)(k:∀ l2 M2,OdL p M M2 l2 (xs++ys)→R (.ref l2) M2):b8C (.ref l) (.vl (ys.map enD)) M1 R:=by
 refine⟨_,_,a32 h.at',rfl,c6D (by rw[c6x,c6x];exact n) (show 1000≤sizeLine by decide),fun l2 hl2=>?_⟩
 obtain⟨f2,n2⟩:=a0e h.st hl2
 rw[← c6P]
 exact k l2 _ ⟨h.st.put f2 n2,g6,f2,n2⟩
theorem OdL.app{p l:Addr}{M M1:Mem}{xs:List En}(h:OdL p M M1 l xs)(y:En){R:DK}(n:xs.length<1000)(k:∀ M2,OdL p M M2 l (xs++[y])→R .non M2):a6X (.ref l) [enD y] M1 R:=by
 refine T7 h.at' (by rw[c6x];exact n) ?_
 rw[show xs.map enD++[enD y]=(xs++[y]).map enD by rw[c6P];rfl]
 exact k _ ⟨h.st.put h.fr h.ne,g6,h.fr,h.ne⟩
theorem enB.mono{b c b' c':Nat}(h:b≤b')(h':c≤c'):∀{e:En},enB b c e→enB b' c' e
 | .one _,he=>he
 | .int _ _,he=>⟨he.1,p0 he.2 h'⟩
 | .rat _ _,he=>⟨he.1,c6D he.2 h⟩
theorem b4J(w:Str):enD (.one w) = .tup [.str w]:=rfl
theorem b4K(w:Str)(n:Int):enD (.int w n) = .tup [.str w,.int n]:=rfl
theorem b4I(w:Str)(q:Rat):enD (.rat w q) = .tup [.str w,d8 q]:=rfl
local macro_rules|`(tactic| walk_at "inj")=>`(tactic| (rename_i e h;simp only[List.cons.injEq,and_true,true_and,GM.j8,GM.j5,GM.i6,GM.j6,GM.i7,D.tup.injEq,D.ref.injEq,D.int.injEq,D.str.injEq,D.bl.injEq,D.vl.injEq,c6V,and_assoc]at e;(repeat(obtain⟨e1,e⟩:=e;subst e1));subst e;exact h))
local macro_rules|`(tactic| walk_at "injs")=>`(tactic| (rename_i e o h;rcases o with o|o<;>(subst o;first|(exfalso;simp only[D.tup.injEq,List.cons.injEq,reduceCtorEq,false_and,and_false]at e;done)|(simp only[List.cons.injEq,and_true,true_and,GM.j8,GM.j5,GM.i6,GM.j6,GM.i7,D.tup.injEq,D.ref.injEq,D.int.injEq,D.str.injEq,D.bl.injEq,D.vl.injEq,c6V,and_assoc]at e;(repeat(obtain⟨e1,e⟩:=e;subst e1));subst e;exact h))))
noncomputable abbrev S2(near:Rat)(bs:List (Str × Rat))(far:Rat)(t x f:Rat)(M:Mem)(R:DK)(Y:DXK):Prop:=(D8 near bs far∧t=trQ (tbQ (e6 near bs far))∧(sz x≤1231∧sz f≤1462))∧∀ e:En,enB 8800 9 e→(x=0→f=0→enB 1 9 e)→R (enD e) M
noncomputable def a3A:DSp:=fun ds M R Y=>∃(near:Rat) (bs:List (Str × Rat)) (far:Rat) (t x f:Rat),ds=[.tup [d8 near,.vl (bs.map f9),d8 far],d8 t,d8 x,d8 f]∧S2 near bs far t x f M R Y
theorem a2S{near:Rat}{bs:List (Str × Rat)}{far:Rat}{t x f:Rat}{M:Mem}{R:DK}{Y:DXK}:a3A [.tup [d8 near,.vl (bs.map f9),d8 far],d8 t,d8 x,d8 f] M R Y=(S2 near bs far t x f M R Y):=propext ⟨fun z=>by obtain⟨_,_,_,_,_,_,_,_⟩:=z;walk_at "inj",fun h=>⟨near,bs,far,t,x,f,rfl,h⟩⟩
noncomputable abbrev a6q(p:Addr)(d d2:D)(M:Mem)(R:DK)(Y:DXK):Prop:=B5 M p∧∃(e:En) (es:List En) (b:Nat),d=enD e∧d2 = .vl (es.map enD)∧(b≤8800∧enB b 9 e∧(∀ x∈es,enB b 9 x)∧es.length≤10)∧∀(e':En) M',enB (b+60) 10 e'→p6 p M M'→R (enD e') M'
noncomputable def b9r:DSp:=fun ds M R Y=>∃(p:Addr) (d d2:D),ds=[.ref p,d,d2]∧a6q p d d2 M R Y
theorem b2o{p:Addr}{d d2:D}{M:Mem}{R:DK}{Y:DXK}:b9r [.ref p,d,d2] M R Y=(a6q p d d2 M R Y):=propext ⟨fun z=>by obtain⟨_,_,_,_,_⟩:=z;walk_at "inj",fun h=>⟨p,d,d2,rfl,h⟩⟩
theorem c1Z{l:Addr}{xs:List D}{lo hi:Option Int}{M:Mem}{R:DK}(h:M l=some (.lst xs))(r:R (.vl (U0 xs lo hi)) M):b4C (.ref l) lo hi M R:=.inl ⟨xs,by simp only[G2,h],r⟩
noncomputable abbrev Y4(p:Addr)(d d2:D)(M:Mem)(R:DK)(Y:DXK):Prop:=B5 M p∧∃(es:List En) (fs:List (List En)) (bi:Nat→Nat),d = .vl (es.map enD)∧d2 = .vl (fs.map fun f=>D.vl (f.map enD))∧(es.length≤30∧fs.length=es.length∧(∀ i,bi i≤8800)∧(∀ i e,es[i]? = some e→enB (bi i) 9 e)∧∀ i f,fs[i]? = some f→f.length≤10∧∀ x∈f,enB (bi i) 9 x)∧∀(es':List En) M',(es'.length≤31∧(∀ e∈es',enB 8860 10 e)∧(es'.length=es.length→∀ i e,es'[i]? = some e→enB (bi i+60) 10 e))→p6 p M M'→R (.vl (es'.map enD)) M'
noncomputable def a6k:DSp:=fun ds M R Y=>∃(p:Addr) (d d2:D),ds=[.ref p,d,d2]∧Y4 p d d2 M R Y
theorem a40{p:Addr}{d d2:D}{M:Mem}{R:DK}{Y:DXK}:a6k [.ref p,d,d2] M R Y=(Y4 p d d2 M R Y):=propext ⟨fun z=>by obtain⟨_,_,_,_,_⟩:=z;walk_at "inj",fun h=>⟨p,d,d2,rfl,h⟩⟩
end GM
namespace K41
open PySem PySem.Spec L2 DL GM
open RM (sz)
open PyProof.Rows hiding St
local macro_rules|`(tactic| walk_at "sim")=>do
 let f:=fun(b:Bool) (p:String) (s:String)=>((s.splitOn " ").mapM (fun s=>(let i:=Lean.mkIdent (p++s).toName;if b then `(Lean.Parser.Tactic.simpLemma| ↓$i:ident)else `(Lean.Parser.Tactic.simpLemma| $i:ident))):Lean.MacroM _)
 let a := "z_C c1c c1a c08 c09 c07 c06 c05 b2L b8s b8u c1b b8g b3b b2S c1e b8l b8h b2Y b8b b8j b3a c1f b2T b8d b2X b8e b0t b0h b2K b0i a3d a7y b8t b8f b2R b8v b8i b8k b8n b8m b2U b2Z b8c a7H b2Q b0s b0u a7B a5t a7x a7C b0g b2P a7z a7A a7E a7G b0z b0r b2J b0f b8o b8q b0x b0y b8a b0k b2N b2M a7F b0w b0v b0j b0p b0m b0o b0n b0l b2O a7D b0q b8p b8r b2V b2W c1d b3c a1W a21 a5i a22 a5h a1V a2Z a5g a20 a5f a1Z a27 a5o a28 a5n a1Y a25 a5m a26 a5l a1X a23 a5k a24 a5j a11 a3b a5s a3c a5r a10 a29 a5q a3a a5p c0U c0T c0S c0R c0Q c0P c0O c0N c0M c0L b7P b7O b7N b7M b7L c04 c03 c02 c01 c00 c0Z c0Y c0X c0W c0V b79 b78 b77 b76 b75 a2Y a2X a8V b2I b2H b2G b2F b2E b2D b2C b2B b2A b2z b2y b2x b2w b7Z b7Y b7X b7W b7V b7U b7T b7S b7R b7Q"
 let b := "a7w a5e a97 b2v b2u b2t b2s b0a a99 a98 b0b b0e b0d b0c a7v a5d b2r a7u a2W a0V a5c a5b a2V a5a a96 a2U a0U a7t a7s a7r a2T b74 b2q a95 a7q a7p a49 a94 a7o a2S a2R a2Q a2P a48 b2p a47 a2O a7n a46 a7m b2o a7l a45 a7k a93 a7j a92 a91 a44 a1U a2N a7i a2M a90 a43 a42 b2n a7h a41 b2m a40 a2L a4Z b2l a9Z a7g a4Y b2k a7f a2K a4X a4W a9Y a1T a1S a7e a9X a4V a7d a9W a7c a7b a7a a69 a4U a4T Z5 a1k a6x a1j S4 K0 Z4 Z3 S3 Z2 L4 a2y a1i a1h W1 b0N a2x a6v a1g a1f Z1 a2w a1e S2 S1 S0 R9 Z0 a6t Y9 a1b a1a Y8 a09 a6q a08 Y7 a07 a06 a2u a2t a2s P4 R8 V8 a05 Y6 a6n a04 Y5 a6l Y4 a03 Y3 a6i a2q a02 Y2 a6h V7 Y1 X9"
 let xs:=((← f true "DL." a)++(← f true "GM." b)++(← f false "GM." b)++(← f false "DL." a)++(← f false "" "DL.b6f DL.b5Z DL.b5P DL.b5J DL.b6g DL.b6a DL.b5Q DL.b5K DL.b6h DL.b6b DL.b5R DL.b5L DL.b6i DL.b6c DL.b5S DL.b5M DL.b6j DL.b6d DL.b5T DL.b5N DL.b6k DL.b6e DL.b5U DL.b5O DL.b5x DL.b5D DL.b5y DL.b5E DL.b5z DL.b5F DL.b5A DL.b5G DL.b5B DL.b5H DL.b5C DL.b5I GM.b5V GM.b5W GM.b5X GM.b5Y DL.b9e DL.b9d DL.b9c DL.b9b DL.b9a DL.b89 DL.b88 DL.b87 DL.b86 DL.b5w DL.b5v DL.b5u Nat.reduceAdd Nat.reduceLT Nat.reduceLeDiff Nat.zero_add Int.reduceLT Int.reduceLE Int.reduceEq eq_self decide_true decide_false D.int.injEq D.str.injEq beq_self_eq_true and_self true_and and_true not_true_eq_false not_false_eq_true false_implies true_implies forall_const a0Q c7C c8g List.cons_append List.nil_append c7G c7f c7o c7b a4L List.getElem?_cons_zero List.getElem?_cons_succ Option.getD_some decide_eq_true_eq decide_eq_false_iff_not c9D Bool.not_eq_false' Bool.and_self c8Z Bool.and_true Bool.xor_false Bool.false_xor Bool.true_xor Bool.not_true Bool.not_false c7J Bool.true_eq_false reduceIte GM.r0 GM.r1 GM.r2 GM.r4 GM.rm1 GM.rm2 GM.j8 GM.b9x GM.c1v GM.c1u GM.b9w")).toArray
 `(tactic| try simp only[$xs,*])
local macro_rules|`(tactic| walk_at "len")=>`(tactic| (intro ds M R Y h;repeat(first|exact congrArg c9k h.1|(obtain⟨_,h⟩:=h))))
local macro_rules|`(tactic| walk_at "size")=>`(tactic| first|omega|grind only[RM.u3,RM.U4,RM.G9,RM.I0,RM.K6,RM.F0,GM.a5V])
local macro_rules|`(tactic| walk_at "sc")=>`(tactic| exact⟨rfl,rfl,rfl,by decide +kernel,rfl,by decide +kernel,by decide +kernel⟩)
noncomputable def top(i:Nat):Stmt:=PySem.Challenge.pw_roundglass_k41_papers_of_never_judged.main.body.getD i (.Pass ⟨0,0,0,0⟩)
noncomputable abbrev V5:Stmt:=top 64
noncomputable abbrev a1F:Stmt:=top 7
noncomputable abbrev Q3:Stmt:=top 6
noncomputable abbrev a2o:Stmt:=top 9
noncomputable abbrev a9c:Stmt:=top 15
noncomputable abbrev a6b:Stmt:=top 12
noncomputable abbrev a0H:Stmt:=top 10
noncomputable abbrev a6c:Stmt:=top 13
noncomputable abbrev a0L:Stmt:=top 90
noncomputable abbrev O5:Stmt:=top 91
noncomputable abbrev a2n:Stmt:=top 14
noncomputable abbrev U9:Stmt:=top 44
noncomputable abbrev b3y:Stmt:=top 26
noncomputable abbrev V1:Stmt:=top 52
noncomputable abbrev a6d:Stmt:=top 18
noncomputable abbrev a0D:Stmt:=top 11
noncomputable abbrev a89:Stmt:=top 37
noncomputable abbrev a0J:Stmt:=top 8
noncomputable abbrev Q2:Stmt:=top 59
noncomputable abbrev a9a:Stmt:=top 19
noncomputable abbrev U6:Stmt:=top 17
noncomputable abbrev J3:Stmt:=top 16
noncomputable abbrev a59:Stmt:=top 45
noncomputable abbrev a0G:Stmt:=top 46
noncomputable abbrev F6:Stmt:=top 38
noncomputable abbrev V0:Stmt:=top 39
noncomputable abbrev O1:Stmt:=top 58
noncomputable abbrev Q0:Stmt:=top 54
noncomputable abbrev O4:Stmt:=top 53
noncomputable abbrev N8:Stmt:=top 55
noncomputable abbrev N9:Stmt:=top 57
noncomputable abbrev Q1:Stmt:=top 60
noncomputable abbrev Q7:Stmt:=top 27
noncomputable abbrev O3:Stmt:=top 29
noncomputable abbrev a0E:Stmt:=top 30
noncomputable abbrev L0:Stmt:=top 31
noncomputable abbrev O0:Stmt:=top 35
noncomputable abbrev a0F:Stmt:=top 36
noncomputable abbrev a0I:Stmt:=top 49
noncomputable abbrev Q5:Stmt:=top 51
noncomputable abbrev O2:Stmt:=top 61
noncomputable abbrev O8:Stmt:=top 81
noncomputable abbrev R1:Stmt:=top 86
noncomputable abbrev R3:Stmt:=top 71
noncomputable abbrev V4:Stmt:=top 70
noncomputable abbrev R0:Stmt:=top 72
noncomputable abbrev V2:Stmt:=top 84
noncomputable abbrev L1:Stmt:=top 85
noncomputable abbrev R4:Stmt:=top 82
noncomputable abbrev E5:Stmt:=top 87
noncomputable abbrev a3v:Stmt:=top 79
noncomputable abbrev R5:Stmt:=top 78
noncomputable abbrev L3:Stmt:=top 80
noncomputable abbrev E4:Stmt:=top 88
noncomputable abbrev R6:Stmt:=top 89
noncomputable abbrev F2:Stmt:=top 76
noncomputable abbrev a6a:Stmt:=top 47
noncomputable abbrev Q6:Stmt:=top 20
noncomputable abbrev a9b:Stmt:=top 21
noncomputable abbrev U7:Stmt:=top 42
noncomputable abbrev U8:Stmt:=top 41
noncomputable abbrev a1E:Stmt:=top 40
noncomputable abbrev a9d:Stmt:=top 43
noncomputable abbrev Q8:Stmt:=top 77
noncomputable abbrev O6:Stmt:=top 73
noncomputable abbrev R7:Stmt:=top 74
noncomputable abbrev J9:Stmt:=top 65
noncomputable abbrev a0K:Stmt:=top 75
noncomputable abbrev Q9:Stmt:=top 67
noncomputable abbrev O7:Stmt:=top 66
noncomputable abbrev F3:Stmt:=top 68
noncomputable abbrev V6:Stmt:=top 69
noncomputable abbrev V3:Stmt:=top 63
noncomputable abbrev b3z:Stmt:=top 92
theorem a57:f8 ["pool","base","digit","near","stir"] ["pool","base"] (e8 V5):=by walk_at "sc"
theorem a88:f8 ["one","other"] ["one","other"] (e8 a1F):=by walk_at "sc"
theorem a16:f8 ["thing"] ["thing"] (e8 Q3):=by walk_at "sc"
theorem a7V:f8 ["top","bottom","share"] ["top","bottom"] (e8 a2o):=by walk_at "sc"
theorem b6u:f8 ["one","other"] ["one","other"] (e8 a9c):=by walk_at "sc"
theorem b0J:f8 ["one","other"] ["one","other"] (e8 a6b):=by walk_at "sc"
theorem a7W:f8 ["one"] ["one"] (e8 a0H):=by walk_at "sc"
theorem b3x:f8 ["one","other"] ["one","other"] (e8 a6c):=by walk_at "sc"
theorem a70:f8 ["pool","entry","further_ones","word","some","nudged"] ["pool","entry","further_ones"] (e8 a0L):=by walk_at "sc"
theorem a3r:f8 ["pool","paper","others","found","way_drawn","at"] ["pool","paper","others"] (e8 O5):=by walk_at "sc"
theorem a7R:f8 ["one","other"] ["one","other"] (e8 a2n):=by walk_at "sc"
theorem a51:f8 ["p","q","ray"] ["p","q","ray"] (e8 U9):=by walk_at "sc"
theorem b9o:f8 ["table","ray","a","b","c","d","y","u"] ["table","ray"] (e8 b3y):=by walk_at "sc"
theorem a53:f8 ["table","ray","lines","later"] ["table","ray","lines"] (e8 V1):=by walk_at "sc"
theorem b0K:f8 ["one","other"] ["one","other"] (e8 a6d):=by walk_at "sc"
theorem a7Q:f8 ["one"] ["one"] (e8 a0D):=by walk_at "sc"
theorem b6r:f8 ["table"] ["table"] (e8 a89):=by walk_at "sc"
theorem a7Y:f8 ["thing","top","bottom"] ["thing"] (e8 a0J):=by walk_at "sc"
theorem a4h:f8 ["table","numbers","k","x","later","r"] ["table","numbers","k"] (e8 Q2):=by walk_at "sc"
theorem b6s:f8 ["one","other"] ["one","other"] (e8 a9a):=by walk_at "sc"
theorem a5Y:f8 ["ratios","bottom"] ["ratios","bottom"] (e8 U6):=by walk_at "sc"
theorem a1D:f8 ["ratios","bottom","one"] ["ratios"] (e8 J3):=by walk_at "sc"
theorem b3v:f8 ["t","x","later","bottom","one","other"] ["t","x","later"] (e8 a59):=by walk_at "sc"
theorem a7U:f8 ["t","x","later","top","bottom"] ["t","x","later"] (e8 a0G):=by walk_at "sc"
theorem a01:f8 ["table","t"] ["table"] (e8 F6):=by walk_at "sc"
theorem a52:f8 ["table","size"] ["table"] (e8 V0):=by walk_at "sc"
theorem a3n:f8 ["table","numbers","s","x","later","r"] ["table","numbers","s"] (e8 O1):=by walk_at "sc"
theorem a4f:f8 ["t","state","now","then","bound"] ["t","state"] (e8 Q0):=by walk_at "sc"
theorem a3q:f8 ["t","x","later","r","ratios","now","then","bound"] ["t","x","later","r"] (e8 O4):=by walk_at "sc"
theorem a3k:f8 ["t","numbers","watched","rounds","states","passed","k","state"] ["t","numbers","watched","rounds"] (e8 N8):=by walk_at "sc"
theorem a3l:f8 ["table","numbers","n"] ["table","numbers","n"] (e8 N9):=by walk_at "sc"
theorem a4g:f8 ["table","numbers","shown","word","told"] ["table","numbers","shown"] (e8 Q1):=by walk_at "sc"
theorem a4k:f8 ["first","second"] ["first","second"] (e8 Q7):=by walk_at "sc"
theorem a3p:f8 ["part","ray","word","number","y","u"] ["part","ray"] (e8 O3):=by walk_at "sc"
theorem a7S:f8 ["bench","first","second","part"] ["bench"] (e8 a0E):=by walk_at "sc"
theorem a2d:f8 ["bench"] ["bench"] (e8 L0):=by walk_at "sc"
theorem a3m:f8 ["hall","near","bench","far"] ["hall"] (e8 O0):=by walk_at "sc"
theorem a7T:f8 ["hall"] ["hall"] (e8 a0F):=by walk_at "sc"
theorem a7X:f8 ["bench","lines","level","axis","part"] ["bench"] (e8 a0I):=by walk_at "sc"
theorem a4i:f8 ["hall","forth","back","lines"] ["hall"] (e8 Q5):=by walk_at "sc"
theorem a3o:f8 ["hall","ray","paper","lines","table"] ["hall","ray","paper"] (e8 O2):=by walk_at "sc"
theorem a3u:f8 ["x","r"] ["x","r"] (e8 O8):=by walk_at "sc"
theorem a4o:f8 ["t","x","further","top"] ["t","x","further"] (e8 R1):=by walk_at "sc"
theorem a4p:f8 ["hall","found"] ["hall"] (e8 R3):=by walk_at "sc"
theorem a56:f8 ["part","ray","word","number"] ["part","ray"] (e8 V4):=by walk_at "sc"
theorem a4n:f8 ["hall","ray","word","number","part"] ["hall","ray"] (e8 R0):=by walk_at "sc"
theorem a54:f8 ["hall","rays","here","n"] ["hall"] (e8 V2):=by walk_at "sc"
theorem a2e:f8 ["hall","t"] ["hall","t"] (e8 L1):=by walk_at "sc"
theorem a4q:f8 ["t","x","further","r","rounds","bottom","now","then","turn"] ["t","x","further","r","rounds"] (e8 R4):=by walk_at "sc"
theorem a0k:f8 ["hall","t","x","further","r","entry","k"] ["hall","t","x","further","r","entry"] (e8 E5):=by walk_at "sc"
theorem b1C:f8 ["hall","first","second"] ["hall"] (e8 a3v):=by walk_at "sc"
theorem a4r:f8 ["hall","first","second","found","word","number","part"] ["hall"] (e8 R5):=by walk_at "sc"
theorem a2f:f8 ["hall","ray","later","found","word","number","p","q","r","x"] ["hall","ray"] (e8 L3):=by walk_at "sc"
theorem a0j:f8 ["hall","ray","paper","numbers","t","entry","x","further","r"] ["hall","ray","paper"] (e8 E4):=by walk_at "sc"
theorem a4s:f8 ["hall","t","x","further","n"] ["hall","t","x","further"] (e8 R6):=by walk_at "sc"
theorem a0B:f8 ["number","low","high","mid"] ["number"] (e8 F2):=by walk_at "sc"
theorem b3w:f8 ["hall","ray","p","q","table","top","bottom"] ["hall","ray","p","q"] (e8 a6a):=by walk_at "sc"
theorem a4j:f8 ["number","guess","step","better"] ["number"] (e8 Q6):=by walk_at "sc"
theorem b6t:f8 ["one","top","bottom"] ["one"] (e8 a9b):=by walk_at "sc"
theorem a5Z:f8 ["t","apart"] ["t"] (e8 U7):=by walk_at "sc"
theorem a50:f8 ["table","a","b","c","d"] ["table"] (e8 U8):=by walk_at "sc"
theorem a87:f8 ["table","a","b","c","d"] ["table"] (e8 a1E):=by walk_at "sc"
theorem b6v:f8 ["hall","table","word"] ["hall"] (e8 a9d):=by walk_at "sc"
theorem a4l:f8 ["pool","hall","ray","stops","at","farthest","word","number","p","q","r","scale","low","some"] ["pool","hall","ray"] (e8 Q8):=by walk_at "sc"
theorem a3s:f8 ["ray","factor"] ["ray","factor"] (e8 O6):=by walk_at "sc"
theorem a4t:f8 ["hall","other","a","b","c","d","told","k","found"] ["hall","other"] (e8 R7):=by walk_at "sc"
theorem a0t:f8 ["pool","tops","bottoms"] ["pool","tops","bottoms"] (e8 J9):=by walk_at "sc"
theorem a7Z:f8 ["pool","hall","way_drawn","ray","factor","along","little"] ["pool","hall"] (e8 a0K):=by walk_at "sc"
theorem a4m:f8 ["pool","parts","count","found","k","r"] ["pool","parts","count"] (e8 Q9):=by walk_at "sc"
theorem a3t:f8 ["pool","gap","count","found","k","piece"] ["pool","gap"] (e8 O7):=by walk_at "sc"
theorem a0C:f8 ["pool","pairs","near","far","bottoms","halves","gap","parts","first"] ["pool"] (e8 F3):=by walk_at "sc"
theorem a58:f8 ["pool","way_drawn","power_drawn","parts","k"] ["pool"] (e8 V6):=by walk_at "sc"
theorem a55:f8 ["cell"] ["cell"] (e8 V3):=by walk_at "sc"
theorem b9p:f8 ["script","cell","pool","hall","ray","stood","t","paper","others","some","due","kept","handed","found"] ["script"] (e8 b3z):=by walk_at "sc"
structure Txt(K:c6v)(mg:Str→Option Value):Prop where
 b_abs:mg "abs" = none
 b_all:mg "all" = none
 b_bool:mg "bool" = none
 b_enumerate:mg "enumerate" = none
 b_int:mg "int" = none
 b_isinstance:mg "isinstance" = none
 b_len:mg "len" = none
 b_list:mg "list" = none
 b_max:mg "max" = none
 b_range:mg "range" = none
 b_reversed:mg "reversed" = none
 b_tuple:mg "tuple" = none
 b_zip:mg "zip" = none
 sub:b5l K
 c_AXIS_RAY:GlD K mg "AXIS_RAY" (.tup [(.tup [(.int 0),(.int 1)]),(.tup [(.int 1),(.int 1)])])
 c_FOUR:GlD K mg "FOUR" (.tup [(.int 4),(.int 1)])
 c_LEVEL_RAY:GlD K mg "LEVEL_RAY" (.tup [(.tup [(.int 1),(.int 1)]),(.tup [(.int 0),(.int 1)])])
 c_NOUGHT:GlD K mg "NOUGHT" (.tup [(.int 0),(.int 1)])
 c_ONE:GlD K mg "ONE" (.tup [(.int 1),(.int 1)])
 c_SELF:GlD K mg "SELF" (.tup [(.tup [(.int 1),(.int 1)]),(.tup [(.int 0),(.int 1)]),(.tup [(.int 0),(.int 1)]),(.tup [(.int 1),(.int 1)])])
 c_TWO:GlD K mg "TWO" (.tup [(.int 2),(.int 1)])
section
variable {P:Program} {w:World} {K:c6v} {mg:Str→Option Value} {base:Heap}
theorem a6N(T:Txt K mg)(d:Df K mg "_law_next" V5 ["pool","base"]):Fn P w K mg base "_law_next" 1 ["pool","base"] J2:=by
 have sc:=a57
 refine h7 d sc (fun ds M R Y h=>?_) (fun f cdv A outer s H E ds M R Y hr h=>?_)
 ·obtain⟨p,b,rfl,_⟩:=h;rfl
 ·obtain⟨p,b,rfl,⟨x,y,z,hM⟩,hb,hl,k⟩:=h
  refine⟨_,(d4 (f6 (jtm a2j (jx (a8 0) d3) d3) (d4 (jst 2 sc.nd (f7 a3V (jx (a8 0) d3) (a8 1))) (d4 (p8 (f7 E6 (jx (a8 0) d3) (a8 1)) (a6T (a8 0) d3)) (d5 (d6 (a8 2))))) e9) (d4 (p8 (f7 D9 (jx (a8 0) d3) d3) (a6T (a8 0) d3)) (d4 (jst 3 sc.nd (f7 a3V (f7 D9 (jx (a8 0) d3) (f7 i8 d3 (jx (a8 0) d3))) d3)) (d4 (jst 4 sc.nd (f7 a3V (f7 i8 (f7 D9 (a8 3) d3) (f7 D9 (a8 3) d3)) d3)) (d5 (d6 (f7 a3V (f7 E6 (f7 a3V (f7 i8 (a8 4) (a8 4)) d3) d3) (a8 1)))))))),?_⟩
  refine⟨_,rfl,_,N3 hM rfl,_,rfl,_,rfl,?_⟩
  refine b1R (fun h0=>?_) (fun h0=>?_)
  ·refine⟨_,rfl,_,N3 hM rfl,_,rfl,_,_,rfl,rfl,hb,?_⟩
   refine⟨_,rfl,_,N3 hM rfl,_,rfl,_,_,rfl,rfl,⟨by omega,hl⟩,_,rfl,_,_,_,_,rfl,rfl,hM,rfl,?_⟩
   exact⟨_,rfl,k _ _ (c8I _ (by omega)) (c8j _ hb) (p6.upd _ _ _)⟩
  ·refine⟨_,rfl,_,N3 hM rfl,_,rfl,_,rfl,_,_,_,_,rfl,rfl,hM,rfl,?_⟩
   refine⟨_,rfl,_,N3 g6 rfl,_,rfl,_,N3 g6 rfl,_,_,rfl,rfl,a8o (by decide) (by decide),_,rfl,_,_,rfl,rfl,(by show(0:Int)<1000000007;decide),?_⟩
   refine⟨_,rfl,_,rfl,_,rfl,_,rfl,_,_,rfl,rfl,c3f (by decide) (by decide) (by decide) (by decide),_,_,rfl,rfl,(by show(0:Int)<998244353;decide),?_⟩
   refine⟨_,rfl,_,rfl,_,_,rfl,rfl,c1M (by decide) (by decide),_,_,rfl,rfl,(by show(0:Int)<2147483647;decide),_,_,rfl,rfl,c3r,_,rfl,_,_,rfl,rfl,hb,?_⟩
   exact k _ _ (c8I _ (by omega)) (c8j _ hb) (p6.upd _ _ _)
theorem a9C(T:Txt K mg)(d:Df K mg "divisor" a1F ["one","other"]):Fn P w K mg base "divisor" 1 ["one","other"] K4:=by
 have sc:=a88
 refine h7 d sc (fun ds M R Y h=>?_) (fun f cdv A outer s H E ds M R Y hr h=>?_)
 ·obtain⟨a,b,rfl,_⟩:=h;rfl
 ·obtain⟨a,b,rfl,k⟩:=h
  refine⟨_,(d4 (a1N PassesOwn.never (jtm a0u (a8 1) d3) (d5 (a6S (i:=0) (j:=1) rfl sc.nd rfl rfl (by decide) rfl rfl (a7 (a8 1) (a7 (f7 a3V (a8 0) (a8 1)) a9))))) (d5 (d6 (a8 0)))),?_⟩
  refine⟨fun m e M'=>M'=M∧∃ u:Nat,e=[some (.int (u:Int)),some (.int (m:Int))]∧c7e u m=c7e a b,⟨b,rfl,a,rfl,rfl⟩,?_⟩
  rintro v e M' ⟨rfl,u,rfl,hg⟩
  refine⟨_,rfl,_,rfl,_,rfl,?_⟩
  refine b4s (fun h0=>?_) (fun h0=>?_)
  ·have hv:0<v:=by omega
   refine⟨_,rfl,_,rfl,_,rfl,_,_,rfl,rfl,by omega,_,_,rfl,?_⟩
   exact⟨u % v,Nat.mod_lt _ hv,rfl,v,rfl,by rw[← RM.b4y u v (by omega)];exact hg⟩
  ·have hv:v=0:=by omega
   subst hv
   rw[Nat.gcd_zero_right]at hg
   subst hg
   exact⟨_,rfl,k⟩
theorem a8h(T:Txt K mg)(d:Df K mg "is_whole" Q3 ["thing"]):Fn P w K mg base "is_whole" 1 ["thing"] a00:=by
 have sc:=a16
 refine h7 d sc (fun ds M R Y h=>?_) (fun f cdv A outer s H E ds M R Y hr h=>?_)
 ·obtain⟨n,rfl,_⟩:=h;rfl
 ·obtain⟨n,rfl,k⟩:=h
  refine⟨_,(d5 (d6 (r9 (i4 (N5 T.sub) rfl T.b_isinstance o7 (a7 (a8 0) (a7 (N2 rfl T.b_int a9R) a9))) (v7 (G5 (i4 (N5 T.sub) rfl T.b_isinstance o7 (a7 (a8 0) (a7 (N2 rfl T.b_bool a2J) a9)))))))),?_⟩
  refine⟨_,rfl,_,_,_,_,rfl,rfl,rfl,_,rfl,?_⟩
  refine c3i ?_
  exact⟨_,rfl,_,_,_,_,rfl,rfl,rfl,_,rfl,k⟩
theorem b4b(T:Txt K mg)(d:Df K mg "ratio" a2o ["top","bottom"])(c3E:Fn P w K mg base "is_whole" 1 ["thing"] a00)(c3P:Fn P w K mg base "divisor" 1 ["one","other"] K4):Fn P w K mg base "ratio" 2 ["top","bottom"] K9:=by
 have sc:=a7V
 refine h7 d sc (fun ds M R Y h=>?_) (fun f cdv A outer s H E ds M R Y hr h=>?_)
 ·obtain⟨p,b,rfl,_⟩:=h;rfl
 ·obtain⟨a,b,rfl,hb,hl,k⟩:=h
  refine⟨_,(d4 (f6 (A8 (u8 (w6 (i0 (jc c3E hr (a7 (a8 0) a9)))) (u8 (w6 (i0 (jc c3E hr (a7 (a8 1) a9)))) (A4 (jtm G8 (a8 1) d3))))) (d5 a5F) e9) (d4 (jst 2 sc.nd (jc c3P hr (a7 (i4 a0y rfl T.b_abs O9 (a7 (a8 0) a9)) (a7 (i4 a0y rfl T.b_abs O9 (a7 (a8 1) a9)) a9)))) (d4 (f6 (jtm a0n (a8 1) d3) (d5 (jst 2 sc.nd (A5 (a8 2)))) e9) (d5 (d6 (d9 (a7 (f7 E6 (a8 0) (a8 2)) (a7 (f7 E6 (a8 1) (a8 2)) a9)))))))),?_⟩
  refine⟨_,rfl,_,rfl,true,rfl,?_⟩
  refine c1S ?_
  refine⟨_,rfl,_,rfl,true,rfl,?_⟩
  refine c1S ?_
  refine⟨_,rfl,_,rfl,_,rfl,?_⟩
  refine b1R (fun h=>absurd h hb) (fun _=>?_)
  refine⟨_,rfl,_,rfl,_,rfl,_,rfl,a.natAbs,b.natAbs,rfl,?_⟩
  have hn:=b4z (a:=a) hb
  have hlg:=b7t (a:=a) hb hl
  refine⟨_,rfl,_,rfl,_,rfl,?_⟩
  refine b1R (fun h1=>?_) (fun h1=>?_)
  ·have c1:∀ i:Int,CFd i (-((c7e a.natAbs b.natAbs:Nat):Int)):=fun i=>⟨by omega,by rw[c7T];exact hlg⟩
   refine⟨_,rfl,_,rfl,_,rfl,_,rfl,_,_,rfl,rfl,c1 _,_,rfl,_,rfl,_,_,rfl,rfl,c1 _,sl 2,?_⟩
   exact a2E hb (by rw[if_pos h1]) k
  ·have c1:∀ i:Int,CFd i ((c7e a.natAbs b.natAbs:Nat):Int):=fun i=>⟨hn,hlg⟩
   refine⟨_,rfl,_,rfl,_,_,rfl,rfl,c1 _,_,rfl,_,rfl,_,_,rfl,rfl,c1 _,sl 2,?_⟩
   exact a2E hb (by rw[if_neg h1]) k
theorem b7c(T:Txt K mg)(d:Df K mg "over" a9c ["one","other"])(c3C:Fn P w K mg base "ratio" 2 ["top","bottom"] K9):Fn P w K mg base "over" 3 ["one","other"] P9:=by
 have sc:=b6u
 refine h7 d sc (fun ds M R Y h=>?_) (fun f cdv A outer s H E ds M R Y hr h=>?_)
 ·obtain⟨q,r,rfl,_⟩:=h;rfl
 ·obtain⟨q,r,rfl,h0,hz,k⟩:=h
  refine⟨_,(d5 (d6 (jc c3C hr (a7 (f7 i8 (jx (a8 0) d3) (jx (a8 1) d3)) (a7 (f7 i8 (jx (a8 0) d3) (jx (a8 1) d3)) a9))))),?_⟩
  refine⟨_,rfl,_,rfl,_,rfl,_,rfl,_,_,rfl,rfl,mND hz,_,rfl,_,rfl,_,rfl,_,rfl,_,_,rfl,rfl,mDN hz,_,_,rfl,c7u (RM.D3 q) (b94 h0),lDN hz,?_⟩
  rw[RM.b4M]at k
  exact k
theorem b7b(T:Txt K mg)(d:Df K mg "plus" a6b ["one","other"])(c3C:Fn P w K mg base "ratio" 2 ["top","bottom"] K9):Fn P w K mg base "plus" 3 ["one","other"] F1:=by
 have sc:=b0J
 refine h7 d sc (fun ds M R Y h=>?_) (fun f cdv A outer s H E ds M R Y hr h=>?_)
 ·obtain⟨q,r,rfl,_⟩:=h;rfl
 ·obtain⟨q,r,rfl,hz,k⟩:=h
  refine⟨_,(d5 (d6 (jc c3C hr (a7 (f7 D9 (f7 i8 (jx (a8 0) d3) (jx (a8 1) d3)) (f7 i8 (jx (a8 1) d3) (jx (a8 0) d3))) (a7 (f7 i8 (jx (a8 0) d3) (jx (a8 1) d3)) a9))))),?_⟩
  refine⟨_,rfl,_,rfl,_,rfl,_,rfl,_,_,rfl,rfl,mND hz,_,rfl,_,rfl,_,rfl,_,rfl,_,_,rfl,rfl,mND (by omega),_,rfl,_,rfl,_,rfl,_,rfl,_,rfl,_,_,rfl,rfl,mDD hz,_,_,rfl,c7u (RM.D3 q) (RM.D3 r),lDD hz,?_⟩
  rw[RM.a9U]at k
  exact k
theorem a8f(T:Txt K mg)(d:Df K mg "opposite" a0H ["one"]):Fn P w K mg base "opposite" 1 ["one"] a5x:=by
 have sc:=a7W
 refine h7 d sc (fun ds M R Y h=>?_) (fun f cdv A outer s H E ds M R Y hr h=>?_)
 ·obtain⟨q,rfl,_⟩:=h;rfl
 ·obtain⟨q,rfl,k⟩:=h
  refine⟨_,(d5 (d6 (d9 (a7 (A5 (jx (a8 0) d3)) (a7 (jx (a8 0) d3) a9))))),?_⟩
  refine⟨_,rfl,_,rfl,_,rfl,_,rfl,_,rfl,sl 2,?_⟩
  have e:d8 (-q) = .tup [.int (-q.num),.int (q.den:Int)]:=by unfold d8;rw[c9n,c9o]
  rw[e]at k
  exact k
theorem b4c(T:Txt K mg)(d:Df K mg "minus" a6c ["one","other"])(c3B:Fn P w K mg base "plus" 3 ["one","other"] F1)(c3G:Fn P w K mg base "opposite" 1 ["one"] a5x):Fn P w K mg base "minus" 4 ["one","other"] E2:=by
 have sc:=b3x
 refine h7 d sc (fun ds M R Y h=>?_) (fun f cdv A outer s H E ds M R Y hr h=>?_)
 ·obtain⟨q,r,rfl,_⟩:=h;rfl
 ·obtain⟨q,r,rfl,hz,k⟩:=h
  refine⟨_,(d5 (d6 (jc c3B hr (a7 (a8 0) (a7 (jc c3G hr (a7 (a8 1) a9)) a9))))),?_⟩
  refine⟨_,rfl,_,rfl,r,rfl,q,-r,rfl,by rw[RM.I0];exact hz,?_⟩
  rw[c9u]at k
  exact k
theorem a8k(T:Txt K mg)(d:Df K mg "_law_odd" a0L ["pool","entry","further_ones"])(c3x:Fn P w K mg base "_law_next" 1 ["pool","base"] J2)(c3Q:Fn P w K mg base "over" 3 ["one","other"] P9)(c3z:Fn P w K mg base "minus" 4 ["one","other"] E2)(c3B:Fn P w K mg base "plus" 3 ["one","other"] F1)(c3C:Fn P w K mg base "ratio" 2 ["top","bottom"] K9):Fn P w K mg base "_law_odd" 5 ["pool","entry","further_ones"] b9r:=by
 have sc:=a70
 refine h7 d sc (by walk_at "len") (fun f cdv A outer s H E ds M R Y hr h=>?_)
 have hu:=hr.units
 obtain⟨p,d,d2,rfl,hp,e,es,b,rfl,rfl,⟨hb,he,hes,hl⟩,k⟩:=h
 refine⟨_,(d4 (jst 3 sc.nd (jx (i3 (a7 g8 (a7 g8 (a7 g8 (a7 g8 (a7 g8 (a7 g8 a9))))))) (jc c3x hr (a7 (a8 0) (a7 d3 a9))))) (d4 (jst 4 sc.nd (W9 (a7 (d9 (a7 (a8 3) a9)) (a7 (d9 (a7 (a8 3) (a7 (d9 (a7 d3 (a7 d3 a9))) a9))) (a7 (d9 (a7 (a8 3) (a7 d3 a9))) (a7 (d9 (a7 (a8 3) (a7 (d9 (a7 (A5 d3) (a7 d3 a9))) a9))) (a7 (d9 (a7 (a8 3) (a7 (d9 (a7 d3 (a7 d3 a9))) a9))) (a7 (d9 (a7 (a8 3) (a7 d3 a9))) (a7 (d9 (a7 (a8 3) (a7 (d9 (a7 d3 (a7 d3 a9))) a9))) a9))))))))) (C6 (f6 (A8 (a1O (jtm G8 (i4 C3 rfl T.b_len y4 (a7 (a8 1) a9)) d3) (a0c (i0 (i4 (N5 T.sub) rfl T.b_isinstance o7 (a7 (jx (a8 1) d3) (a7 (N2 rfl T.b_tuple F5) a9))))))) (d4 (jst 5 sc.nd (jc c3B hr (a7 (jx (a8 1) d3) (a7 (jc c3C hr (a7 (jx (i3 (a7 d3 (a7 (A5 d3) a9))) (jc c3x hr (a7 (a8 0) (a7 d3 a9)))) (a7 (jx (i3 (a7 d3 (a7 d3 (a7 (f7 W6 d3 d3) a9)))) (jc c3x hr (a7 (a8 0) (a7 d3 a9)))) a9))) a9)))) (d4 (jst 4 sc.nd (f7 b4d (a8 4) (i3 (a7 (d9 (a7 (jx (a8 1) d3) (a7 (a8 5) a9))) (a7 (d9 (a7 (jx (a8 1) d3) (a7 (jc c3z hr (a7 (d9 (a7 d3 (a7 d3 a9))) (a7 (jx (a8 1) d3) a9))) a9))) (a7 (d9 (a7 (a8 3) (a7 (jx (a8 1) d3) a9))) a9)))))) (d5 (f6 (jtm (a0v hu) (jx (a8 1) d3) (d9 (a7 d3 (a7 d3 a9)))) (d5 (C9 (X0 PySem.F.slot_list_append PySem.F.type_list_append D6 (a8 4) (a7 (d9 (a7 (jx (a8 1) d3) (a7 (jc c3Q hr (a7 (d9 (a7 d3 (a7 d3 a9))) (a7 (jx (a8 1) d3) a9))) a9))) a9)))) e9)))) e9) (C6 (f6 (A8 (a1O (jtm G8 (i4 C3 rfl T.b_len y4 (a7 (a8 1) a9)) d3) (a0c (w6 (i0 (i4 (N5 T.sub) rfl T.b_isinstance o7 (a7 (jx (a8 1) d3) (a7 (N2 rfl T.b_tuple F5) a9)))))))) (d5 (jst 4 sc.nd (f7 b4d (a8 4) (i3 (a7 (d9 (a7 (jx (a8 1) d3) (a7 (f7 i8 (jx (a8 1) d3) d3) a9))) (a7 (d9 (a7 (jx (a8 1) d3) (a7 (f7 a18 (jx (a8 1) d3) d3) a9))) (a7 (d9 (a7 (a8 3) (a7 (jx (a8 1) d3) a9))) (a7 (d9 (a7 (jx (a8 1) d3) (a7 d3 a9))) a9)))))))) e9) (d4 (jst 4 sc.nd (f7 b4d (a8 4) (a8 2))) (d5 (d6 (F9 (jx (a8 4) (jc c3x hr (a7 (a8 0) (a7 (i4 C3 rfl T.b_len y4 (a7 (a8 4) a9)) a9)))))))))))),?_⟩
 walk_at "sim"
 refine⟨hp,by decide,fun r M1 r0 r1 s1=>E3 r0 r1 fun dd hdd=>?_⟩
 obtain⟨w,rfl,cw⟩:∃ w,dd = .str w∧cl 57 (.str w)=true:=by
  simp only[c6M,c6Q,or_false]at hdd
  rcases hdd with rfl|rfl|rfl|rfl|rfl|rfl<;>exact⟨_,rfl,by decide +kernel⟩
 intro l1 hl1
 obtain⟨f1,n1⟩:=a0e s1 hl1
 obtain⟨hf,eh,zh⟩:=a78 (N:=2) (k:=2) (by decide) (by decide)
 have eh:D.tup [D.int 1,D.int 2]=d8 hf:=eh
 have s1z:sz (1:Rat)=1:=RM.K6
 have s0z:sz (0:Rat)≤1:=by rw[RM.F0];decide
 have a1:OdL p M (A7 M1 l1 (.lst ([En.one w,.rat w 1,.int w 6,.rat w (-1),.rat w hf,.int w 2,.rat w 0].map enD))) l1 [En.one w,.rat w 1,.int w 6,.rat w (-1),.rat w hf,.int w 2,.rat w 0]:=⟨s1.put f1 n1,g6,f1,n1⟩
 have g1:∀ x∈[En.one w,.rat w 1,.int w 6,.rat w (-1),.rat w hf,.int w 2,.rat w 0],enB (b+60) 10 x:=fun x hx=>by
  simp only[c6M,c6Q,or_false]at hx
  rcases hx with rfl|rfl|rfl|rfl|rfl|rfl|rfl
  ·exact cw
  ·exact⟨cw,by omega⟩
  ·exact⟨cw,by decide⟩
  ·exact⟨cw,by rw[RM.I0];omega⟩
  ·exact⟨cw,by omega⟩
  ·exact⟨cw,by decide⟩
  ·exact⟨cw,by omega⟩
 have cat:∀{xs ys:List En},(∀ x∈xs,enB (b+60) 10 x)→(∀ x∈ys,enB (b+60) 10 x)→∀ x∈xs++ys,enB (b+60) 10 x:=fun h1 h2 x hx=>(c6R.mp hx).elim (h1 x) (h2 x)
 rw[eh]
 rw[show[D.tup [D.str w],D.tup [D.str w,d8 1],D.tup [D.str w,D.int 6],D.tup [D.str w,d8 (-1)],D.tup [D.str w,d8 hf],D.tup [D.str w,D.int 2],D.tup [D.str w,d8 0]]=[En.one w,.rat w 1,.int w 6,.rat w (-1),.rat w hf,.int w 2,.rat w 0].map enD from rfl]
 generalize hM2:A7 M1 l1 (.lst ([En.one w,.rat w 1,.int w 6,.rat w (-1),.rat w hf,.int w 2,.rat w 0].map enD))=M2 at *
 refine P0 (fun e' M'=>∃(l:Addr) (xs:List En) (z:Option D),e'=[some (.ref p),some (enD e),some (.vl (es.map enD)),some (.str w),some (.ref l),z]∧OdL p M M' l xs∧(∀ x∈xs,enB (b+60) 10 x)∧xs.length≤11∧0<xs.length) ?_ ?_
 ·walk_at "sim"
  cases e with
  | one w0 =>
   rw[b4J]
   walk_at "sim"
   exact⟨fun h=>absurd h (by decide),fun _=>⟨l1,_,_,rfl,a1,g1,by simp only[c6H,c7f,c7o];omega⟩⟩
  | int w0 n =>
   rw[b4K]
   walk_at "sim"
   exact⟨fun _=>⟨l1,_,_,rfl,a1,g1,by simp only[c6H,c7f,c7o];omega⟩,fun h=>absurd rfl h⟩
  | rat w0 q =>
   rw[b4I]
   walk_at "sim"
   refine⟨fun _=>?_,fun h=>absurd rfl h⟩
   have hw0:=he.1
   have hq:sz q≤b:=he.2
   refine⟨a1.st.pool,by decide,fun r M3 r0 r1 s3=>E3 r0 (by show r<2;exact r1) fun dd hdd=>⟨c2t,s3.pool,by decide,fun r' M4 r0' r1' s4=>E3 r0' (by show r'<3;exact r1') fun dd' hdd'=>?_⟩⟩
   have a3:=(a1.step s3).step s4
   obtain⟨q',hq',zq'⟩:∃ q':Rat,K9 [dd,dd']=K9 [dd,dd']∧(∀{M:Mem} {R:DK} {Y:DXK},R (d8 q') M→K9 [dd,dd'] M R Y)∧sz q'≤31:=by
    obtain⟨a,rfl,ha⟩:∃ a:Int,dd = .int a∧a.natAbs<2 ^ 31:=by
     simp only[c6M,c6Q,or_false]at hdd
     rcases hdd with rfl|rfl<;>exact⟨_,rfl,by decide⟩
    obtain⟨c,rfl,hc0,hc⟩:∃ c:Int,dd' = .int c∧0<c∧c.natAbs<2 ^ 31:=by
     simp only[c6M,c6Q,or_false]at hdd'
     rcases hdd' with rfl|rfl|rfl<;>exact⟨_,rfl,by decide,by decide⟩
    exact⟨c7g a c,rfl,fun{M R Y} h=>⟨a,c,rfl,by omega,c6A (E7 hc (by decide)) (by decide),h⟩,a1I (by decide) ha hc0 hc⟩
   refine zq'.1 ?_
   have zq':=zq'.2
   have z1:=RM.U4 q q'
   have z2:=RM.G9 0 q
   walk_at "sim"
   refine⟨by omega,by omega,?_⟩
   rw[show[D.tup [D.str w0,d8 (q+q')],D.tup [D.str w0,d8 (0 - q)],D.tup [D.str w,d8 q]]=[En.rat w0 (q+q'),.rat w0 (0 - q),.rat w q].map enD from rfl]
   have g2:∀ x∈[En.rat w0 (q+q'),.rat w0 (0 - q),.rat w q],enB (b+60) 10 x:=fun x hx=>by
    simp only[c6M,c6Q,or_false]at hx
    rcases hx with rfl|rfl|rfl
    ·exact⟨hw0,by omega⟩
    ·exact⟨hw0,by omega⟩
    ·exact⟨cw,by omega⟩
   refine a3.cat _ (by simp only[c6H,c7f,c7o];omega) fun l5 M5 a5=>?_
   walk_at "sim"
   refine⟨fun q0=>L8 a5.at' ⟨q0,by omega,?_⟩,fun q0=>⟨l5,_,_,rfl,a5,cat g1 g2,by simp only[c6H,c7f,c7o];omega⟩⟩
   have z3:=RM.J1 1 q q0
   rw[show D.tup [D.str w0,d8 (1 / q)]=enD (.rat w0 (1 / q))from rfl]
   exact a5.app _ (by simp only[c6H,c7f,c7o];omega) fun M6 a6=>⟨l5,_,_,rfl,a6,cat (cat g1 g2) (fun x hx=>by rw[c6N.mp hx];exact⟨hw0,by omega⟩),by simp only[c6H,c7f,c7o];omega⟩
 ·rintro e' M' ⟨l,xs,z,rfl,a2,g2,n2⟩
  refine P0 (fun e' M'=>∃(l:Addr) (xs:List En) (z:Option D),e'=[some (.ref p),some (enD e),some (.vl (es.map enD)),some (.str w),some (.ref l),z]∧OdL p M M' l xs∧(∀ x∈xs,enB (b+60) 10 x)∧xs.length≤15∧0<xs.length) ?_ ?_
  ·walk_at "sim"
   cases e with
   | one w0 =>
    rw[b4J]
    walk_at "sim"
    exact⟨fun h=>absurd h (by decide),fun _=>⟨l,xs,_,rfl,a2,g2,by omega⟩⟩
   | rat w0 q =>
    rw[b4I]
    walk_at "sim"
    exact⟨fun _=>⟨l,xs,_,rfl,a2,g2,by omega⟩,fun h=>absurd rfl h⟩
   | int w0 n =>
    rw[b4K]
    walk_at "sim"
    refine⟨fun _=>⟨p7 9 2 he.2 (by decide) (by decide),?_⟩,fun h=>absurd rfl h⟩
    rw[show[D.tup [D.str w0,D.int (n*2)],D.tup [D.str w0,D.int (n - 1)],D.tup [D.str w,D.int n],D.tup [D.str w0,D.int 0]]=[En.int w0 (n*2),.int w0 (n - 1),.int w n,.int w0 0].map enD from rfl]
    refine a2.cat _ (by show _+4≤1000;omega) fun l5 M5 a5=>⟨l5,_,_,rfl,a5,cat g2 (fun x hx=>?_),by simp only[c6H,c7f,c7o];omega⟩
    have hw0:=he.1
    have hn:n.natAbs<2 ^ 9:=he.2
    simp only[c6M,c6Q,or_false]at hx
    rcases hx with rfl|rfl|rfl|rfl
    ·exact⟨hw0,by omega⟩
    ·exact⟨hw0,by omega⟩
    ·exact⟨cw,by omega⟩
    ·exact⟨hw0,by decide⟩
  ·rintro e' M' ⟨l,xs,z,rfl,a2,g2,n2,_⟩
   walk_at "sim"
   refine a2.cat _ (by omega) fun l5 M5 a5=>?_
   have ln:((xs++es).map enD).length=xs.length+es.length:=by rw[c6x,c6H]
   refine⟨_,_,rfl,a1n a5.at',?_⟩
   rw[ln]
   walk_at "sim"
   refine⟨a5.st.pool,by omega,lg9 (by omega),fun r5 M6 r50 r51 s6=>?_⟩
   have a6:=a5.step s6
   obtain⟨dd,e5,hdd⟩:=b1k (ds:=(xs++es).map enD) (r:=r5) r50 (by rw[ln];exact r51)
   obtain⟨x,hx,rfl⟩:=c7k.mp hdd
   exact⟨_,N3 a6.at' e5,J8 (M2:=M6) (fun _ _ h=>h) (k x M6 (cat g2 (fun x hx=>(hes x hx).mono (by omega) (by decide)) x hx) a6.st)⟩
theorem a3R(T:Txt K mg)(d:Df K mg "_law_spoilt" O5 ["pool","paper","others"])(c4N:Fn P w K mg base "_law_odd" 5 ["pool","entry","further_ones"] b9r)(c3x:Fn P w K mg base "_law_next" 1 ["pool","base"] J2):Fn P w K mg base "_law_spoilt" 6 ["pool","paper","others"] a6k:=by
 have sc:=a3r
 refine h7 d sc (by walk_at "len") (fun f cdv A outer s H E ds M R Y hr h=>?_)
 have hu:=hr.units
 obtain⟨p,d,d2,rfl,hp,es,fs,bi,rfl,rfl,⟨hl,hfl,hbi,he,hf⟩,k⟩:=h
 have hem:∀ e∈es,enB 8860 10 e:=fun e h=>by
  obtain⟨i,hi⟩:=c7M h
  exact(he i e hi).mono (by have:=hbi i;omega) (by decide)
 refine⟨_,(d4 (jst 3 sc.nd (a2G a8L rfl T.b_list T3 (a7 (a8 1) a9))) (d4 (jst 4 sc.nd (jc c3x hr (a7 (a8 0) (a7 d3 a9)))) (d4 (jst 5 sc.nd (jc c3x hr (a7 (a8 0) (a7 (f7 D9 (i4 C3 rfl T.b_len y4 (a7 (a8 3) a9)) d3) a9)))) (d4 (f6 (jtm G8 (a8 4) d3) (d5 (d6 (F9 (G6 (a0b (a8 3) a0a (Z9 (a8 5))) (a0b (a8 3) (Z9 (f7 D9 (a8 5) d3)) a0a))))) e9) (d4 (f6 (jtm G8 (a8 4) d3) (d5 (d6 (F9 (G6 (a8 3) (i3 (a7 (d9 (a7 g8 a9)) a9)))))) e9) (C6 (f6 (jtm a0n (a8 5) (i4 C3 rfl T.b_len y4 (a7 (a8 3) a9))) (d5 (p8 (jc c4N hr (a7 (a8 0) (a7 (jx (a8 3) (a8 5)) (a7 (jx (a8 2) (a8 5)) a9)))) (a6T (a8 3) (a8 5)))) e9) (d5 (d6 (F9 (L6 (a8 3))))))))))),?_⟩
 walk_at "sim"
 refine⟨_,es.map enD,rfl,by simp only[j7],?_⟩
 intro l1 hl1
 obtain⟨f1,n1⟩:=a0e (p6.refl hp) hl1
 have a1:OdL p M (A7 M l1 (.lst (es.map enD))) l1 es:=⟨(p6.refl hp).put f1 n1,g6,f1,n1⟩
 generalize A7 M l1 (.lst (es.map enD))=M1 at *
 refine⟨a1.st.pool,by decide,fun r M2 r0 r1 s2=>⟨_,_,rfl,a1n (a1.step s2).at',?_⟩⟩
 have a2:=a1.step s2
 rw[c6x]
 walk_at "sim"
 refine⟨a2.st.pool,by omega,lg9 (by omega),fun at' M3 b0 b1 s3=>?_⟩
 have a3:=a2.step s3
 obtain⟨j,rfl⟩:∃ j:Nat,at'=(j:Int):=⟨at'.toNat,by omega⟩
 have hj:j≤es.length:=by omega
 have sl:100≤sizeLine:=by decide
 refine⟨fun _=>?_,fun _=>⟨fun _=>?_,fun _=>?_⟩⟩
 ·walk_at "sim"
  refine c1Z a3.at' ?_
  walk_at "sim"
  refine c1Z a3.at' ?_
  have e1:U0 (es.map enD) none (some (j:Int))=(es.take j).map enD:=by rw[a9P,c8y]
  have e2:U0 (es.map enD) (some ((j:Int)+1)) none=(es.drop (j+1)).map enD:=by
   rw[show(j:Int)+1=((j+1:Nat):Int)by omega,a5M,c9x]
  rw[e1,e2]
  walk_at "sim"
  refine⟨c6D (by rw[c6x,c6x,c7p,c7K];omega) sl,J8 (M2:=M3) (fun _ _ h=>h) ?_⟩
  rw[← c6P]
  have ml:(es.take j++es.drop (j+1)).length=es.length - (if j<es.length then 1 else 0):=by
   rw[c6H,c7p,c7K];split<;>omega
  refine k _ M3 ⟨by rw[ml];omega,fun e h=>(c6R.mp h).elim (fun h=>hem e (c8a h)) (fun h=>hem e (c9i h)),fun h i e hi=>?_⟩ a3.st
  rw[ml]at h
  have hj2:j=es.length:=by split at h<;>omega
  rw[hj2,c6X,c8n (by omega),c7G]at hi
  exact(he i e hi).mono (by omega) (by decide)
 ·refine⟨es.map enD,[En.one "nought"].map enD,a32 a3.at',rfl,c6D (by rw[c6x];show _+1≤100;omega) sl,J8 (M2:=M3) (fun _ _ h=>h) ?_⟩
  rw[← c6P]
  exact k _ M3 ⟨by rw[c6H];show _+1≤31;omega,fun e h=>(c6R.mp h).elim (hem e) (fun h=>by rw[c6N.mp h];show cl 57 _=true;decide +kernel),fun h=>by rw[c6H]at h;exact absurd h (by show ¬ _+1=_;omega)⟩ a3.st
 ·refine P0 (fun e' M'=>∃(es':List En) (z4 z5:Option D),e'=[some (D.ref p),some (D.vl (es.map enD)),some (D.vl (fs.map fun f=>D.vl (f.map enD))),some (.ref l1),z4,z5]∧OdL p M M' l1 es'∧es'.length=es.length∧∀ i e,es'[i]? = some e→enB (bi i+60) 10 e) ?_ ?_
  ·walk_at "sim"
   refine⟨_,_,rfl,a1n a3.at',?_⟩
   rw[c6x]
   walk_at "sim"
   refine⟨fun hlt=>?_,fun _=>⟨es,_,_,rfl,a3,rfl,fun i e hi=>(he i e hi).mono (by omega) (by decide)⟩⟩
   have hj3:j<es.length:=by omega
   have h1:=c7c hj3
   have h2:=c7c (l:=fs) (i:=j) (by omega)
   refine⟨_,N3 a3.at' (A2 (n:=j) (by rw[c6K,h1];rfl)),?_⟩
   refine⟨_,A2 (n:=j) (by rw[c6K,h2];rfl),?_⟩
   have hf2:=hf j _ h2
   refine⟨a3.st.pool,es[j],fs[j],bi j,rfl,rfl,⟨hbi j,he j _ h1,hf2.2,hf2.1⟩,fun e' M4 he' s4=>?_⟩
   have a4:=a3.step s4
   walk_at "sim"
   refine b7I (j:=j) a4.at' (by rw[c6x];exact hj3) ⟨es.set j e',_,_,rfl,⟨?_,?_,f1,n1⟩,by rw[c8G],fun i e hi=>?_⟩
   ·exact a4.st.put f1 n1
   ·rw[g6,List.map_set]
   ·rw[c8V]at hi
    by_cases e5:j=i
    ·subst e5
     rw[if_pos rfl,if_pos hj3]at hi
     obtain rfl:=Option.some.inj hi
     exact he'
    ·rw[if_neg e5]at hi
     exact(he i e hi).mono (by omega) (by decide)
  ·rintro e' M' ⟨es',z4,z5,rfl,a5,hl5,g5⟩
   walk_at "sim"
   rw[a0z a5.at']
   refine J8 (M2:=a0o M' l1) (fun _ _ h=>h) ?_
   refine k es' _ ⟨by omega,fun e h=>?_,fun _=>g5⟩ (a5.st.del f1 n1)
   obtain⟨i,hi⟩:=c7M h
   exact(g5 i e hi).mono (by have:=hbi i;omega) (by decide)
theorem b3Y(T:Txt K mg)(d:Df K mg "times" a2n ["one","other"])(c3C:Fn P w K mg base "ratio" 2 ["top","bottom"] K9):Fn P w K mg base "times" 3 ["one","other"] D5:=by
 have sc:=a7R
 refine h7 d sc (fun ds M R Y h=>?_) (fun f cdv A outer s H E ds M R Y hr h=>?_)
 ·obtain⟨q,r,rfl,_⟩:=h;rfl
 ·obtain⟨q,r,rfl,hz,k⟩:=h
  refine⟨_,(d5 (d6 (jc c3C hr (a7 (f7 i8 (jx (a8 0) d3) (jx (a8 1) d3)) (a7 (f7 i8 (jx (a8 0) d3) (jx (a8 1) d3)) a9))))),?_⟩
  refine⟨_,rfl,_,rfl,_,rfl,_,rfl,_,_,rfl,rfl,mNN hz,_,rfl,_,rfl,_,rfl,_,rfl,_,_,rfl,rfl,mDD hz,_,_,rfl,c7u (RM.D3 q) (RM.D3 r),lDD hz,?_⟩
  rw[RM.a9F]at k
  exact k
theorem a6H(T:Txt K mg)(d:Df K mg "number_of" U9 ["p","q","ray"])(c3B:Fn P w K mg base "plus" 3 ["one","other"] F1)(c3y:Fn P w K mg base "times" 3 ["one","other"] D5):Fn P w K mg base "number_of" 4 ["p","q","ray"] a6r:=by
 have sc:=a51
 refine h7 d sc (by walk_at "len") (fun f cdv A outer s H E ds M R Y hr h=>?_)
 have hu:=hr.units
 obtain⟨p,q,y,u,rfl,hz,k⟩:=h
 have z1:=RM.u3 p y
 have z2:=RM.u3 q u
 refine⟨_,(d5 (d6 (jc c3B hr (a7 (jc c3y hr (a7 (a8 0) (a7 (jx (a8 2) d3) a9))) (a7 (jc c3y hr (a7 (a8 1) (a7 (jx (a8 2) d3) a9))) a9))))),?_⟩
 walk_at "sim"
 exact⟨by omega,by omega,by omega,k⟩
theorem b92(T:Txt K mg)(d:Df K mg "led" b3y ["table","ray"])(c3B:Fn P w K mg base "plus" 3 ["one","other"] F1)(c3y:Fn P w K mg base "times" 3 ["one","other"] D5):Fn P w K mg base "led" 4 ["table","ray"] b6y:=by
 have sc:=b9o
 refine h7 d sc (by walk_at "len") (fun f cdv A outer s H E ds M R Y hr h=>?_)
 have hu:=hr.units
 obtain⟨a,b,c,d,y,u,rfl,h1,h2,k⟩:=h
 refine⟨_,(d4 (p8 (a8 0) (h8 (n:=4) rfl (d7 (jn 2 sc.nd) (d7 (jn 3 sc.nd) (d7 (jn 4 sc.nd) (d7 (jn 5 sc.nd) g9)))))) (d4 (p8 (a8 1) (h8 (n:=2) rfl (d7 (jn 6 sc.nd) (d7 (jn 7 sc.nd) g9)))) (d5 (d6 (d9 (a7 (jc c3B hr (a7 (jc c3y hr (a7 (a8 2) (a7 (a8 6) a9))) (a7 (jc c3y hr (a7 (a8 3) (a7 (a8 7) a9))) a9))) (a7 (jc c3B hr (a7 (jc c3y hr (a7 (a8 4) (a7 (a8 6) a9))) (a7 (jc c3y hr (a7 (a8 5) (a7 (a8 7) a9))) a9))) a9))))))),?_⟩
 walk_at "sim"
 exact⟨by walk_at "size",by walk_at "size",by walk_at "size",by walk_at "size",by walk_at "size",by walk_at "size",k⟩
theorem a6J(T:Txt K mg)(d:Df K mg "first_two" V1 ["table","ray","lines"])(c3W:Fn P w K mg base "number_of" 4 ["p","q","ray"] a6r)(c5q:Fn P w K mg base "led" 4 ["table","ray"] b6y):Fn P w K mg base "first_two" 5 ["table","ray","lines"] a0M:=by
 have sc:=a53
 refine h7 d sc (by walk_at "len") (fun f cdv A outer s H E ds M R Y hr h=>?_)
 have hu:=hr.units
 obtain⟨x,y,u,z,rfl,L,ls,rfl,rfl,⟨S,cL,cd0,hS,hl,hs⟩,k⟩:=h
 have cd:CD 1700 y 0 u 0:=cd0.mono hS
 have ol:=M9 L y u
 have ray:=(W5 cL cd).t2
 have r1:=ray.y
 have r2:=ray.u
 have ty:=cd.t2.y
 have tu:=cd.t2.u
 have o1:(g7 L (y,u)).1=(tbQ L).1*y+(tbQ L).2.1*u:=ol.1
 have o2:(g7 L (y,u)).2=(tbQ L).2.2.1*y+(tbQ L).2.2.2*u:=ol.2
 have t4:=CD.t4 cL
 rw[o1]at r1
 rw[o2]at r2
 rw[c7w]at k
 unfold K5
 refine⟨_,(d4 (jst 3 sc.nd (jc c5q hr (a7 (a8 0) (a7 (a8 1) a9)))) (d5 (d6 (X1 [1,3] ["p","q","r"] ["ray","later"] rfl (by decide +kernel) rfl (by decide +kernel) (by decide +kernel) rfl (b7F ⟨rfl,rfl⟩ ⟨rfl,rfl⟩) (b7F (Or.inl rfl) (Or.inl rfl)) (y7 (a8 2)) (fun _ _ _ _ _ _=>(h8 (n:=3) rfl (d7 (jn 0 (show(["p","q","r","ray","later"]:List Str).Nodup by decide +kernel)) (d7 (jn 1 (show(["p","q","r","ray","later"]:List Str).Nodup by decide +kernel)) (d7 (jn 2 (show(["p","q","r","ray","later"]:List Str).Nodup by decide +kernel)) g9))))) (fun _ _ _ _ _ _=>v8) (fun _ _ _ _ _ _=>(d9 (a7 (jc c3W hr (a7 (a8 0) (a7 (a8 1) (a7 (a8 3) a9)))) (a7 (jc c3W hr (a7 (a8 0) (a7 (a8 1) (a7 (a8 4) a9)))) (a7 (a8 2) a9))))))))),?_⟩
 walk_at "sim"
 generalize tbQ L=m at *
 obtain⟨a,b,c,d⟩:=m
 have z3:sz a≤230:=t4.a
 have z4:sz b≤230:=t4.b
 have z5:sz c≤230:=t4.c
 have z6:sz d≤230:=t4.d
 have r1:sz (a*y+b*u)≤230+1700+1:=r1
 have r2:sz (c*y+d*u)≤230+1700+1:=r2
 have o1:(g7 L (y,u)).1=a*y+b*u:=o1
 have o2:(g7 L (y,u)).2=c*y+d*u:=o2
 refine⟨by show sz a+sz y+(sz b+sz u)≤8900;omega,by show sz c+sz y+(sz d+sz u)≤8900;omega,?_⟩
 refine A6 (xs:=ls) (enc:=p5) (fun l=>p5 (a6P L y u l)) (by omega) (by simp only[j7]) (fun l hl Q hQ=>?_) k
 obtain⟨q1,q2⟩:=hs l hl
 unfold p5 a6P at *
 rw[o1,o2]at hQ
 walk_at "sim"
 exact⟨by omega,by omega,hQ⟩
theorem b7d(T:Txt K mg)(d:Df K mg "less" a6d ["one","other"]):Fn P w K mg base "less" 1 ["one","other"] a0A:=by
 have sc:=b0K
 refine h7 d sc (fun ds M R Y h=>?_) (fun f cdv A outer s H E ds M R Y hr h=>?_)
 ·obtain⟨q,r,rfl,_⟩:=h;rfl
 ·obtain⟨q,r,rfl,hz,k⟩:=h
  refine⟨_,(d5 (d6 (jm a0n (f7 i8 (jx (a8 0) d3) (jx (a8 1) d3)) (f7 i8 (jx (a8 1) d3) (jx (a8 0) d3))))),?_⟩
  refine⟨_,rfl,_,rfl,_,rfl,_,rfl,_,_,rfl,rfl,mND hz,_,rfl,_,rfl,_,rfl,_,rfl,_,_,rfl,rfl,mND (by omega),_,rfl,?_⟩
  rw[← RM.c1O]at k
  exact k
theorem a79(T:Txt K mg)(d:Df K mg "unsigned" a0D ["one"]):Fn P w K mg base "unsigned" 1 ["one"] b0I:=by
 have sc:=a7Q
 refine h7 d sc (by walk_at "len") (fun f cdv A outer s H E ds M R Y hr h=>?_)
 have hu:=hr.units
 obtain⟨q,rfl,k⟩:=h
 refine⟨_,(d5 (d6 (d9 (a7 (i4 a0y rfl T.b_abs O9 (a7 (jx (a8 0) d3) a9)) (a7 (jx (a8 0) d3) a9))))),?_⟩
 walk_at "sim"
 exact k
theorem a8e(T:Txt K mg)(d:Df K mg "ratio" a2o ["top","bottom"])(c3P:Fn P w K mg base "divisor" 1 ["one","other"] K4)(c3E:Fn P w K mg base "is_whole" 1 ["thing"] a00):Fn P w K mg base "ratio" 2 ["top","bottom"] b0M:=by
 have sc:=a7V
 refine h7 d sc (by walk_at "len") (fun f cdv A outer s H E ds M R Y hr h=>?_)
 have hu:=hr.units
 obtain⟨a,b,rfl,⟨hb,hg⟩,k⟩:=h
 have hn:=b4z (a:=a) hb
 have hlg:((c7e a.natAbs b.natAbs:Nat):Int).natAbs.log2<9000:=by rw[c6w];exact E7 hg (by decide)
 refine⟨_,(d4 (f6 (A8 (u8 (w6 (i0 (jc c3E hr (a7 (a8 0) a9)))) (u8 (w6 (i0 (jc c3E hr (a7 (a8 1) a9)))) (A4 (jtm G8 (a8 1) d3))))) (d5 a5F) e9) (d4 (jst 2 sc.nd (jc c3P hr (a7 (i4 a0y rfl T.b_abs O9 (a7 (a8 0) a9)) (a7 (i4 a0y rfl T.b_abs O9 (a7 (a8 1) a9)) a9)))) (d4 (f6 (jtm a0n (a8 1) d3) (d5 (jst 2 sc.nd (A5 (a8 2)))) e9) (d5 (d6 (d9 (a7 (f7 E6 (a8 0) (a8 2)) (a7 (f7 E6 (a8 1) (a8 2)) a9)))))))),?_⟩
 walk_at "sim"
 refine⟨fun h=>absurd h hb,fun _=>⟨fun h1=>?_,fun h1=>?_⟩⟩
 ·have c1:∀ i:Int,CFd i (-((c7e a.natAbs b.natAbs:Nat):Int)):=fun i=>⟨by omega,by rw[c7T];exact hlg⟩
  exact⟨c1 _,c1 _,a2E hb (by rw[if_pos h1]) k⟩
 ·have c1:∀ i:Int,CFd i ((c7e a.natAbs b.natAbs:Nat):Int):=fun i=>⟨hn,hlg⟩
  exact⟨c1 _,c1 _,a2E hb (by rw[if_neg h1]) k⟩
theorem a9z(T:Txt K mg)(d:Df K mg "plus" a6b ["one","other"])(c4p:Fn P w K mg base "ratio" 2 ["top","bottom"] b0M):Fn P w K mg base "plus" 3 ["one","other"] a9i:=by
 have sc:=b0J
 refine h7 d sc (by walk_at "len") (fun f cdv A outer s H E ds M R Y hr h=>?_)
 have hu:=hr.units
 obtain⟨q,r,rfl,⟨hz,hg⟩,k⟩:=h
 rw[RM.a9U]at k
 refine⟨_,(d5 (d6 (jc c4p hr (a7 (f7 D9 (f7 i8 (jx (a8 0) d3) (jx (a8 1) d3)) (f7 i8 (jx (a8 1) d3) (jx (a8 0) d3))) (a7 (f7 i8 (jx (a8 0) d3) (jx (a8 1) d3)) a9))))),?_⟩
 walk_at "sim"
 exact⟨p7 _ _ (J6 q) (E8 r) (by omega),p7 _ _ (J6 r) (E8 q) (by omega),p7 _ _ (E8 q) (E8 r) (by omega),⟨c7u (RM.D3 q) (RM.D3 r),hg⟩,k⟩
theorem a8a(T:Txt K mg)(d:Df K mg "times" a2n ["one","other"])(c4p:Fn P w K mg base "ratio" 2 ["top","bottom"] b0M):Fn P w K mg base "times" 3 ["one","other"] a2p:=by
 have sc:=a7R
 refine h7 d sc (by walk_at "len") (fun f cdv A outer s H E ds M R Y hr h=>?_)
 have hu:=hr.units
 obtain⟨q,r,rfl,⟨hz,hg⟩,k⟩:=h
 rw[RM.a9F]at k
 refine⟨_,(d5 (d6 (jc c4p hr (a7 (f7 i8 (jx (a8 0) d3) (jx (a8 1) d3)) (a7 (f7 i8 (jx (a8 0) d3) (jx (a8 1) d3)) a9))))),?_⟩
 walk_at "sim"
 exact⟨p7 _ _ (J6 q) (J6 r) (by omega),p7 _ _ (E8 q) (E8 r) (by omega),⟨c7u (RM.D3 q) (RM.D3 r),hg⟩,k⟩
theorem b6Y(T:Txt K mg)(d:Df K mg "t_of" a89 ["table"])(c3B:Fn P w K mg base "plus" 3 ["one","other"] F1):Fn P w K mg base "t_of" 4 ["table"] a4u:=by
 have sc:=b6r
 refine h7 d sc (by walk_at "len") (fun f cdv A outer s H E ds M R Y hr h=>?_)
 have hu:=hr.units
 obtain⟨x,rfl,⟨a,b,c,d⟩,hx,cd,k⟩:=h
 have hx':x=a1A a b c d:=hx
 subst hx'
 have t4:=CD.t4 cd
 have h1:sz a≤230:=t4.a
 have h4:sz d≤230:=t4.d
 refine⟨_,(d5 (d6 (jc c3B hr (a7 (jx (a8 0) d3) (a7 (jx (a8 0) d3) a9))))),?_⟩
 walk_at "sim"
 exact⟨by omega,k⟩
theorem a8i(T:Txt K mg)(d:Df K mg "is_ratio" a0J ["thing"])(c3P:Fn P w K mg base "divisor" 1 ["one","other"] K4)(c3E:Fn P w K mg base "is_whole" 1 ["thing"] a00):Fn P w K mg base "is_ratio" 2 ["thing"] a3E:=by
 have sc:=a7Y
 refine h7 d sc (by walk_at "len") (fun f cdv A outer s H E ds M R Y hr h=>?_)
 have hu:=hr.units
 obtain⟨x,rfl,k⟩:=h
 rcases k with⟨q,rfl,k⟩|⟨n,rfl,k⟩
 ·skip
  refine⟨_,(d4 (f6 (A8 (u8 (w6 (i0 (i4 (N5 T.sub) rfl T.b_isinstance o7 (a7 (a8 0) (a7 (N2 rfl T.b_tuple F5) a9))))) (A4 (jtm a0u (i4 C3 rfl T.b_len y4 (a7 (a8 0) a9)) d3)))) (d5 (d6 A1)) e9) (d4 (p8 (a8 0) (h8 (n:=2) rfl (d7 (jn 1 sc.nd) (d7 (jn 2 sc.nd) g9)))) (d4 (f6 (A8 (u8 (w6 (i0 (jc c3E hr (a7 (a8 1) a9)))) (u8 (w6 (i0 (jc c3E hr (a7 (a8 2) a9)))) (A4 (jtm a0n (a8 2) d3))))) (d5 (d6 A1)) e9) (d5 (d6 (jm G8 (jc c3P hr (a7 (i4 a0y rfl T.b_abs O9 (a7 (a8 1) a9)) (a7 (a8 2) a9))) d3)))))),?_⟩
  walk_at "sim"
  have h1:=q.den_pos
  have h2:q.num.natAbs.gcd q.den=1:=q.reduced
  refine⟨fun h=>absurd h (by omega),fun _=>?_⟩
  rw[h2]
  exact k
 ·skip
  refine⟨_,(d4 (f6 (A8 (u8 (w6 (i0 (i4 (N5 T.sub) rfl T.b_isinstance o7 (a7 (a8 0) (a7 (N2 rfl T.b_tuple F5) a9))))) (A4 (jtm a0u (i4 C3 rfl T.b_len y4 (a7 (a8 0) a9)) d3)))) (d5 (d6 A1)) e9) (d4 (p8 (a8 0) (h8 (n:=2) rfl (d7 (jn 1 sc.nd) (d7 (jn 2 sc.nd) g9)))) (d4 (f6 (A8 (u8 (w6 (i0 (jc c3E hr (a7 (a8 1) a9)))) (u8 (w6 (i0 (jc c3E hr (a7 (a8 2) a9)))) (A4 (jtm a0n (a8 2) d3))))) (d5 (d6 A1)) e9) (d5 (d6 (jm G8 (jc c3P hr (a7 (i4 a0y rfl T.b_abs O9 (a7 (a8 1) a9)) (a7 (a8 2) a9))) d3)))))),?_⟩
  walk_at "sim"
  exact k
theorem a4x(T:Txt K mg)(d:Df K mg "kept_right" Q2 ["table","numbers","k"])(c3V:Fn P w K mg base "less" 1 ["one","other"] a0A)(c3X:Fn P w K mg base "unsigned" 1 ["one"] b0I)(c3y:Fn P w K mg base "times" 3 ["one","other"] D5)(c4M:Fn P w K mg base "plus" 3 ["one","other"] a9i)(c3R:Fn P w K mg base "times" 3 ["one","other"] a2p)(c3H:Fn P w K mg base "t_of" 4 ["table"] a4u)(c3I:Fn P w K mg base "is_ratio" 2 ["thing"] a3E):Fn P w K mg base "kept_right" 5 ["table","numbers","k"] a9o:=by
 have sc:=a4h
 refine h7 d sc (by walk_at "len") (fun f cdv A outer s H E ds M R Y hr h=>?_)
 have hu:=hr.units
 obtain⟨x,l,d,rfl,m,rfl,⟨cd,hd,hl⟩,k⟩:=h
 have zt:sz (trQ m)≤231:=CD.tr cd
 have xf:=hl.xf
 have zr:=hl.r
 have zx:=hl.x
 have ax:=a5V l.1
 rcases k with⟨q,rfl,zq,k⟩|⟨n,rfl,k⟩
 ·skip
  have aq:=a5V q
  have s1:sz (1:Rat)=1:=RM.K6
  have qq:=RM.u3 q q
  have iff:N6 m l (.rat "kept" q) ↔ ¬ 1<j3 q∧q*q+1=trQ m*q∧q*l.1=l.2.1∧¬ l.2.2<j3 l.1:=⟨fun z=>by
   rcases z with⟨z,_⟩|⟨_,z⟩
   ·exact absurd z (by decide)
   ·exact z,fun z=>.inr ⟨rfl,z⟩⟩
  refine⟨_,(d4 (f6 (A8 (u8 (w6 (i0 (jc c3I hr (a7 (a8 2) a9)))) (A4 (i0 (jc c3V hr (a7 (j9 rfl T.c_ONE) (a7 (jc c3X hr (a7 (a8 2) a9)) a9))))))) (d5 (d6 A1)) e9) (d4 (p8 (a8 1) (h8 (n:=3) rfl (d7 (jn 3 sc.nd) (d7 (jn 4 sc.nd) (d7 (jn 5 sc.nd) g9))))) (d4 (f6 (jtm (a0v hu) (jc c4M hr (a7 (jc c3R hr (a7 (a8 2) (a7 (a8 2) a9))) (a7 (j9 rfl T.c_ONE) a9))) (jc c3R hr (a7 (jc c3H hr (a7 (a8 0) a9)) (a7 (a8 2) a9)))) (d5 (d6 A1)) e9) (d5 (d6 (r9 (jm (p9 hu) (jc c3y hr (a7 (a8 2) (a7 (a8 3) a9))) (a8 4)) (v7 (G5 (jc c3V hr (a7 (a8 5) (a7 (jc c3X hr (a7 (a8 3) a9)) a9))))))))))),?_⟩
  walk_at "sim"
  refine .inl ⟨q,rfl,?_,fun h1=>?_,fun h1=>⟨⟨by omega,c0k q⟩,⟨by omega,b7s _⟩,m,rfl,cd,⟨by omega,b4A (by omega) (by omega)⟩,fun h2=>?_,fun h2=>⟨by have:=c1P h2;omega,fun h3=>⟨by omega,?_⟩,fun h3=>?_⟩⟩⟩
  ·omega
  ·rw[u4 (fun z=>(iff.mp z).1 h1)]at k;exact k
  ·rw[u4 (fun z=>h2 (iff.mp z).2.1)]at k;exact k
  ·rw[show E9 m l (.rat "kept" q) = !decide (l.2.2<j3 l.1)from ?_]at k
   ·exact k
   ·by_cases hlt:l.2.2<j3 l.1
    ·rw[decide_eq_true hlt,u4 (fun z=>(iff.mp z).2.2.2 hlt)];rfl
    ·rw[decide_eq_false hlt,W8 (iff.mpr ⟨h1,h2,h3,hlt⟩)];rfl
  ·rw[u4 (fun z=>h3 (iff.mp z).2.2.1)]at k;exact k
 ·skip
  refine⟨_,(d4 (f6 (A8 (u8 (w6 (i0 (jc c3I hr (a7 (a8 2) a9)))) (A4 (i0 (jc c3V hr (a7 (j9 rfl T.c_ONE) (a7 (jc c3X hr (a7 (a8 2) a9)) a9))))))) (d5 (d6 A1)) e9) (d4 (p8 (a8 1) (h8 (n:=3) rfl (d7 (jn 3 sc.nd) (d7 (jn 4 sc.nd) (d7 (jn 5 sc.nd) g9))))) (d4 (f6 (jtm (a0v hu) (jc c4M hr (a7 (jc c3R hr (a7 (a8 2) (a7 (a8 2) a9))) (a7 (j9 rfl T.c_ONE) a9))) (jc c3R hr (a7 (jc c3H hr (a7 (a8 0) a9)) (a7 (a8 2) a9)))) (d5 (d6 A1)) e9) (d5 (d6 (r9 (jm (p9 hu) (jc c3y hr (a7 (a8 2) (a7 (a8 3) a9))) (a8 4)) (v7 (G5 (jc c3V hr (a7 (a8 5) (a7 (jc c3X hr (a7 (a8 3) a9)) a9))))))))))),?_⟩
  walk_at "sim"
  exact .inr ⟨n,rfl,k⟩
theorem a9A(T:Txt K mg)(d:Df K mg "less" a6d ["one","other"]):Fn P w K mg base "less" 1 ["one","other"] a3B:=by
 have sc:=b0K
 refine h7 d sc (by walk_at "len") (fun f cdv A outer s H E ds M R Y hr h=>?_)
 have hu:=hr.units
 obtain⟨q,T',B,rfl,⟨b0,zq,zB,zT⟩,k⟩:=h
 have e:decide (q<c7g T' B)=decide (q.num*B<T'*(q.den:Int)):=decide_eq_decide.mpr (b4i b0).symm
 rw[e]at k
 refine⟨_,(d5 (d6 (jm a0n (f7 i8 (jx (a8 0) d3) (jx (a8 1) d3)) (f7 i8 (jx (a8 1) d3) (jx (a8 0) d3))))),?_⟩
 walk_at "sim"
 exact⟨p7 _ _ (q9 q zq) zB (by decide),p7 _ _ zT (by rw[c6w];exact t9 q zq) (by decide),k⟩
theorem b6Z(T:Txt K mg)(d:Df K mg "same" a9a ["one","other"]):Fn P w K mg base "same" 1 ["one","other"] a9g:=by
 have sc:=b6s
 refine h7 d sc (by walk_at "len") (fun f cdv A outer s H E ds M R Y hr h=>?_)
 have hu:=hr.units
 obtain⟨a,b,q,rfl,⟨b0,za,zb,zq⟩,k⟩:=h
 have e:decide (c7g a b=q)=decide (a*(q.den:Int)=q.num*b):=decide_eq_decide.mpr (c0o b0)
 rw[e]at k
 refine⟨_,(d5 (d6 (jm G8 (f7 i8 (jx (a8 0) d3) (jx (a8 1) d3)) (f7 i8 (jx (a8 1) d3) (jx (a8 0) d3))))),?_⟩
 walk_at "sim"
 exact⟨p7 _ _ za (by rw[c6w];exact t9 q zq) (by decide),p7 _ _ (q9 q zq) zb (by decide),k⟩
theorem a6E(T:Txt K mg)(d:Df K mg "tops_over" U6 ["ratios","bottom"]):Fn P w K mg base "tops_over" 1 ["ratios","bottom"] b6w:=by
 have sc:=a5Y
 refine h7 d sc (by walk_at "len") (fun f cdv A outer s H E ds M R Y hr h=>?_)
 have hu:=hr.units
 obtain⟨x,b,rfl,qs,hx,⟨hl,hb,b0,hq⟩,k⟩:=h
 have hb':b<2 ^ 8501:=c6O hb (c79 (by decide) (by decide))
 have key:∀ s∈qs,IntMulOk s.num ((b:Int).fdiv (s.den:Int))∧CFd (b:Int) (s.den:Int):=fun s hs=>by
  obtain⟨_,hs⟩:=hq s hs
  have e1:((b:Int).fdiv (s.den:Int))=((b / s.den:Nat):Int):=by
   rw[N4 (by omega) (by omega)];norm_cast
  refine⟨?_,?_⟩
  ·rw[e1]
   exact p7 8900 8501 (q9 s hs) (by rw[c6w];exact c6O (c8H _ _) hb') (by decide)
  ·exact⟨by have:=s.den_pos;omega,by rw[c6w];exact c6A (E7 (t9 s hs) (by decide)) (by decide)⟩
 rcases hx with rfl|rfl
 all_goals
  refine⟨_,(d5 (d6 (X1 [1] ["one"] ["bottom"] rfl (by decide +kernel) rfl (by decide +kernel) (by decide +kernel) rfl (a0r ⟨rfl,rfl⟩) (a0r (Or.inl rfl)) (y7 (a8 0)) (fun _ _ _ _ _ _=>(jn 0 (show(["one","bottom"]:List Str).Nodup by decide +kernel))) (fun _ _ _ _ _ _=>v8) (fun _ _ _ _ _ _=>(f7 i8 (jx (a8 0) d3) (f7 E6 (a8 1) (jx (a8 0) d3))))))),?_⟩
  walk_at "sim"
  refine A6 (xs:=qs) (enc:=d8) (fun s=>D.int (s.num*(b:Int).fdiv (s.den:Int))) hl (by simp only[B9,j7]) (fun s hs Q hQ=>?_) k
  obtain⟨k1,k2⟩:=key s hs
  walk_at "sim"
  exact⟨k2,k1,hQ⟩
theorem a1L(T:Txt K mg)(d:Df K mg "common_bottom" J3 ["ratios"])(c3P:Fn P w K mg base "divisor" 1 ["one","other"] K4):Fn P w K mg base "common_bottom" 2 ["ratios"] b6A:=by
 have sc:=a1D
 refine h7 d sc (by walk_at "len") (fun f cdv A outer s H E ds M R Y hr h=>?_)
 have hu:=hr.units
 obtain⟨x,rfl,qs,hx,hz,k⟩:=h
 have key:∀(i:Nat) (b:Nat) (q:Rat),qs[i]? = some q→0<b→b≤2 ^ (szs (qs.take i))→(∀ r∈qs.take i,r.den ∣ b)→CFd (b:Int) ((c7e b q.den:Nat):Int)∧IntMulOk ((b:Int).fdiv ((c7e b q.den:Nat):Int)) (q.den:Int)∧((b:Int).fdiv ((c7e b q.den:Nat):Int))*(q.den:Int)=((b / c7e b q.den*q.den:Nat):Int)∧0<b / c7e b q.den*q.den∧b / c7e b q.den*q.den≤2 ^ (szs (qs.take (i+1)))∧(∀ r∈qs.take (i+1),r.den ∣ b / c7e b q.den*q.den)∧(b ∣ ((qs.take i).map fun q:Rat=>q.den).prod→b / c7e b q.den*q.den ∣ ((qs.take (i+1)).map fun q:Rat=>q.den).prod):=fun i b q hq b0 bl hd=>by
  have q0:=q.den_pos
  have ql:=t9 q (c6U _)
  have zt:=b3r hq
  have zl:=b9j qs i
  have zm:=a5U (c6J hq)
  have g0:=c7W b q0
  have gl:c7e b q.den<2 ^ sz q:=c6O (c84 b q0) ql
  obtain⟨c,hc⟩:=Nat.gcd_dvd_left b q.den
  have ec:b / c7e b q.den=c:=by
   conv=>lhs;lhs;rw[hc]
   exact Nat.mul_div_cancel_left c g0
  have e1:((b:Int).fdiv ((c7e b q.den:Nat):Int))=(c:Int):=by
   rw[N4 (by omega) (by omega),← ec];norm_cast
  have cb:c≤b:=by rw[← ec];exact c8H _ _
  have c0:0<c:=Nat.pos_of_ne_zero fun z=>by rw[z,Nat.mul_zero]at hc;omega
  rw[e1,ec]
  have bl3:b<2 ^ (szs (qs.take i)+1):=by rw[c8N];have:=c7O (szs (qs.take i));omega
  refine⟨⟨by omega,by rw[c6w];exact c6A (E7 (p0 gl (show sz q≤8500 by omega)) (by decide)) (by decide)⟩,p7 8501 8500 (by rw[c6w];exact p0 (c6O cb bl3) (by omega)) (by rw[c6w];exact p0 ql (by omega)) (by decide),by rw[c7t],c81 c0 q0,?_,fun r hr=>?_,fun hp=>?_⟩
  ·rw[zt,c8Y]
   exact c74 (c6D cb bl) (c8q ql)
  ·rw[c7X,hq]at hr
   rcases c6R.mp hr with hr|hr
   ·obtain⟨e,he⟩:=hd r hr
    obtain⟨f',hf⟩:=Nat.gcd_dvd_right b q.den
    refine Nat.dvd_trans (hd r hr) ?_
    rw[hf]
    refine⟨f',?_⟩
    conv=>rhs;lhs;rw[hc]
    rw[c89 _ c,c9v]
   ·rw[c6N.mp hr];exact Nat.dvd_mul_left _ _
  ·rw[c7X,hq,c6P,List.prod_append]
   show c*q.den ∣ _*(q.den*1)
   rw[Nat.mul_one]
   exact Nat.mul_dvd_mul (Nat.dvd_trans ⟨c7e b q.den,by rw[c89];exact hc⟩ hp) (Nat.dvd_refl _)
 rcases hx with rfl|rfl
 all_goals
  refine⟨_,(d4 (jst 1 sc.nd d3) (d4 (v6 PassesOwn.never rfl (y7 (a8 0)) (jn 2 sc.nd) (d5 (jst 1 sc.nd (f7 i8 (f7 E6 (a8 1) (jc c3P hr (a7 (a8 1) (a7 (jx (a8 2) d3) a9)))) (jx (a8 2) d3))))) (d5 (d6 (a8 1))))),?_⟩
  walk_at "sim"
  refine P1.by (fun i e M'=>M'=M∧∃(b:Nat) (z:Option D),e=[some _,some (.int (b:Int)),z]∧0<b∧b≤2 ^ (szs (qs.take i))∧(∀ r∈qs.take i,r.den ∣ b)∧b ∣ ((qs.take i).map fun q:Rat=>q.den).prod) ⟨rfl,1,_,rfl,by decide,by show 1≤2 ^ 0;decide,fun r hr=>(by cases hr),Nat.dvd_refl _⟩ (fun _ _ _ _ _=>by simp only[B9,j7]) ?_ ?_
  ·rintro i dd e M' hd ⟨rfl,b,z,rfl,b0,bl,hdv,hdp⟩
   rw[c6K]at hd
   obtain⟨q,hq,rfl⟩:=c7z.mp hd
   obtain⟨k1,k2,k3,k4,k5,k6,k7⟩:=key i b q hq b0 bl hdv
   walk_at "sim"
   exact⟨k1,k2,_,some (d8 q),by rw[k3],k4,k5,k6,k7 hdp⟩
  ·rintro e M' ⟨rfl,b,z,rfl,b0,bl,hdv,hdp⟩
   rw[c6x,c6X]at *
   walk_at "sim"
   exact k b b0 bl hdv hdp
theorem b3Z(T:Txt K mg)(d:Df K mg "swing" a59 ["t","x","later"])(c4k:Fn P w K mg base "tops_over" 1 ["ratios","bottom"] b6w)(c3T:Fn P w K mg base "common_bottom" 2 ["ratios"] b6A):Fn P w K mg base "swing" 3 ["t","x","later"] a6j:=by
 have sc:=b3v
 refine h7 d sc (by walk_at "len") (fun f cdv A outer s H E ds M R Y hr h=>?_)
 have hu:=hr.units
 obtain⟨t,x,f',rfl,⟨ht,hz⟩,k⟩:=h
 have es:szs [x,f']=sz x+sz f':=by unfold szs;simp only[c7C,c8g,List.sum_cons,List.sum_nil];omega
 have xn:=J6 x
 have xd:=E8 x
 have fn:=J6 f'
 have fd:=E8 f'
 rw[c6w]at xd fd
 refine⟨_,(d4 (jst 3 sc.nd (jc c3T hr (a7 (d9 (a7 (a8 1) (a7 (a8 2) a9))) a9))) (d4 (p8 (jc c4k hr (a7 (d9 (a7 (a8 1) (a7 (a8 2) a9))) (a7 (a8 3) a9))) (a8r (n:=2) rfl (d7 (jn 4 sc.nd) (d7 (jn 5 sc.nd) g9)))) (d5 (d6 (d9 (a7 (f7 a18 (f7 i8 (jx (a8 0) d3) (f7 D9 (f7 i8 (a8 4) (a8 4)) (f7 i8 (a8 5) (a8 5)))) (f7 i8 (f7 i8 (jx (a8 0) d3) (a8 4)) (a8 5))) (a7 (f7 i8 (a8 3) (a8 3)) a9))))))),?_⟩
 walk_at "sim"
 refine⟨[x,f'],.inl rfl,by omega,fun B B0 Bl hB _=>⟨[x,f'],.inl rfl,⟨by show 2≤1000;decide,c6D Bl (c6T (by decide) (by omega)),B0,fun q hq=>⟨hB q hq,?_⟩⟩,?_⟩⟩
 ·have:=a5U hq;omega
 have cl1:B<2 ^ 4201:=c6O Bl (c79 (by decide) (by omega))
 obtain⟨o1,o2⟩:=U3 (hB x (by simp))
 obtain⟨p1,p2⟩:=U3 (hB f' (by simp))
 have o3:(x.num*(B:Int).fdiv (x.den:Int)).natAbs<2 ^ 8401:=by
  refine c6O o2 (c6A (o9 xn cl1) (c6T (by decide) (by omega)))
 have p3:(f'.num*(B:Int).fdiv (f'.den:Int)).natAbs<2 ^ 8401:=by
  refine c6O p2 (c6A (o9 fn cl1) (c6T (by decide) (by omega)))
 walk_at "sim"
 generalize x.num*(B:Int).fdiv (x.den:Int)=O at *
 generalize f'.num*(B:Int).fdiv (f'.den:Int)=P at *
 have td:=t9 t ht
 have tn:=q9 t ht
 have td':(t.den:Int).natAbs<2 ^ 231:=by rw[c6w];exact td
 have B':(B:Int).natAbs<2 ^ 4201:=by rw[c6w];exact cl1
 have oo:=e7 o3 o3
 have pp:=e7 p3 p3
 have op:=b5h oo pp
 have tdo:=e7 td' op
 have tno:=e7 tn o3
 have tnop:=e7 tno p3
 refine⟨p7 _ _ o3 o3 (by decide),p7 _ _ p3 p3 (by decide),p7 _ _ td' op (by decide),p7 _ _ tn o3 (by decide),p7 _ _ tno p3 (by decide),p7 _ _ B' B' (by decide),?_⟩
 refine k _ _ ?_ ?_ ?_ ?_
 ·have:(0:Int)<(B:Int):=by omega
  exact Int.mul_pos this this
 ·exact p0 (e7 B' B') (by decide)
 ·exact p0 (a0X (p0 tdo (show _≤17034 by decide)) (p0 tnop (by decide))) (by decide)
 ·have e:=u9 t
  rw[c8k,c6B,c7P,c6B,c6B,c6B,c6B,c6B,c6C,c6C,o1,p1,← e]
  grind
theorem a8d(T:Txt K mg)(d:Df K mg "reach_by" a0G ["t","x","later"])(c5r:Fn P w K mg base "swing" 3 ["t","x","later"] a6j):Fn P w K mg base "reach_by" 4 ["t","x","later"] b0L:=by
 have sc:=a7U
 refine h7 d sc (by walk_at "len") (fun f cdv A outer s H E ds M R Y hr h=>?_)
 have hu:=hr.units
 obtain⟨t,x,f',rfl,⟨ht,t1,t2,hz⟩,k⟩:=h
 have td:=t9 t ht
 have tn:=q9 t ht
 have td':(t.den:Int).natAbs<2 ^ 231:=by rw[c6w];exact td
 have e:=u9 t
 have d0:(0:Rat)<(t.den:Rat):=by
  have:=t.den_pos
  exact_mod_cast this
 have h4:=b0D t1 t2
 refine⟨_,(d4 (p8 (jc c5r hr (a7 (a8 0) (a7 (a8 1) (a7 (a8 2) a9)))) (h8 (n:=2) rfl (d7 (jn 3 sc.nd) (d7 (jn 4 sc.nd) g9)))) (d5 (d6 (d9 (a7 (f7 i8 (f7 i8 d3 (a8 3)) (jx (a8 0) d3)) (a7 (f7 i8 (a8 4) (f7 a18 (f7 i8 (f7 i8 d3 (jx (a8 0) d3)) (jx (a8 0) d3)) (f7 i8 (jx (a8 0) d3) (jx (a8 0) d3)))) a9)))))),?_⟩
 walk_at "sim"
 refine⟨⟨ht,hz⟩,fun T B b0 bB bT eT=>?_⟩
 have t4d:(4*(t.den:Int)).natAbs<2 ^ (3+231):=e7 (show(4:Int).natAbs<2 ^ 3 by decide) td'
 have tdd:=e7 t4d td'
 have tnn:=e7 tn tn
 have bd:=a0X tdd (p0 tnn (by decide))
 have rat:(((4*(t.den:Int)*(t.den:Int) - t.num*t.num:Int)):Rat)=(4 - t*t)*((t.den:Rat)*(t.den:Rat)):=by
  rw[c8k,c6B,c6B,c6B,c6C,← e]
  rw[show(((4:Int)):Rat)=4 from rfl]
  grind
 have pos:0<4*(t.den:Int)*(t.den:Int) - t.num*t.num:=by
  have:(0:Rat)<((4*(t.den:Int)*(t.den:Int) - t.num*t.num:Int):Rat):=by
   rw[rat];exact c8p h4 (c8p d0 d0)
  exact_mod_cast this
 have t4:=e7 (show(4:Int).natAbs<2 ^ 3 by decide) bT
 have t4t:=e7 t4 td'
 refine⟨a8o (by decide) (by decide),p7 _ _ t4 td' (by decide),a8o (by decide) (by decide),p7 _ _ t4d td' (by decide),p7 _ _ tn tn (by decide),p7 _ _ bB bd (by decide),?_⟩
 refine k _ _ (Int.mul_pos b0 pos) (p0 (e7 bB bd) (by decide)) (p0 t4t (by decide)) ?_
 have b0':(0:Rat)<(B:Rat):=by exact_mod_cast b0
 rw[c7q,c6B,c6B,c6B,rat,eT,c6C]
 unfold S5
 rw[show(((4:Int)):Rat)=4 from rfl]
 exact b6D (fun z=>by rw[z]at d0;exact absurd d0 (by decide)) (fun z=>by rw[z]at b0';exact absurd b0' (by decide)) (fun z=>by rw[z]at h4;exact absurd h4 (by decide))
theorem a1l(T:Txt K mg)(d:Df K mg "rounds_to_self" F6 ["table"])(c3G:Fn P w K mg base "opposite" 1 ["one"] a5x)(c3H:Fn P w K mg base "t_of" 4 ["table"] a4u):Fn P w K mg base "rounds_to_self" 5 ["table"] b3B:=by
 have sc:=a01
 refine h7 d sc (by walk_at "len") (fun f cdv A outer s H E ds M R Y hr h=>?_)
 have hu:=hr.units
 obtain⟨x,rfl,⟨a,b,c,d⟩,hx,cd,k⟩:=h
 have hx':x=a1A a b c d:=hx
 subst hx'
 refine⟨_,(d4 (f6 (jtm (p9 hu) (a8 0) (j9 rfl T.c_SELF)) (d5 (d6 d3)) e9) (d4 (f6 (jtm (p9 hu) (a8 0) (a2G b5e rfl T.b_tuple F5 (a7 (X1 [] ["entry"] [] rfl (by decide +kernel) rfl (by decide +kernel) (by decide +kernel) rfl a0s a0s (y7 (j9 rfl T.c_SELF)) (fun _ _ _ _ _ _=>(jn 0 (show(["entry"]:List Str).Nodup by decide +kernel))) (fun _ _ _ _ _ _=>v8) (fun _ _ _ _ _ _=>(jc c3G hr (a7 (a8 0) a9)))) a9))) (d5 (d6 d3)) e9) (d4 (jst 1 sc.nd (jc c3H hr (a7 (a8 0) a9))) (d4 (f6 (jtm (p9 hu) (a8 1) (jc c3G hr (a7 (j9 rfl T.c_ONE) a9))) (d5 (d6 d3)) e9) (d4 (f6 (jtm (p9 hu) (a8 1) (j9 rfl T.c_NOUGHT)) (d5 (d6 d3)) e9) (d5 (d6 (a8t (jtm (p9 hu) (a8 1) (j9 rfl T.c_ONE)) d3 C7)))))))),?_⟩
 walk_at "sim"
 refine⟨fun e=>?_,fun e=>?_⟩
 ·have e:=a7O (m:=(a,b,c,d)) (k:=(1,0,0,1)) (@of_decide_eq_true _ (c7v _) e)
  unfold a1G at k
  rw[if_pos e]at k
  exact k
 ·have e1:¬ (a,b,c,d)=((1,0,0,1):Q4):=fun z=>@of_decide_eq_false _ (c7v _) e (congrArg K5 z)
  refine A6 (xs:=[1,0,0,1]) (enc:=d8) (fun q=>d8 (-q)) (by show 4≤1000;decide) (by simp only[B9]) (fun q hq Q hQ=>?_) ?_
  ·walk_at "sim"
   exact hQ
  ·walk_at "sim"
   unfold a1G at k
   rw[if_neg e1]at k
   refine⟨fun e=>?_,fun e=>⟨(a,b,c,d),rfl,cd,fun e3=>?_,fun e3=>⟨fun e4=>?_,fun e4=>⟨fun e5=>?_,fun e5=>?_⟩⟩⟩⟩
   ·have e:=a7O (m:=(a,b,c,d)) (k:=(-1,0,0,-1)) e
    rw[if_pos e]at k
    exact k
   ·have e2:¬ (a,b,c,d)=((-1,0,0,-1):Q4):=fun z=>e (congrArg K5 z)
    rw[if_neg e2,if_pos e3]at k
    exact k
   ·have e2:¬ (a,b,c,d)=((-1,0,0,-1):Q4):=fun z=>e (congrArg K5 z)
    rw[if_neg e2,if_neg e3,if_pos e4]at k
    exact k
   ·have e2:¬ (a,b,c,d)=((-1,0,0,-1):Q4):=fun z=>e (congrArg K5 z)
    rw[if_neg e2,if_neg e3,if_neg e4,if_pos e5]at k
    exact k
   ·have e2:¬ (a,b,c,d)=((-1,0,0,-1):Q4):=fun z=>e (congrArg K5 z)
    rw[if_neg e2,if_neg e3,if_neg e4,if_neg e5]at k
    exact k
theorem a6I(T:Txt K mg)(d:Df K mg "kind_word" V0 ["table"])(c3V:Fn P w K mg base "less" 1 ["one","other"] a0A)(c3X:Fn P w K mg base "unsigned" 1 ["one"] b0I)(c3H:Fn P w K mg base "t_of" 4 ["table"] a4u)(c3D:Fn P w K mg base "rounds_to_self" 5 ["table"] b3B):Fn P w K mg base "kind_word" 6 ["table"] sKw:=by
 have sc:=a52
 refine h7 d sc (by walk_at "len") (fun f cdv A outer s H E ds M R Y hr h=>?_)
 have hu:=hr.units
 obtain⟨x,rfl,⟨a,b,c,d⟩,hx,cd,k⟩:=h
 have hx':x=a1A a b c d:=hx
 subst hx'
 have ht:sz (trQ (a,b,c,d))≤231:=CD.tr cd
 have hs:=GM.a5V (trQ (a,b,c,d))
 have z2:sz 2≤2:=by decide +kernel
 refine⟨_,(d4 (f6 (jtm b0Z (jc c3D hr (a7 (a8 0) a9)) C7) (d5 (d6 g8)) e9) (d4 (jst 1 sc.nd (jc c3X hr (a7 (jc c3H hr (a7 (a8 0) a9)) a9))) (d4 (f6 (jtm (p9 hu) (a8 1) (j9 rfl T.c_TWO)) (d5 (d6 g8)) e9) (d5 (d6 (a8t (i0 (jc c3V hr (a7 (a8 1) (a7 (j9 rfl T.c_TWO) a9)))) g8 g8)))))),?_⟩
 walk_at "sim"
 refine⟨(a,b,c,d),rfl,cd,?_⟩
 unfold kwS at k
 by_cases h1:B2 (a,b,c,d)
 ·rw[if_pos h1]at k
  obtain⟨n,e⟩:=b0O h1
  rw[e,a4d rfl]
  walk_at "sim"
  exact k
 ·rw[if_neg h1]at k
  rw[a6z h1,a4d rfl]
  walk_at "sim"
  refine⟨(a,b,c,d),rfl,cd,fun e=>?_,fun e=>⟨by omega,fun e2=>?_,fun e2=>?_⟩⟩
  ·rw[if_pos e]at k;exact k
  ·rw[if_neg e,if_pos e2]at k;exact k
  ·rw[if_neg e,if_neg e2]at k;exact k
theorem a3M(T:Txt K mg)(d:Df K mg "reach_right" O1 ["table","numbers","s"])(c3U:Fn P w K mg base "less" 1 ["one","other"] a3B)(c3y:Fn P w K mg base "times" 3 ["one","other"] D5)(c5s:Fn P w K mg base "same" 1 ["one","other"] a9g)(c4h:Fn P w K mg base "reach_by" 4 ["t","x","later"] b0L)(c3H:Fn P w K mg base "t_of" 4 ["table"] a4u)(c4a:Fn P w K mg base "kind_word" 6 ["table"] sKw)(c3I:Fn P w K mg base "is_ratio" 2 ["thing"] a3E):Fn P w K mg base "reach_right" 7 ["table","numbers","s"] a3y:=by
 have sc:=a3n
 refine h7 d sc (by walk_at "len") (fun f cdv A outer s H E ds M R Y hr h=>?_)
 have hu:=hr.units
 obtain⟨x,l,d,rfl,m,rfl,⟨cd,hd,hl⟩,k⟩:=h
 have zt:sz (trQ m)≤231:=CD.tr cd
 have xf:=hl.xf
 have zr:=hl.r
 have zrr:=RM.u3 l.2.2 l.2.2
 rcases k with⟨q,rfl,zq,k⟩|⟨n,rfl,k⟩
 ·skip
  refine⟨_,(d4 (f6 (A8 (u8 (w6 (i0 (jc c3I hr (a7 (a8 2) a9)))) (A4 (jtm a5C (jc c4a hr (a7 (a8 0) a9)) g8)))) (d5 (d6 A1)) e9) (d4 (p8 (a8 1) (h8 (n:=3) rfl (d7 (jn 3 sc.nd) (d7 (jn 4 sc.nd) (d7 (jn 5 sc.nd) g9))))) (d5 (d6 (r9 (jc c5s hr (a7 (jc c4h hr (a7 (jc c3H hr (a7 (a8 0) a9)) (a7 (a8 3) (a7 (a8 4) a9)))) (a7 (a8 2) a9))) (v7 (G5 (jc c3U hr (a7 (jc c3y hr (a7 (a8 5) (a7 (a8 5) a9))) (a7 (a8 2) a9)))))))))),?_⟩
  walk_at "sim"
  refine .inl ⟨q,rfl,m,rfl,cd,fun hw=>?_,fun hw=>⟨m,rfl,cd,?_⟩⟩
  ·rw[u4 (fun z=>?_)]at k
   ·exact k
   ·rcases z with⟨_,⟨z1,z2⟩,_⟩|⟨z,_⟩
    ·apply hw
     unfold kwS
     rw[if_neg z1,if_neg (fun z3=>by rw[z3]at z2;exact absurd z2 (by decide)),if_pos z2]
    ·exact absurd z (by decide)
  ·obtain⟨hs,h2⟩:¬ B2 m∧j3 (trQ m)<2:=by
    rcases a3Z m with⟨_,e⟩|⟨_,_,e⟩|⟨c1,_,c3,e⟩|⟨_,_,_,e⟩
    ·rw[e]at hw;exact absurd hw (by decide)
    ·rw[e]at hw;exact absurd hw (by decide)
    ·exact⟨c1,c3⟩
    ·rw[e]at hw;exact absurd hw (by decide)
   obtain⟨t1,t2⟩:=K2.mp h2
   refine⟨⟨zt,t1,t2,xf⟩,fun T B b0 bB bT eT=>⟨⟨b0,p0 bT (by decide),p0 bB (by decide),by omega⟩,fun he=>⟨by omega,?_⟩,fun he=>?_⟩⟩
   ·refine⟨l.2.2*l.2.2,q.num,(q.den:Int),rfl,⟨by have:=q.den_pos;omega,by omega,by rw[c6w];exact t9 _ (by omega),q9 _ (by omega)⟩,?_⟩
    rw[c76]
    walk_at "sim"
    rw[show E9 m l (.rat "reach" q) = !decide (l.2.2*l.2.2<q)from ?_]at k
    ·exact k
    ·by_cases hlt:l.2.2*l.2.2<q
     ·rw[decide_eq_true hlt,u4 (fun z=>?_)];rfl
      rcases z with⟨_,_,_,z⟩|⟨z,_⟩
      ·exact z hlt
      ·exact absurd z (by decide)
     ·rw[decide_eq_false hlt,W8 (show N6 m l (.rat "reach" q)from .inl ⟨rfl,⟨hs,h2⟩,by rw[← eT];exact he,hlt⟩)];rfl
   ·rw[u4 (fun z=>?_)]at k
    ·exact k
    ·rcases z with⟨_,_,z,_⟩|⟨z,_⟩
     ·exact he (by rw[eT];exact z)
     ·exact absurd z (by decide)
 ·skip
  refine⟨_,(d4 (f6 (A8 (u8 (w6 (i0 (jc c3I hr (a7 (a8 2) a9)))) (A4 (jtm a5C (jc c4a hr (a7 (a8 0) a9)) g8)))) (d5 (d6 A1)) e9) (d4 (p8 (a8 1) (h8 (n:=3) rfl (d7 (jn 3 sc.nd) (d7 (jn 4 sc.nd) (d7 (jn 5 sc.nd) g9))))) (d5 (d6 (r9 (jc c5s hr (a7 (jc c4h hr (a7 (jc c3H hr (a7 (a8 0) a9)) (a7 (a8 3) (a7 (a8 4) a9)))) (a7 (a8 2) a9))) (v7 (G5 (jc c3U hr (a7 (jc c3y hr (a7 (a8 5) (a7 (a8 5) a9))) (a7 (a8 2) a9)))))))))),?_⟩
  walk_at "sim"
  exact .inr ⟨n,rfl,k⟩
theorem a4v(T:Txt K mg)(d:Df K mg "next_state" Q0 ["t","state"]):Fn P w K mg base "next_state" 1 ["t","state"] a6s:=by
 have sc:=a4f
 refine h7 d sc (by walk_at "len") (fun f cdv A outer s H E ds M R Y hr h=>?_)
 have hu:=hr.units
 obtain⟨t,x,rfl,s,rfl,⟨ht,kk,b1,b2,b3,hk⟩,k⟩:=h
 have td:=t9 t ht
 have tn:=q9 t ht
 have td':(t.den:Int).natAbs<2 ^ 231:=by rw[c6w];exact td
 unfold stD at *
 refine⟨_,(d4 (p8 (a8 1) (h8 (n:=3) rfl (d7 (jn 2 sc.nd) (d7 (jn 3 sc.nd) (d7 (jn 4 sc.nd) g9))))) (d5 (d6 (d9 (a7 (a8 3) (a7 (f7 a18 (f7 i8 (jx (a8 0) d3) (a8 3)) (f7 i8 (f7 i8 (jx (a8 0) d3) (jx (a8 0) d3)) (a8 2))) (a7 (f7 i8 (a8 4) (jx (a8 0) d3)) a9))))))),?_⟩
 walk_at "sim"
 exact⟨p7 _ _ tn b2 (by omega),p7 _ _ td' td' (by decide),p7 _ _ (e7 td' td') b1 (by omega),p7 _ _ b3 td' (by omega),k⟩
theorem a3Q(T:Txt K mg)(d:Df K mg "first_state" O4 ["t","x","later","r"])(c4k:Fn P w K mg base "tops_over" 1 ["ratios","bottom"] b6w)(c3T:Fn P w K mg base "common_bottom" 2 ["ratios"] b6A):Fn P w K mg base "first_state" 3 ["t","x","later","r"] a3F:=by
 have sc:=a3q
 refine h7 d sc (by walk_at "len") (fun f cdv A outer s H E ds M R Y hr h=>?_)
 have hu:=hr.units
 obtain⟨t,x,f',r,rfl,⟨ht,hz,zx,zf,zr⟩,k⟩:=h
 have es:szs [x,f',r]=sz x+sz f'+sz r:=by unfold szs;simp only[c7C,c8g,List.sum_cons,List.sum_nil];omega
 have td:=t9 t ht
 have td':(t.den:Int).natAbs<2 ^ 231:=by rw[c6w];exact td
 refine⟨_,(d4 (jst 4 sc.nd (d9 (a7 (a8 1) (a7 (a8 2) (a7 (a8 3) a9))))) (d4 (p8 (jc c4k hr (a7 (a8 4) (a7 (jc c3T hr (a7 (a8 4) a9)) a9))) (a8r (n:=3) rfl (d7 (jn 5 sc.nd) (d7 (jn 6 sc.nd) (d7 (jn 7 sc.nd) g9))))) (d5 (d6 (d9 (a7 (a8 5) (a7 (f7 i8 (a8 6) (jx (a8 0) d3)) (a7 (a8 7) a9)))))))),?_⟩
 walk_at "sim"
 refine⟨[x,f',r],.inl rfl,by omega,fun B B0 Bl hB _=>⟨[x,f',r],.inl rfl,⟨by show 3≤1000;decide,c6D Bl (c6T (by decide) (by omega)),B0,fun q hq=>⟨hB q hq,?_⟩⟩,?_⟩⟩
 ·have:=a5U hq;omega
 have Bb:B<2 ^ 8501:=c6O Bl (c79 (by decide) (by omega))
 obtain⟨o1,o2⟩:=U3 (hB x (by simp))
 obtain⟨p1,p2⟩:=U3 (hB f' (by simp))
 obtain⟨q1,q2⟩:=U3 (hB r (by simp))
 have n1:=c6O o2 (o9 (q9 x zx) Bb)
 have n2:=c6O p2 (o9 (q9 f' zf) Bb)
 have n3:=c6O q2 (o9 (q9 r zr) Bb)
 walk_at "sim"
 generalize x.num*(B:Int).fdiv (x.den:Int)=a at *
 generalize f'.num*(B:Int).fdiv (f'.den:Int)=b at *
 generalize r.num*(B:Int).fdiv (r.den:Int)=c at *
 refine⟨p7 _ _ n2 td' (by decide),?_⟩
 refine k (a,b*(t.den:Int),c) ⟨⟨B,B0,o1,?_,q1⟩,p0 n1 (by decide),p0 (e7 n2 td') (by decide),p0 n3 (by decide)⟩
 show((b*(t.den:Int):Int):Rat)=f'*((B:Rat)*(t.den:Rat))
 rw[c6B,p1,c6C];grind
theorem a3J(T:Txt K mg)(d:Df K mg "stop_within" N8 ["t","numbers","watched","rounds"])(c4B:Fn P w K mg base "next_state" 1 ["t","state"] a6s)(c4x:Fn P w K mg base "first_state" 3 ["t","x","later","r"] a3F):Fn P w K mg base "stop_within" 4 ["t","numbers","watched","rounds"] a9f:=by
 have sc:=a3k
 refine h7 d sc (by walk_at "len") (fun f cdv A outer s H E ds M R Y hr h=>?_)
 have hu:=hr.units
 obtain⟨t,x,y,N,rfl,ls,ws,rfl,rfl,⟨ht,⟨hl,hw⟩,hN,hok,hk⟩,k⟩:=h
 have at':∀ j∈ws,∃ l,ls[j]? = some l∧ls.getD j (0,0,0)=l∧a4S l:=fun j hj=>by
  have h1:=c7c (hk j hj)
  exact⟨_,h1,by rw[c78,h1];rfl,hok _ (c6J h1)⟩
 have bA:∀ j∈ws,∀ n,U1 t ls j n=decide (a0q t (ls.getD j (0,0,0)) n):=fun j hj n=>by
  obtain⟨l,h1,h2,_⟩:=at' j hj
  unfold U1;rw[h1,h2]
 refine⟨_,(d4 (y8 (i:=4) [0] ["x","later","r"] ["t"] sc.nd rfl (Or.inl rfl) rfl (by decide +kernel) rfl (by decide +kernel) (by decide +kernel) rfl (a0r ⟨rfl,rfl⟩) (a0r (Or.inl rfl)) (y7 (X1 [1] ["k"] ["numbers"] rfl (by decide +kernel) rfl (by decide +kernel) (by decide +kernel) rfl (a0r ⟨rfl,rfl⟩) (a0r (Or.inl rfl)) (y7 (a8 2)) (fun _ _ _ _ _ _=>(jn 0 (show(["k","numbers"]:List Str).Nodup by decide +kernel))) (fun _ _ _ _ _ _=>v8) (fun _ _ _ _ _ _=>(jx (a8 1) (a8 0))))) (fun _ _ _ _ _ _=>(h8 (n:=3) rfl (d7 (jn 0 (show(["x","later","r","t"]:List Str).Nodup by decide +kernel)) (d7 (jn 1 (show(["x","later","r","t"]:List Str).Nodup by decide +kernel)) (d7 (jn 2 (show(["x","later","r","t"]:List Str).Nodup by decide +kernel)) g9))))) (fun _ _ _ _ _ _=>v8) (fun _ _ _ _ _ _=>(jc c4x hr (a7 (a8 3) (a7 (a8 0) (a7 (a8 1) (a7 (a8 2) a9))))))) (d4 (v6 PassesOwn.never rfl (Z8 rfl T.b_range (a7 (a8 3) a9)) (jn 5 sc.nd) (d4 (v6 PassesOwn.never rfl (a2F rfl T.b_zip (a7 (a8 2) (a7 (a8 4) a9))) (h8 (n:=2) rfl (d7 (jn 6 sc.nd) (d7 (jn 7 sc.nd) g9))) (d5 (f6 (jtm a2j (i4 a0y rfl T.b_abs O9 (a7 (jx (a8 7) d3) a9)) (jx (a8 7) d3)) (d5 (d6 (d9 (a7 (a8 5) (a7 (a8 6) a9))))) e9))) (d5 (y8 (i:=4) [0] ["state"] ["t"] sc.nd rfl (Or.inl rfl) rfl (by decide +kernel) rfl (by decide +kernel) (by decide +kernel) rfl (a0r ⟨rfl,rfl⟩) (a0r (Or.inl rfl)) (y7 (a8 4)) (fun _ _ _ _ _ _=>(jn 0 (show(["state","t"]:List Str).Nodup by decide +kernel))) (fun _ _ _ _ _ _=>v8) (fun _ _ _ _ _ _=>(jc c4B hr (a7 (a8 1) (a7 (a8 0) a9)))))))) (d5 (d6 C7)))),?_⟩
 walk_at "sim"
 refine A6 (xs:=ws) (enc:=fun k:Nat=>D.int (k:Int)) (fun k=>p5 (ls.getD k (0,0,0))) (by omega) (by simp only[j7]) (fun j hj Q hQ=>?_) ?_
 ·obtain⟨l,h1,h2,_⟩:=at' j hj
  walk_at "sim"
  exact⟨_,A2 (n:=j) (by rw[c6K,h1,h2];rfl),hQ⟩
 walk_at "sim"
 refine a8D stD (fun i s=>∃ k,ws[i]? = some k∧a4R t (ls.getD k (0,0,0)) 0 s) (by rw[c6x];omega) (by simp only[j7]) (fun i d hd Q hQ=>?_) (fun ss hlen hss=>?_)
 ·rw[c6K]at hd
  obtain⟨j,hj,rfl⟩:=c7z.mp hd
  obtain⟨l,h1,h2,h3⟩:=at' j (c6J hj)
  rw[h2]
  walk_at "sim"
  have:=h3.xf;have:=h3.x;have:=h3.f;have:=h3.r
  exact⟨⟨ht,by omega,by omega,by omega,by omega⟩,fun s hs=>hQ s ⟨j,hj,by rw[h2];exact hs⟩⟩
 rw[c6x]at hlen
 refine⟨⟨by omega,by omega⟩,?_⟩
 rw[c7A]
 refine P1.by (fun i e M'=>M'=M∧∃(ss:List (Int × Int × Int)) (z5 z6 z7:Option D),e=[some (d8 t),some (.vl (ls.map p5)),some (.vl (ws.map fun k:Nat=>D.int (k:Int))),some (.int (N:Int)),some (.vl (ss.map stD)),z5,z6,z7]∧ss.length=ws.length∧(∀ j s,ss[j]? = some s→∃ k,ws[j]? = some k∧a4R t (ls.getD k (0,0,0)) i s)∧∀ n,n<i→∀ k∈ws,U1 t ls k n=false) ⟨rfl,ss,_,_,_,rfl,hlen,hss,fun n hn=>absurd hn (by omega)⟩ (fun _ _ _ _ _=>trivial) ?_ ?_
 ·rintro i dd e M' hd ⟨rfl,ss,z5,z6,z7,rfl,hlen,hss,hno⟩
  obtain⟨hi,rfl⟩:=a1J hd
  rw[show(0:Int)+(i:Int)=(i:Int)by omega]
  walk_at "sim"
  refine P1.by (fun j e M''=>M''=M'∧∃(z6 z7:Option D),e=[some (d8 t),some (.vl (ls.map p5)),some (.vl (ws.map fun k:Nat=>D.int (k:Int))),some (.int (N:Int)),some (.vl (ss.map stD)),some (.int (i:Int)),z6,z7]∧∀ j',j'<j→∀ k',ws[j']? = some k'→U1 t ls k' i=false) ⟨rfl,_,_,rfl,fun j hj=>absurd hj (by omega)⟩ (fun _ _ _ _ _=>by simp only[j7,and_self]) ?_ ?_
  ·rintro j dd e M'' hd2 ⟨rfl,z6,z7,rfl,hn2⟩
   obtain⟨k',s',rfl,hkj,hsj⟩:∃(k':Nat) (s':Int × Int × Int),dd = .tup [.int (k':Int),stD s']∧ws[j]? = some k'∧ss[j]? = some s':=by
    unfold T9 at hd2
    rw[c7S,c6K,c6K]at hd2
    cases h1:ws[j]? with
    | none=>rw[h1]at hd2;simp at hd2
    | some a =>
     cases h2:ss[j]? with
     | none=>rw[h1,h2]at hd2;simp at hd2
     | some b=>rw[h1,h2]at hd2;exact⟨a,b,(Option.some.inj hd2).symm,rfl,rfl⟩
   obtain⟨k2,hk2,hst⟩:=hss j s' hsj
   obtain rfl:k'=k2:=by rw[hkj]at hk2;exact Option.some.inj hk2
   have hb:=hst.bey
   have hbA:=bA k' (c6J hkj) i
   unfold stD
   walk_at "sim"
   refine⟨fun h1=>?_,fun h1=>⟨_,_,rfl,fun j' hj' k3 hk3=>?_⟩⟩
   ·rw[a83 hi hkj (by rw[hbA];exact decide_eq_true (hb.mp h1)) hno hn2]at k
    exact k
   ·rcases c8h j' j with z|z
    ·exact hn2 j' z k3 hk3
    ·have:j'=j:=by omega
     subst this
     rw[hkj]at hk3
     obtain rfl:=Option.some.inj hk3
     rw[hbA];exact decide_eq_false fun z=>h1 (hb.mpr z)
  ·rintro e M'' ⟨rfl,z6,z7,rfl,hn2⟩
   have hzl:(T9 (ws.map fun k:Nat=>D.int (k:Int)) (ss.map stD)).length=ws.length:=by rw[L9,c6x,c6x];omega
   rw[hzl]at hn2
   walk_at "sim"
   refine A6 (xs:=ss) (enc:=stD) (fun s=>stD (s.2.1,t.num*s.2.1 - (t.den:Int)*(t.den:Int)*s.1,s.2.2*(t.den:Int))) (by omega) (by simp only[j7]) (fun s hs Q hQ=>?_) ?_
   ·obtain⟨j,hj⟩:=c7M hs
    obtain⟨k2,hk2,hst⟩:=hss j s hj
    walk_at "sim"
    exact⟨s,rfl,⟨ht,12000+470*i,hst.b1,hst.b2,hst.b3,by omega⟩,hQ⟩
   ·walk_at "sim"
    refine⟨ss.map fun s=>(s.2.1,t.num*s.2.1 - (t.den:Int)*(t.den:Int)*s.1,s.2.2*(t.den:Int)),some (.int (i:Int)),z6,z7,by rw[c7w];rfl,by rw[c6x];exact hlen,fun j s hs=>?_,fun n hn k3 hk3=>?_⟩
    ·rw[c6K]at hs
     obtain⟨s0,hs0,rfl⟩:=c7z.mp hs
     obtain⟨k2,hk2,hst⟩:=hss j s0 hs0
     exact⟨k2,hk2,hst.next ht⟩
    ·rcases c8h n i with z|z
     ·exact hno n z k3 hk3
     ·have:n=i:=by omega
      subst this
      obtain⟨j,hj⟩:=c7M hk3
      exact hn2 j (c6F.mp hj).1 k3 hj
 ·rw[o6]
  rintro e M' ⟨rfl,ss,z5,z6,z7,rfl,hlen,hss,hno⟩
  walk_at "sim"
  rw[a3h hno]at k
  exact k
theorem a3P(T:Txt K mg)(d:Df K mg "is_whole" Q3 ["thing"]):Fn P w K mg base "is_whole" 1 ["thing"] a6e:=by
 have sc:=a16
 refine h7 d sc (by walk_at "len") (fun f cdv A outer s H E ds M R Y hr h=>?_)
 have hu:=hr.units
 obtain⟨x,rfl,k⟩:=h
 rcases k with⟨q,rfl,k⟩|⟨n,rfl,k⟩
 ·skip
  refine⟨_,(d5 (d6 (r9 (i4 (N5 T.sub) rfl T.b_isinstance o7 (a7 (a8 0) (a7 (N2 rfl T.b_int a9R) a9))) (v7 (G5 (i4 (N5 T.sub) rfl T.b_isinstance o7 (a7 (a8 0) (a7 (N2 rfl T.b_bool a2J) a9)))))))),?_⟩
  walk_at "sim"
  rw[v9 (ty := "tuple") (b:=false) rfl rfl]
  walk_at "sim"
  exact k
 ·skip
  refine⟨_,(d5 (d6 (r9 (i4 (N5 T.sub) rfl T.b_isinstance o7 (a7 (a8 0) (a7 (N2 rfl T.b_int a9R) a9))) (v7 (G5 (i4 (N5 T.sub) rfl T.b_isinstance o7 (a7 (a8 0) (a7 (N2 rfl T.b_bool a2J) a9)))))))),?_⟩
  walk_at "sim"
  exact k
theorem a3K(T:Txt K mg)(d:Df K mg "round_right" N9 ["table","numbers","n"])(c4q:Fn P w K mg base "stop_within" 4 ["t","numbers","watched","rounds"] a9f)(c3H:Fn P w K mg base "t_of" 4 ["table"] a4u)(c3D:Fn P w K mg base "rounds_to_self" 5 ["table"] b3B)(c4r:Fn P w K mg base "is_whole" 1 ["thing"] a6e):Fn P w K mg base "round_right" 6 ["table","numbers","n"] a6o:=by
 have sc:=a3l
 refine h7 d sc (by walk_at "len") (fun f cdv A outer s H E ds M R Y hr h=>?_)
 have hu:=hr.units
 obtain⟨x,l,d,rfl,m,rfl,⟨cd,hd,hl⟩,k⟩:=h
 rcases k with⟨q,rfl,k⟩|⟨n,rfl,k⟩
 ·skip
  refine⟨_,(d4 (f6 (A8 (u8 (w6 (i0 (jc c4r hr (a7 (a8 2) a9)))) (A4 (jtm (a0v hu) (a8 2) (jc c3D hr (a7 (a8 0) a9)))))) (d5 (d6 A1)) e9) (d5 (d6 (jm b1L (jc c4q hr (a7 (jc c3H hr (a7 (a8 0) a9)) (a7 (i3 (a7 (a8 1) a9)) (a7 (i3 (a7 d3 a9)) (a7 (a8 2) a9))))) C7)))),?_⟩
  walk_at "sim"
  exact .inl ⟨q,rfl,k⟩
 ·skip
  have zt:sz (trQ m)≤231:=CD.tr cd
  have hcl:cl 60 (a1G m)=true:=by
   by_cases hs:B2 m
   ·obtain⟨j,e⟩:=b0O hs;rw[e];rfl
   ·rw[a6z hs];rfl
  refine⟨_,(d4 (f6 (A8 (u8 (w6 (i0 (jc c4r hr (a7 (a8 2) a9)))) (A4 (jtm (a0v hu) (a8 2) (jc c3D hr (a7 (a8 0) a9)))))) (d5 (d6 A1)) e9) (d5 (d6 (jm b1L (jc c4q hr (a7 (jc c3H hr (a7 (a8 0) a9)) (a7 (i3 (a7 (a8 1) a9)) (a7 (i3 (a7 d3 a9)) (a7 (a8 2) a9))))) C7)))),?_⟩
  walk_at "sim"
  refine .inr ⟨n,rfl,m,rfl,cd,hcl,fun h=>?_,fun h=>?_⟩
  ·rw[u4 (fun z=>h (by rw[a6A m z.2.1,z.2.2.1]))]at k
   exact k
  ·have hs:B2 m:=c7E fun z=>by rw[a6z z]at h;cases h
   obtain⟨n0,e1,e2,e3⟩:=a3G hd hs
   rw[a6A m hs]at h e1
   have h:n=(rtN m:Int):=by injection h
   have e1:(rtN m:Int)=(n0:Int):=by injection e1
   subst h
   refine⟨m,rfl,cd,?_⟩
   refine(a2L (N:=rtN m)).mpr ⟨[l],[0],rfl,rfl,⟨zt,⟨by show 1≤40;decide,by show 1≤40;decide⟩,by omega,fun x hx=>by rw[c6N.mp hx];exact hl,fun x hx=>by rw[c6N.mp hx];show 0<1;decide⟩,?_⟩
   show gIs false (b0G (a0Z (trQ m) [l] [0] (rtN m))) D.non M R
   by_cases hb:∀ j,j<rtN m→¬ a0q (trQ m) l j
   ·rw[a3h (fun j hj x hx=>by rw[c6N.mp hx];exact decide_eq_false (hb j hj))]
    unfold b0G
    rw[a4d rfl]
    walk_at "sim"
    rw[W8 (show N6 m l (.int "round" (rtN m:Int))from⟨rfl,hs,rfl,hb⟩)]at k
    exact k
   ·rw[u4 (fun z:N6 m l (.int "round" (rtN m:Int))=>hb z.2.2.2)]at k
    have:∃ z,a0Z (trQ m) [l] [0] (rtN m)=some z:=by
     cases e:a0Z (trQ m) [l] [0] (rtN m)with
     | some z=>exact⟨z,rfl⟩
     | none =>
      refine absurd (fun j hj hbj=>?_) hb
      unfold a0Z at e
      cases e4:(c7U (rtN m)).find? (fun n=>[0].any fun k=>U1 (trQ m) [l] k n)with
      | none=>exact absurd (show([0].any fun k=>U1 (trQ m) [l] k j)=true by simpa[U1]using hbj) (c8l.mp e4 j (c7Z.mpr hj))
      | some j2 =>
       rw[e4]at e
       have h5:=List.find?_some e4
       have h6:U1 (trQ m) [l] 0 j2=true:=by simpa using h5
       simp[h6]at e
    obtain⟨z,ez⟩:=this
    rw[ez]
    unfold b0G
    rw[a4d rfl]
    walk_at "sim"
    exact k
theorem a4w(T:Txt K mg)(d:Df K mg "line_right" Q1 ["table","numbers","shown"])(c4l:Fn P w K mg base "kept_right" 5 ["table","numbers","k"] a9o)(c4e:Fn P w K mg base "reach_right" 7 ["table","numbers","s"] a3y)(c4f:Fn P w K mg base "round_right" 6 ["table","numbers","n"] a6o):Fn P w K mg base "line_right" 8 ["table","numbers","shown"] a9n:=by
 have sc:=a4g
 refine h7 d sc (by walk_at "len") (fun f cdv A outer s H E ds M R Y hr h=>?_)
 have hu:=hr.units
 obtain⟨x,l,d,rfl,m,rfl,⟨cd,hd,hl⟩,e,rfl,he,k⟩:=h
 have cn:cl 59 (D.str (Str.ofString "nought"))=true:=by decide +kernel
 cases e with
 | one w =>
  unfold enD
  unfold a4a at he
  have iff:N6 m l (.one w)↔w=Str.ofString "nought" ∧ l.1=0∧l.2.1=0:=Iff.rfl
  refine⟨_,(d4 (f6 (A8 (u8 (w6 (i0 (i4 (N5 T.sub) rfl T.b_isinstance o7 (a7 (a8 2) (a7 (N2 rfl T.b_tuple F5) a9))))) (A4 (jtm a2j (i4 C3 rfl T.b_len y4 (a7 (a8 2) a9)) d3)))) (d5 (d6 A1)) e9) (d4 (f6 (jtm (p9 hu) (a8 2) (d9 (a7 g8 a9))) (d5 (d6 (r9 (jm (p9 hu) (jx (a8 1) d3) (j9 rfl T.c_NOUGHT)) (v7 (jm (p9 hu) (jx (a8 1) d3) (j9 rfl T.c_NOUGHT)))))) e9) (d4 (f6 (jtm a0n (i4 C3 rfl T.b_len y4 (a7 (a8 2) a9)) d3) (d5 (d6 A1)) e9) (d4 (p8 (a8 2) (h8 (n:=2) rfl (d7 (jn 3 sc.nd) (d7 (jn 4 sc.nd) g9)))) (d4 (f6 (jtm C2 (a8 3) g8) (d5 (d6 (jc c4f hr (a7 (a8 0) (a7 (a8 1) (a7 (a8 4) a9)))))) e9) (d4 (f6 (jtm C2 (a8 3) g8) (d5 (d6 (jc c4e hr (a7 (a8 0) (a7 (a8 1) (a7 (a8 4) a9)))))) e9) (d5 (d6 (r9 (jm C2 (a8 3) g8) (v7 (jc c4l hr (a7 (a8 0) (a7 (a8 1) (a7 (a8 4) a9)))))))))))))),?_⟩
  walk_at "sim"
  refine⟨fun h=>absurd h (by decide),fun _=>⟨he,cn,fun hw=>⟨fun h1=>?_,fun h1=>?_⟩,fun hw=>⟨fun _=>?_,fun h=>absurd (by decide) h⟩⟩⟩
  ·have hw:w=Str.ofString "nought" := by injection hw with hw;injection hw with hw;injection hw
   rw[show E9 m l (.one w)=decide (l.2.1=0)from ?_]at k
   ·exact k
   ·by_cases h2:l.2.1=0
    ·rw[decide_eq_true h2,W8 (iff.mpr ⟨hw,h1,h2⟩)]
    ·rw[decide_eq_false h2,u4 (fun z=>h2 (iff.mp z).2.2)]
  ·rw[u4 (fun z=>h1 (iff.mp z).2.1)]at k;exact k
  ·rw[u4 (fun z=>hw (by rw[(iff.mp z).1]))]at k;exact k
 | int w n =>
  unfold enD
  unfold a4a at he
  have iff:N6 m l (.int w n)↔w=Str.ofString "round" ∧ B2 m∧n=(rtN m:Int)∧∀ j,j<rtN m→¬ a0q (trQ m) l j:=Iff.rfl
  refine⟨_,(d4 (f6 (A8 (u8 (w6 (i0 (i4 (N5 T.sub) rfl T.b_isinstance o7 (a7 (a8 2) (a7 (N2 rfl T.b_tuple F5) a9))))) (A4 (jtm a2j (i4 C3 rfl T.b_len y4 (a7 (a8 2) a9)) d3)))) (d5 (d6 A1)) e9) (d4 (f6 (jtm (p9 hu) (a8 2) (d9 (a7 g8 a9))) (d5 (d6 (r9 (jm (p9 hu) (jx (a8 1) d3) (j9 rfl T.c_NOUGHT)) (v7 (jm (p9 hu) (jx (a8 1) d3) (j9 rfl T.c_NOUGHT)))))) e9) (d4 (f6 (jtm a0n (i4 C3 rfl T.b_len y4 (a7 (a8 2) a9)) d3) (d5 (d6 A1)) e9) (d4 (p8 (a8 2) (h8 (n:=2) rfl (d7 (jn 3 sc.nd) (d7 (jn 4 sc.nd) g9)))) (d4 (f6 (jtm C2 (a8 3) g8) (d5 (d6 (jc c4f hr (a7 (a8 0) (a7 (a8 1) (a7 (a8 4) a9)))))) e9) (d4 (f6 (jtm C2 (a8 3) g8) (d5 (d6 (jc c4e hr (a7 (a8 0) (a7 (a8 1) (a7 (a8 4) a9)))))) e9) (d5 (d6 (r9 (jm C2 (a8 3) g8) (v7 (jc c4l hr (a7 (a8 0) (a7 (a8 1) (a7 (a8 4) a9)))))))))))))),?_⟩
  walk_at "sim"
  refine⟨fun h=>absurd h (by decide),fun _=>⟨he.1,cn,fun hw=>?_,fun hw=>⟨fun h=>absurd h (by decide),fun _=>⟨fun h1=>?_,fun h1=>?_⟩⟩⟩⟩
  ·injection hw with hw;injection hw with _ hw;cases hw
  ·rw[h1]at k
   exact⟨m,rfl,⟨cd,hd,hl⟩,.inr ⟨n,rfl,k⟩⟩
  ·rw[u4 (fun z=>h1 (iff.mp z).1)]at k
   exact⟨fun _=>⟨m,rfl,⟨cd,hd,hl⟩,.inr ⟨n,rfl,k⟩⟩,fun _=>⟨fun _=>⟨m,rfl,⟨cd,hd,hl⟩,.inr ⟨n,rfl,k⟩⟩,fun _=>k⟩⟩
 | rat w q =>
  unfold enD
  unfold a4a at he
  have iff:N6 m l (.rat w q)↔((w=Str.ofString "reach" ∧ (¬ B2 m∧j3 (trQ m)<2)∧S5 (trQ m) l.1 l.2.1=q∧¬ l.2.2*l.2.2<q)∨(w=Str.ofString "kept" ∧ ¬ 1<j3 q∧q*q+1=trQ m*q∧q*l.1=l.2.1∧¬ l.2.2<j3 l.1)):=Iff.rfl
  have h9:=he.2
  refine⟨_,(d4 (f6 (A8 (u8 (w6 (i0 (i4 (N5 T.sub) rfl T.b_isinstance o7 (a7 (a8 2) (a7 (N2 rfl T.b_tuple F5) a9))))) (A4 (jtm a2j (i4 C3 rfl T.b_len y4 (a7 (a8 2) a9)) d3)))) (d5 (d6 A1)) e9) (d4 (f6 (jtm (p9 hu) (a8 2) (d9 (a7 g8 a9))) (d5 (d6 (r9 (jm (p9 hu) (jx (a8 1) d3) (j9 rfl T.c_NOUGHT)) (v7 (jm (p9 hu) (jx (a8 1) d3) (j9 rfl T.c_NOUGHT)))))) e9) (d4 (f6 (jtm a0n (i4 C3 rfl T.b_len y4 (a7 (a8 2) a9)) d3) (d5 (d6 A1)) e9) (d4 (p8 (a8 2) (h8 (n:=2) rfl (d7 (jn 3 sc.nd) (d7 (jn 4 sc.nd) g9)))) (d4 (f6 (jtm C2 (a8 3) g8) (d5 (d6 (jc c4f hr (a7 (a8 0) (a7 (a8 1) (a7 (a8 4) a9)))))) e9) (d4 (f6 (jtm C2 (a8 3) g8) (d5 (d6 (jc c4e hr (a7 (a8 0) (a7 (a8 1) (a7 (a8 4) a9)))))) e9) (d5 (d6 (r9 (jm C2 (a8 3) g8) (v7 (jc c4l hr (a7 (a8 0) (a7 (a8 1) (a7 (a8 4) a9)))))))))))))),?_⟩
  walk_at "sim"
  refine⟨fun h=>absurd h (by decide),fun _=>⟨he.1,cn,fun hw=>?_,fun hw=>⟨fun h=>absurd h (by decide),fun _=>⟨fun h1=>?_,fun h1=>⟨fun h2=>?_,fun h2=>⟨fun h3=>?_,fun h3=>?_⟩⟩⟩⟩⟩⟩
  ·injection hw with hw;injection hw with _ hw;cases hw
  ·rw[u4 (fun z=>?_)]at k
   ·exact⟨m,rfl,⟨cd,hd,hl⟩,.inl ⟨q,rfl,k⟩⟩
   ·rcases iff.mp z with⟨z,_⟩|⟨z,_⟩<;>(rw[h1]at z;exact absurd z (by decide))
  ·rw[h2]at k
   exact⟨m,rfl,⟨cd,hd,hl⟩,.inl ⟨q,rfl,by omega,k⟩⟩
  ·rw[h3]at k
   exact⟨m,rfl,⟨cd,hd,hl⟩,.inl ⟨q,rfl,h9,k⟩⟩
  ·rw[u4 (fun z=>?_)]at k
   ·exact k
   ·rcases iff.mp z with⟨z,_⟩|⟨z,_⟩
    ·exact h2 z
    ·exact h3 z
theorem a4A(T:Txt K mg)(d:Df K mg "by_columns" Q7 ["first","second"]):Fn P w K mg base "by_columns" 1 ["first","second"] a1B:=by
 have sc:=a4k
 refine h7 d sc (by walk_at "len") (fun f cdv A outer s H E ds M R Y hr h=>?_)
 have hu:=hr.units
 obtain⟨a,b,c,d,rfl,k⟩:=h
 refine⟨_,(d5 (d6 (d9 (a7 (jx (a8 0) d3) (a7 (jx (a8 1) d3) (a7 (jx (a8 0) d3) (a7 (jx (a8 1) d3) a9))))))),?_⟩
 walk_at "sim"
 exact k
theorem a3O(T:Txt K mg)(d:Df K mg "led_by_part" O3 ["part","ray"])(c3z:Fn P w K mg base "minus" 4 ["one","other"] E2)(c3y:Fn P w K mg base "times" 3 ["one","other"] D5)(c3B:Fn P w K mg base "plus" 3 ["one","other"] F1):Fn P w K mg base "led_by_part" 5 ["part","ray"] a3C:=by
 have sc:=a3p
 refine h7 d sc (by walk_at "len") (fun f cdv A outer s H E ds M R Y hr h=>?_)
 have hu:=hr.units
 obtain⟨x,y,u,rfl,hz,k⟩:=h
 refine⟨_,(d4 (p8 (a8 0) (h8 (n:=2) rfl (d7 (jn 2 sc.nd) (d7 (jn 3 sc.nd) g9)))) (d4 (p8 (a8 1) (h8 (n:=2) rfl (d7 (jn 4 sc.nd) (d7 (jn 5 sc.nd) g9)))) (d4 (f6 (jtm C2 (a8 2) g8) (d5 (d6 (d9 (a7 (jc c3B hr (a7 (a8 4) (a7 (jc c3y hr (a7 (a8 3) (a7 (a8 5) a9))) a9))) (a7 (a8 5) a9))))) e9) (d4 (f6 (jtm C2 (a8 2) g8) (d5 (d6 (d9 (a7 (a8 4) (a7 (jc c3z hr (a7 (a8 5) (a7 (jc c3y hr (a7 (a8 3) (a7 (a8 4) a9))) a9))) a9))))) e9) (d5 (d6 (a8 1))))))),?_⟩
 walk_at "sim"
 unfold B4 at k
 refine⟨fun h1=>?_,fun h1=>⟨fun h2=>?_,fun h2=>?_⟩⟩
 ·rw[if_pos h1]at k;exact⟨by omega,by walk_at "size",k⟩
 ·rw[if_neg h1,if_pos h2]at k;exact⟨by omega,by walk_at "size",k⟩
 ·rw[if_neg h1,if_neg h2]at k;exact k
theorem a8b(T:Txt K mg)(d:Df K mg "table_of" a0E ["bench"])(c4C:Fn P w K mg base "by_columns" 1 ["first","second"] a1B)(c3N:Fn P w K mg base "led_by_part" 5 ["part","ray"] a3C):Fn P w K mg base "table_of" 6 ["bench"] b3A:=by
 have sc:=a7S
 refine h7 d sc (by walk_at "len") (fun f cdv A outer s H E ds M R Y hr h=>?_)
 have hu:=hr.units
 obtain⟨bs,rfl,⟨⟨hz,hl⟩,hc⟩,k⟩:=h
 refine⟨_,(d4 (jst 1 sc.nd (j9 rfl T.c_LEVEL_RAY)) (d4 (jst 2 sc.nd (j9 rfl T.c_AXIS_RAY)) (d4 (v6 PassesOwn.never rfl (y7 (a8 0)) (jn 3 sc.nd) (d4 (jst 1 sc.nd (jc c3N hr (a7 (a8 3) (a7 (a8 1) a9)))) (d5 (jst 2 sc.nd (jc c3N hr (a7 (a8 3) (a7 (a8 2) a9))))))) (d5 (d6 (jc c4C hr (a7 (a8 1) (a7 (a8 2) a9)))))))),?_⟩
 walk_at "sim"
 refine P1.by (fun i e M'=>M'=M∧∃ z:Option D,e=[some _,some (u5 (g7 (bs.take i) (1,0)).1 (g7 (bs.take i) (1,0)).2),some (u5 (g7 (bs.take i) (0,1)).1 (g7 (bs.take i) (0,1)).2),z]) ⟨rfl,_,rfl⟩ (fun i e M' _ _=>by simp only[j7]) ?_ ?_
 ·rintro i dd e M' hd ⟨rfl,z,rfl⟩
  obtain⟨pt,hpt,rfl⟩:=a5A hd
  have t4:=CD.t4 (hc i)
  have a1:sz (g7 (bs.take i) (1,0)).1≤230:=t4.a
  have a2:sz (g7 (bs.take i) (0,1)).1≤230:=t4.b
  have b1:sz (g7 (bs.take i) (1,0)).2≤230:=t4.c
  have b2:sz (g7 (bs.take i) (0,1)).2≤230:=t4.d
  have q2:=hz pt (c6J hpt)
  have o1:=L5 hpt (1,0)
  have o2:=L5 hpt (0,1)
  walk_at "sim"
  rw[← o1,← o2]
  exact⟨by omega,by omega,_,rfl⟩
 ·rw[c6x]
  rintro e M' ⟨rfl,z,rfl⟩
  rw[c6X]
  walk_at "sim"
  exact k
theorem a2g(T:Txt K mg)(d:Df K mg "turned_bench" L0 ["bench"]):Fn P w K mg base "turned_bench" 1 ["bench"] a6g:=by
 have sc:=a2d
 refine h7 d sc (by walk_at "len") (fun f cdv A outer s H E ds M R Y hr h=>?_)
 have hu:=hr.units
 obtain⟨x0,xs,rfl,hx0,k⟩:=h
 rcases hx0 with rfl|rfl
 all_goals
  refine⟨_,(d5 (d6 (a8s rfl rfl T.b_list T3 rfl T.b_reversed X4 (a8 0)))),?_⟩
  walk_at "sim"
  exact k
theorem a3L(T:Txt K mg)(d:Df K mg "round_bench" O0 ["hall"])(c4w:Fn P w K mg base "turned_bench" 1 ["bench"] a6g):Fn P w K mg base "round_bench" 2 ["hall"] a3x:=by
 have sc:=a3m
 refine h7 d sc (by walk_at "len") (fun f cdv A outer s H E ds M R Y hr h=>?_)
 have hu:=hr.units
 obtain⟨x0,near,bs,far,rfl,hx0,hl,k⟩:=h
 rw[show e6 near bs far=bs++[(Str.ofString "glass",far)]++bs.reverse++[(Str.ofString "glass",near)]from rfl,c6P,c6P,c6P,c8f]at k
 have l1:(bs.map f9).length=bs.length:=c6x ..
 have hs:1000≤sizeLine:=by decide
 rcases hx0 with rfl|rfl
 all_goals
  refine⟨_,(d4 (p8 (a8 0) (h8 (n:=3) rfl (d7 (jn 1 sc.nd) (d7 (jn 2 sc.nd) (d7 (jn 3 sc.nd) g9))))) (d5 (d6 (G6 (G6 (G6 (a1o rfl T.b_list T3 (a7 (a8 2) a9)) (i3 (a7 (d9 (a7 g8 (a7 (a8 3) a9))) a9))) (jc c4w hr (a7 (a8 2) a9))) (i3 (a7 (d9 (a7 g8 (a7 (a8 1) a9))) a9)))))),?_⟩
  walk_at "sim"
  refine⟨by omega,by simp only[c6H,c7d,c7f,c7o];omega,by simp only[c6H,c7d,c7f,c7o];omega,?_⟩
  exact k
theorem a8c(T:Txt K mg)(d:Df K mg "round_of" a0F ["hall"])(c4O:Fn P w K mg base "table_of" 6 ["bench"] b3A)(c3Z:Fn P w K mg base "round_bench" 2 ["hall"] a3x):Fn P w K mg base "round_of" 7 ["hall"] a3w:=by
 have sc:=a7T
 refine h7 d sc (by walk_at "len") (fun f cdv A outer s H E ds M R Y hr h=>?_)
 have hu:=hr.units
 obtain⟨x0,near,bs,far,rfl,hx0,hok,k⟩:=h
 have hs:=hok.szs
 have hc:=hok.cd
 have hl:=hok.len
 have hl2:=P7 near far bs
 rcases hx0 with rfl|rfl
 all_goals
  refine⟨_,(d5 (d6 (jc c4O hr (a7 (jc c3Z hr (a7 (a8 0) a9)) a9)))),?_⟩
  walk_at "sim"
  exact⟨hl,⟨⟨hs,by omega⟩,hc⟩,k⟩
theorem a8g(T:Txt K mg)(d:Df K mg "lines_of" a0I ["bench"])(c3N:Fn P w K mg base "led_by_part" 5 ["part","ray"] a3C):Fn P w K mg base "lines_of" 6 ["bench"] a6u:=by
 have sc:=a7X
 refine h7 d sc (by walk_at "len") (fun f cdv A outer s H E ds M R Y hr h=>?_)
 have hu:=hr.units
 obtain⟨bs,rfl,⟨⟨hz,hl⟩,hc⟩,k⟩:=h
 refine⟨_,(d4 (jst 1 sc.nd (W9 a9)) (d4 (jst 2 sc.nd (j9 rfl T.c_LEVEL_RAY)) (d4 (jst 3 sc.nd (j9 rfl T.c_AXIS_RAY)) (d4 (v6 PassesOwn.never rfl (y7 (a8 0)) (jn 4 sc.nd) (C6 (f6 (jtm C2 (jx (a8 4) d3) g8) (d5 (C9 (X0 PySem.F.slot_list_append PySem.F.type_list_append D6 (a8 1) (a7 (d9 (a7 (jx (a8 2) d3) (a7 (jx (a8 3) d3) (a7 (jx (a8 4) d3) a9)))) a9)))) e9) (d4 (jst 2 sc.nd (jc c3N hr (a7 (a8 4) (a7 (a8 2) a9)))) (d5 (jst 3 sc.nd (jc c3N hr (a7 (a8 4) (a7 (a8 3) a9)))))))) (d5 (d6 (F9 (L6 (a8 1))))))))),?_⟩
 walk_at "sim"
 intro p hp
 refine P1.by (fun i e M'=>(∃ y0 z:Option D,e=[y0,some (.ref p),some (u5 (g7 (bs.take i) (1,0)).1 (g7 (bs.take i) (1,0)).2),some (u5 (g7 (bs.take i) (0,1)).1 (g7 (bs.take i) (0,1)).2),z])∧M'=A7 M p (.lst ((B8 bs i).map p5))) ⟨⟨_,_,rfl⟩,rfl⟩ (fun i e M' _ _=>by simp only[j7,B9]) ?_ ?_
 ·rintro i dd e M' hd ⟨⟨y0,z,rfl⟩,rfl⟩
  obtain⟨pt,hpt,rfl⟩:=a5A hd
  have t4:=CD.t4 (hc i)
  have a1:sz (g7 (bs.take i) (1,0)).1≤230:=t4.a
  have a2:sz (g7 (bs.take i) (0,1)).1≤230:=t4.b
  have b1:sz (g7 (bs.take i) (1,0)).2≤230:=t4.c
  have b2:sz (g7 (bs.take i) (0,1)).2≤230:=t4.d
  have q2:=hz pt (c6J hpt)
  have o1:=L5 hpt (1,0)
  have o2:=L5 hpt (0,1)
  have hll:=K8 bs i
  have hi:=(c6F.mp hpt).1
  have on:=a5W hpt
  walk_at "sim"
  refine P0 (fun e' M'=>e'=[y0,some (.ref p),some (u5 (g7 (bs.take i) (1,0)).1 (g7 (bs.take i) (1,0)).2),some (u5 (g7 (bs.take i) (0,1)).1 (g7 (bs.take i) (0,1)).2),some (f9 pt)]∧M'=A7 M p (.lst ((B8 bs (i+1)).map p5))) ?_ ?_
  ·walk_at "sim"
   refine⟨fun h1=>L8 g6 (T7 g6 (by rw[c6x];omega) ?_),fun h1=>?_⟩
   ·rw[a3g,on,if_pos h1,c6P];rfl
   ·rw[on,if_neg h1]
  ·rintro e' M' ⟨rfl,rfl⟩
   walk_at "sim"
   refine⟨by omega,by omega,⟨y0,some (f9 pt),?_⟩⟩
   rw[o1,o2]
 ·rintro e M' ⟨⟨y0,z,rfl⟩,rfl⟩
  walk_at "sim"
  rw[a0z g6,P8 hp]
  walk_at "sim"
  rw[c6x]
  exact⟨_,fun _ _ h=>h,k⟩
theorem a4y(T:Txt K mg)(d:Df K mg "hall_lines" Q5 ["hall"])(c4P:Fn P w K mg base "lines_of" 6 ["bench"] a6u)(c3Z:Fn P w K mg base "round_bench" 2 ["hall"] a3x):Fn P w K mg base "hall_lines" 7 ["hall"] W2:=by
 have sc:=a4i
 refine h7 d sc (by walk_at "len") (fun f cdv A outer s H E ds M R Y hr h=>?_)
 have hu:=hr.units
 obtain⟨x0,near,bs,far,rfl,hx0,hok,k⟩:=h
 have hs:=hok.szs
 have hc:=hok.cd
 have hl:=hok.len
 have hl2:=P7 near far bs
 have fl:=b1a bs
 have sz1:1000≤sizeLine:=by decide
 rcases hx0 with rfl|rfl
 all_goals
  refine⟨_,(d4 (y8 (i:=1) [] ["number","part"] [] sc.nd rfl (Or.inl rfl) rfl (by decide +kernel) rfl (by decide +kernel) (by decide +kernel) rfl a0s a0s (a31 rfl T.b_enumerate (a7 (jx (a8 0) d3) a9)) (fun _ _ _ _ _ _=>(h8 (n:=2) rfl (d7 (jn 0 (show(["number","part"]:List Str).Nodup by decide +kernel)) (d7 (jn 1 (show(["number","part"]:List Str).Nodup by decide +kernel)) g9)))) (fun _ _ _ _ _ _=>(a5G (jtm C2 (jx (a8 1) d3) g8))) (fun _ _ _ _ _ _=>(d9 (a7 g8 (a7 (a8 0) a9))))) (d4 (y8 (i:=2) [] ["way","number"] [] sc.nd rfl (Or.inl rfl) rfl (by decide +kernel) rfl (by decide +kernel) (by decide +kernel) rfl a0s a0s (b4p rfl T.b_reversed X4 (a7 (a8 1) a9)) (fun _ _ _ _ _ _=>(h8 (n:=2) rfl (d7 (jn 0 (show(["way","number"]:List Str).Nodup by decide +kernel)) (d7 (jn 1 (show(["way","number"]:List Str).Nodup by decide +kernel)) g9)))) (fun _ _ _ _ _ _=>v8) (fun _ _ _ _ _ _=>(d9 (a7 g8 (a7 (a8 1) a9))))) (d4 (jst 3 sc.nd (jc c4P hr (a7 (jc c3Z hr (a7 (a8 0) a9)) a9))) (d5 (d6 (a8u [] ["line","way","number"] [] rfl (by decide +kernel) rfl (by decide +kernel) (by decide +kernel) rfl a0s a0s (a2F rfl T.b_zip (a7 (G6 (a8 1) (a8 2)) (a7 (a8 3) a9))) (fun _ _ _ _ _ _=>(h8 (n:=2) rfl (d7 (h8 (n:=2) rfl (d7 (jn 1 (show(["line","way","number"]:List Str).Nodup by decide +kernel)) (d7 (jn 2 (show(["line","way","number"]:List Str).Nodup by decide +kernel)) g9))) (d7 (jn 0 (show(["line","way","number"]:List Str).Nodup by decide +kernel)) g9)))) (fun _ _ _ _ _ _=>v8) (fun _ _ _ _ _ _=>(d9 (a7 (a8 1) (a7 (a8 2) (a7 (a8 0) a9))))))))))),?_⟩
  walk_at "sim"
  rw[a1P]
  refine a1u (xs:=bs.zipIdx) (fun x=>x.1.1 == Str.ofString "stop") fwD (by rw[c7s];omega) (by simp only[j7,B9]) (fun x hx Q N h1 h2=>?_) ?_
  ·walk_at "sim"
   exact⟨fun e=>h1 (by rw[e];exact beq_self_eq_true _),fun e=>h2 (beq_eq_false_iff_ne.mpr e)⟩
  ·walk_at "sim"
   rw[show c80 (fun x:(Str × Rat) × Nat=>x.1.1 == Str.ofString "stop") bs.zipIdx=frW bs from rfl,← c8f]
   refine A6 (xs:=(frW bs).reverse) (enc:=fwD) bwD (by rw[c7d];omega) trivial (fun x hx Q hQ=>?_) ?_
   ·unfold fwD
    walk_at "sim"
    exact hQ
   ·walk_at "sim"
    refine⟨hl,⟨⟨hs,by omega⟩,hc⟩,c6D (by rw[c6x,c6x,c7d];omega) sz1,?_⟩
    rw[c0n near far bs,b83]
    have zl:=K8 (e6 near bs far) (e6 near bs far).length
    refine A6 (fun z=>hlD z.1 z.2) (by rw[c8L];omega) (by simp only[j7,and_self]) (fun z hz Q hQ=>?_) ?_
    ·unfold prD
     walk_at "sim"
     exact hQ
    ·rw[c0g]
     exact k
theorem a3N(T:Txt K mg)(d:Df K mg "never_shown" O2 ["hall","ray","paper"])(c4H:Fn P w K mg base "first_two" 5 ["table","ray","lines"] a0M)(c4D:Fn P w K mg base "line_right" 8 ["table","numbers","shown"] a9n)(c3M:Fn P w K mg base "round_of" 7 ["hall"] a3w)(c4c:Fn P w K mg base "hall_lines" 7 ["hall"] W2):Fn P w K mg base "never_shown" 9 ["hall","ray","paper"] a9k:=by
 have sc:=a3o
 refine h7 d sc (by walk_at "len") (fun f cdv A outer s H E ds M R Y hr h=>?_)
 have hu:=hr.units
 obtain⟨x0,y,u,x,rfl,near,bs,far,es,rfl,hx,⟨⟨hw,S,cd,hS⟩,hl,he⟩,k⟩:=h
 have cL:=hw.cd (e6 near bs far).length
 rw[c6X]at cL
 have dL:=a81 (e6 near bs far)
 have lsl:=K8 (e6 near bs far) (e6 near bs far).length
 have hl2:=P7 near far bs
 have hbl:=hw.len
 have hN:=a33 hw cd hS
 have eN:∀ i,(A9 near bs far y u)[i]? = ((B8 (e6 near bs far) (e6 near bs far).length)[i]?).map (a6P (e6 near bs far) y u):=fun i=>by unfold A9;rw[c6K]
 rcases hx with rfl|rfl
 all_goals
  refine⟨_,(d4 (y8 (i:=3) [] ["way","number","line"] [] sc.nd rfl (Or.inl rfl) rfl (by decide +kernel) rfl (by decide +kernel) (by decide +kernel) rfl a0s a0s (y7 (L6 (jc c4c hr (a7 (a8 0) a9)))) (fun _ _ _ _ _ _=>(h8 (n:=3) rfl (d7 (jn 0 (show(["way","number","line"]:List Str).Nodup by decide +kernel)) (d7 (jn 1 (show(["way","number","line"]:List Str).Nodup by decide +kernel)) (d7 (jn 2 (show(["way","number","line"]:List Str).Nodup by decide +kernel)) g9))))) (fun _ _ _ _ _ _=>v8) (fun _ _ _ _ _ _=>(a8 2))) (d4 (f6 (jtm a0u (i4 C3 rfl T.b_len y4 (a7 (a8 2) a9)) (i4 C3 rfl T.b_len y4 (a7 (a8 3) a9))) (d5 (d6 A1)) e9) (d4 (jst 4 sc.nd (jc c3M hr (a7 (a8 0) a9))) (d5 (d6 (i4 (c2w rfl) rfl T.b_all c0w (a7 (X1 [4] ["numbers","shown"] ["table"] rfl (by decide +kernel) rfl (by decide +kernel) (by decide +kernel) rfl (a0r ⟨rfl,rfl⟩) (a0r (Or.inl rfl)) (a2F rfl T.b_zip (a7 (jc c4H hr (a7 (a8 4) (a7 (a8 1) (a7 (a8 3) a9)))) (a7 (a8 2) a9))) (fun _ _ _ _ _ _=>(h8 (n:=2) rfl (d7 (jn 0 (show(["numbers","shown","table"]:List Str).Nodup by decide +kernel)) (d7 (jn 1 (show(["numbers","shown","table"]:List Str).Nodup by decide +kernel)) g9)))) (fun _ _ _ _ _ _=>v8) (fun _ _ _ _ _ _=>(jc c4D hr (a7 (a8 2) (a7 (a8 0) (a7 (a8 1) a9)))))) a9))))))),?_⟩
  walk_at "sim"
  refine⟨hw,fun p hp=>?_⟩
  rw[a0z g6,P8 hp]
  walk_at "sim"
  rw[b7n]
  refine A6 (fun z=>p5 z.2) (by rw[c8L,G3];omega) (by simp only[j7]) (fun z hz Q hQ=>?_) ?_
  ·unfold hlD
   walk_at "sim"
   exact hQ
  rw[b1n]
  walk_at "sim"
  rw[show((B8 (e6 near bs far) (e6 near bs far).length).map p5).length=(A9 near bs far y u).length by unfold A9;rw[c6x,c6x],c6x]
  refine⟨fun hne=>?_,fun hel=>⟨hw,e6 near bs far,B8 (e6 near bs far) (e6 near bs far).length,rfl,rfl,⟨S,cL,cd,hS,by omega,fun l hl=>(hw.ln cd hS hl).2⟩,?_⟩⟩
  ·unfold a0N at k
   rw[decide_eq_false (fun z=>hne (by omega))]at k
   exact k
  ·unfold a0N at k
   have hel:es.length=(A9 near bs far y u).length:=by omega
   rw[decide_eq_true hel]at k
   rw[show c7i (a6P (e6 near bs far) y u) (B8 (e6 near bs far) (e6 near bs far).length)=A9 near bs far y u from rfl]
   generalize A9 near bs far y u=ls at *
   walk_at "sim"
   have ez:T9 (ls.map p5) (es.map enD)=(ls.zip es).map fun z=>D.tup [p5 z.1,enD z.2]:=by
    unfold T9
    rw[c9O,List.map_zip_eq_zipWith];rfl
   rw[ez]
   refine A6 (fun z=>D.bl (E9 (tbQ (e6 near bs far)) z.1 z.2)) (by rw[c8L];omega) (by simp only[j7,B9,and_self]) (fun z hz Q hQ=>?_) ?_
   ·obtain⟨h1,h2⟩:=c8F hz
    walk_at "sim"
    exact⟨_,rfl,⟨cL,dL,hN _ h1⟩,z.2,rfl,he _ h2,hQ⟩
   ·rw[show(ls.zip es).map (fun z=>D.bl (E9 (tbQ (e6 near bs far)) z.1 z.2))=((ls.zip es).map fun z=>E9 (tbQ (e6 near bs far)) z.1 z.2).map D.bl by rw[c7w];rfl]
    walk_at "sim"
    rw[List.all_map]
    exact k
theorem a3U(T:Txt K mg)(d:Df K mg "_law_beyond" O8 ["x","r"]):Fn P w K mg base "_law_beyond" 1 ["x","r"] a9m:=by
 have sc:=a3u
 refine h7 d sc (by walk_at "len") (fun f cdv A outer s H E ds M R Y hr h=>?_)
 have hu:=hr.units
 obtain⟨x,r,rfl,hz,k⟩:=h
 obtain⟨n1,n2⟩:=c0A x
 have e:decide (r<j3 x)=decide (r.num*(x.den:Int)<(x.num.natAbs:Int)*(r.den:Int)):=decide_eq_decide.mpr (by rw[c9B,n1,n2])
 rw[e]at k
 have xn:=J6 x
 have rn:=J6 r
 refine⟨_,(d5 (d6 (jm a2j (f7 i8 (i4 a0y rfl T.b_abs O9 (a7 (jx (a8 0) d3) a9)) (jx (a8 1) d3)) (f7 i8 (jx (a8 1) d3) (jx (a8 0) d3))))),?_⟩
 walk_at "sim"
 exact⟨p7 _ _ (by rw[c6w];exact xn) (E8 r) (by omega),p7 _ _ rn (E8 x) (by omega),k⟩
theorem a4E(T:Txt K mg)(d:Df K mg "_law_reach" R1 ["t","x","further"])(c3Q:Fn P w K mg base "over" 3 ["one","other"] P9)(c3z:Fn P w K mg base "minus" 4 ["one","other"] E2)(c3y:Fn P w K mg base "times" 3 ["one","other"] D5)(c3B:Fn P w K mg base "plus" 3 ["one","other"] F1):Fn P w K mg base "_law_reach" 5 ["t","x","further"] V9:=by
 have sc:=a4o
 refine h7 d sc (by walk_at "len") (fun f cdv A outer s H E ds M R Y hr h=>?_)
 have hu:=hr.units
 obtain⟨t,x,f',rfl,⟨ht,hx,hf,t1,t2⟩,k⟩:=h
 have h4:=b0D t1 t2
 have m1:=RM.u3 x x
 have m2:=RM.u3 x f'
 have m3:=RM.u3 t (x*f')
 have m4:=RM.G9 (x*x) (t*(x*f'))
 have m5:=RM.u3 f' f'
 have m6:=RM.U4 (x*x - t*(x*f')) (f'*f')
 have m7:=RM.u3 4 (x*x - t*(x*f')+f'*f')
 have m8:=RM.u3 t t
 have m9:=RM.G9 4 (t*t)
 have s4:sz (4:Rat)≤3:=by decide +kernel
 refine⟨_,(d4 (jst 3 sc.nd (jc c3B hr (a7 (jc c3z hr (a7 (jc c3y hr (a7 (a8 1) (a7 (a8 1) a9))) (a7 (jc c3y hr (a7 (a8 0) (a7 (jc c3y hr (a7 (a8 1) (a7 (a8 2) a9))) a9))) a9))) (a7 (jc c3y hr (a7 (a8 2) (a7 (a8 2) a9))) a9)))) (d5 (d6 (jc c3Q hr (a7 (jc c3y hr (a7 (d9 (a7 d3 (a7 d3 a9))) (a7 (a8 3) a9))) (a7 (jc c3z hr (a7 (d9 (a7 d3 (a7 d3 a9))) (a7 (jc c3y hr (a7 (a8 0) (a7 (a8 0) a9))) a9))) a9)))))),?_⟩
 walk_at "sim"
 exact⟨by omega,by omega,by omega,by omega,by omega,by omega,by omega,by omega,by omega,fun z=>by rw[z]at h4;exact absurd h4 (by decide),by omega,k⟩
theorem a4G(T:Txt K mg)(d:Df K mg "_law_parts" R3 ["hall"]):Fn P w K mg base "_law_parts" 1 ["hall"] a2A:=by
 have sc:=a4p
 refine h7 d sc (by walk_at "len") (fun f cdv A outer s H E ds M R Y hr h=>?_)
 have hu:=hr.units
 obtain⟨near,bs,far,rfl,hl,k⟩:=h
 refine⟨_,(d4 (a6R (i:=1) [] ["k","part"] [] sc.nd rfl (Or.inl rfl) rfl (by decide +kernel) rfl (by decide +kernel) (by decide +kernel) rfl a0s a0s (a31 rfl T.b_enumerate (a7 (jx (a8 0) d3) a9)) (fun _ _ _ _ _ _=>(h8 (n:=2) rfl (d7 (jn 0 (show(["k","part"]:List Str).Nodup by decide +kernel)) (d7 (jn 1 (show(["k","part"]:List Str).Nodup by decide +kernel)) g9)))) (fun _ _ _ _ _ _=>v8) (fun _ _ _ _ _ _=>(d9 (a7 g8 (a7 (a8 0) (a7 (a8 1) a9)))))) (d4 (C9 (X0 PySem.F.slot_list_append PySem.F.type_list_append D6 (a8 1) (a7 (d9 (a7 C7 (a7 C7 (a7 (d9 (a7 g8 (a7 (jx (a8 0) d3) a9))) a9)))) a9))) (d4 (C9 (X0 PySem.F.slot_list_extend PySem.F.type_list_extend b1Z (a8 1) (a7 (a8u [0] ["k"] ["hall"] rfl (by decide +kernel) rfl (by decide +kernel) (by decide +kernel) rfl (a0r ⟨rfl,rfl⟩) (a0r (Or.inl rfl)) (b4o rfl T.b_reversed X4 rfl T.b_range boot_range (a7 (i4 C3 rfl T.b_len y4 (a7 (jx (a8 0) d3) a9)) a9)) (fun _ _ _ _ _ _=>(jn 0 (show(["k","hall"]:List Str).Nodup by decide +kernel))) (fun _ _ _ _ _ _=>v8) (fun _ _ _ _ _ _=>(d9 (a7 g8 (a7 (a8 0) (a7 (jx (jx (a8 1) d3) (a8 0)) a9)))))) a9))) (d4 (C9 (X0 PySem.F.slot_list_append PySem.F.type_list_append D6 (a8 1) (a7 (d9 (a7 C7 (a7 C7 (a7 (d9 (a7 g8 (a7 (jx (a8 0) d3) a9))) a9)))) a9))) (d5 (d6 (F9 (L6 (a8 1))))))))),?_⟩
 walk_at "sim"
 rw[a1P]
 refine A6 (fun x:(Str × Rat) × Nat=>lpD (.str "forth") (.int (x.2:Int)) x.1) (by rw[c7s];omega) (by simp only[j7]) (fun x hx Q hQ=>?_) (fun p hp=>?_)
 ·walk_at "sim"
  exact hQ
 ·refine L8 g6 (T7 g6 (by rw[c6x,c7s];omega) (L8 g6 ⟨by rw[c6x];omega,?_⟩))
  rw[c6x,c7A,b4L]
  refine A6 (fun x:(Str × Rat) × Nat=>lpD (.str "back") (.int (x.2:Int)) x.1) (by rw[c7d,c7s];omega) trivial (fun x hx Q hQ=>?_) (fun b hb=>?_)
  ·have hx1:bs[x.2]? = some x.1:=by
    have:=c7Q.mp hx
    obtain⟨y,j⟩:=x
    exact c8z.mp this
   walk_at "sim"
   exact⟨f9 x.1,A2 (n:=x.2) (by rw[c6K,hx1];rfl),hQ⟩
  ·have hbp:b≠p:=fun e=>by rw[e,g6]at hb;cases hb
   have hMb:M b=none:=by rw[A0 hbp,A0 hbp]at hb;exact hb
   have hlz:(bs.zipIdx.map fun x:(Str × Rat) × Nat=>lpD (.str "forth") (.int (x.2:Int)) x.1).length=bs.length:=by rw[c6x,c7s]
   have hlr:(bs.zipIdx.reverse.map fun x:(Str × Rat) × Nat=>lpD (.str "back") (.int (x.2:Int)) x.1).length=bs.length:=by rw[c6x,c7d,c7s]
   refine c0J (by rw[A0 (Ne.symm hbp)];exact g6) g6 (by rw[c6H,hlz,hlr];show bs.length+1+bs.length≤1000;omega) (L8 g6 (T7 g6 (by rw[c6H,c6H,hlz,hlr];show bs.length+1+bs.length<1000;omega) ⟨p,_,rfl,g6,J8 (M2:=M) (fun c o h=>?_) k⟩))
   have c1:c≠p:=fun e=>by rw[e,hp]at h;cases h
   have c2:c≠b:=fun e=>by rw[e,hMb]at h;cases h
   rw[a2I c1,A0 c1,A0 c1,A0 c2,A0 c1,A0 c1]
   exact h
theorem a6M(T:Txt K mg)(d:Df K mg "_law_part" V4 ["part","ray"])(c3z:Fn P w K mg base "minus" 4 ["one","other"] E2)(c3y:Fn P w K mg base "times" 3 ["one","other"] D5)(c3B:Fn P w K mg base "plus" 3 ["one","other"] F1):Fn P w K mg base "_law_part" 5 ["part","ray"] a3C:=by
 have sc:=a56
 refine h7 d sc (by walk_at "len") (fun f cdv A outer s H E ds M R Y hr h=>?_)
 have hu:=hr.units
 obtain⟨x,y,u,rfl,hz,k⟩:=h
 refine⟨_,(d4 (p8 (a8 0) (h8 (n:=2) rfl (d7 (jn 2 sc.nd) (d7 (jn 3 sc.nd) g9)))) (d4 (f6 (jtm C2 (a8 2) g8) (d5 (d6 (d9 (a7 (jc c3B hr (a7 (jx (a8 1) d3) (a7 (jc c3y hr (a7 (a8 3) (a7 (jx (a8 1) d3) a9))) a9))) (a7 (jx (a8 1) d3) a9))))) e9) (d4 (f6 (jtm C2 (a8 2) g8) (d5 (d6 (d9 (a7 (jx (a8 1) d3) (a7 (jc c3z hr (a7 (jx (a8 1) d3) (a7 (jc c3y hr (a7 (a8 3) (a7 (jx (a8 1) d3) a9))) a9))) a9))))) e9) (d5 (d6 (a8 1)))))),?_⟩
 walk_at "sim"
 unfold B4 at k
 refine⟨fun h1=>?_,fun h1=>⟨fun h2=>?_,fun h2=>?_⟩⟩
 ·rw[if_pos h1]at k;exact⟨by omega,by walk_at "size",k⟩
 ·rw[if_neg h1,if_pos h2]at k;exact⟨by omega,by walk_at "size",k⟩
 ·rw[if_neg h1,if_neg h2]at k;exact k
theorem a4D(T:Txt K mg)(d:Df K mg "_law_round" R0 ["hall","ray"])(c4d:Fn P w K mg base "_law_parts" 1 ["hall"] a2A)(c4b:Fn P w K mg base "_law_part" 5 ["part","ray"] a3C):Fn P w K mg base "_law_round" 6 ["hall","ray"] W3:=by
 have sc:=a4n
 refine h7 d sc (by walk_at "len") (fun f cdv A outer s H E ds M R Y hr h=>?_)
 have hu:=hr.units
 obtain⟨near,bs,far,y,u,rfl,⟨hok,S,cd,hS⟩,k⟩:=h
 refine⟨_,(d4 (v6 PassesOwn.never rfl (y7 (jc c4d hr (a7 (a8 0) a9))) (h8 (n:=3) rfl (d7 (jn 2 sc.nd) (d7 (jn 3 sc.nd) (d7 (jn 4 sc.nd) g9)))) (d5 (jst 1 sc.nd (jc c4b hr (a7 (a8 4) (a7 (a8 1) a9)))))) (d5 (d6 (a8 1)))),?_⟩
 walk_at "sim"
 refine⟨hok.len,?_⟩
 refine P1.by (fun i e M'=>M'=M∧∃ z2 z3 z4:Option D,e=[some (.tup [d8 near,.vl (bs.map f9),d8 far]),some (u5 (g7 ((e6 near bs far).take i) (y,u)).1 (g7 ((e6 near bs far).take i) (y,u)).2),z2,z3,z4]) ⟨rfl,_,_,_,rfl⟩ (fun i e M' _ _=>by simp only[j7]) ?_ ?_
 ·rintro i dd e M' hd ⟨rfl,z2,z3,z4,rfl⟩
  obtain⟨w,n,x,rfl,hx⟩:=b1U hd
  have t2:=(W5 (hok.cd i) cd).t2
  have a1:=t2.y
  have a2:=t2.u
  have q2:=hok.szs x (c6J hx)
  have o1:=L5 hx (y,u)
  walk_at "sim"
  rw[← o1]
  exact⟨by omega,_,_,_,rfl⟩
 ·rw[a5I]
  rintro e M' ⟨rfl,z2,z3,z4,rfl⟩
  rw[c6X]
  walk_at "sim"
  exact k
theorem a6K(T:Txt K mg)(d:Df K mg "_law_same" V2 ["hall"])(c3J:Fn P w K mg base "_law_round" 6 ["hall","ray"] W3):Fn P w K mg base "_law_same" 7 ["hall"] a1c:=by
 have sc:=a54
 refine h7 d sc (by walk_at "len") (fun f cdv A outer s H E ds M R Y hr h=>?_)
 have hu:=hr.units
 obtain⟨near,bs,far,rfl,hok,k⟩:=h
 have cd:=hok.cd (e6 near bs far).length
 rw[c6X]at cd
 have hdet:=a81 (e6 near bs far)
 refine⟨_,(d4 (jst 1 sc.nd (i3 (a7 (d9 (a7 (d9 (a7 d3 (a7 d3 a9))) (a7 (d9 (a7 d3 (a7 d3 a9))) a9))) (a7 (d9 (a7 (d9 (a7 d3 (a7 d3 a9))) (a7 (d9 (a7 d3 (a7 d3 a9))) a9))) a9)))) (d4 (jst 2 sc.nd (a1o rfl T.b_list T3 (a7 (a8 1) a9))) (d4 (v6 PassesOwn.never rfl (b4n rfl T.b_range (a7 d3 (a7 d3 a9))) (jn 3 sc.nd) (d4 (y8 (i:=2) [0] ["ray"] ["hall"] sc.nd rfl (Or.inl rfl) rfl (by decide +kernel) rfl (by decide +kernel) (by decide +kernel) rfl (a0r ⟨rfl,rfl⟩) (a0r (Or.inl rfl)) (y7 (a8 2)) (fun _ _ _ _ _ _=>(jn 0 (show(["ray","hall"]:List Str).Nodup by decide +kernel))) (fun _ _ _ _ _ _=>v8) (fun _ _ _ _ _ _=>(jc c3J hr (a7 (a8 1) (a7 (a8 0) a9))))) (d5 (f6 (jtm (p9 hu) (a8 2) (a8 1)) (d5 (d6 (a8 3))) e9)))) (d5 (d6 d3))))),?_⟩
 walk_at "sim"
 refine⟨⟨by decide,by decide,by decide,by decide⟩,?_⟩
 obtain⟨m,hm⟩:∃ m,tbQ (e6 near bs far)=m:=⟨_,rfl⟩
 rw[hm]at cd hdet k
 have c1:∀ i,i≤6→CD 1500 (F4 m (1,0) i).1 0 (F4 m (1,0) i).2 0:=fun i hi=>(a9s cd cdA i).mono (by omega)
 have c2:∀ i,i≤6→CD 1500 (F4 m (0,1) i).1 0 (F4 m (0,1) i).2 0:=fun i hi=>(a9s cd cdB i).mono (by omega)
 refine P1.by (fun i e M'=>M'=M∧(∃ z:Option D,e=[some (D.tup [d8 near,D.vl (c7i f9 bs),d8 far]),some (D.vl [D.tup [d8 1,d8 0],D.tup [d8 0,d8 1]]),some (D.vl [u5 (F4 m (1,0) i).1 (F4 m (1,0) i).2,u5 (F4 m (0,1) i).1 (F4 m (0,1) i).2]),z])∧∀ j,0<j→j≤i→pwQ m j≠(1,0,0,1)) ⟨rfl,⟨_,rfl⟩,fun j h0 h1=>absurd h0 (by omega)⟩ (fun _ _ _ _ _=>trivial) ?_ ?_
 ·rintro i dd e M' hd ⟨rfl,⟨z,rfl⟩,hb⟩
  obtain⟨hi,rfl⟩:=a1J hd
  have hi:i<6:=hi
  have o1:=b0Q (bs:=e6 near bs far) (1,0) i
  have o2:=b0Q (bs:=e6 near bs far) (0,1) i
  rw[hm]at o1 o2
  walk_at "sim"
  refine A6 (xs:=[F4 m (1,0) i,F4 m (0,1) i]) (enc:=fun r=>u5 r.1 r.2) (fun r=>u5 (g7 (e6 near bs far) r).1 (g7 (e6 near bs far) r).2) (by show 2≤1000;decide) (by simp only[j7]) (fun r hr Q hQ=>?_) ?_
  ·walk_at "sim"
   refine⟨⟨hok,?_⟩,hQ⟩
   simp only[c6M,c6Q,or_false]at hr
   rcases hr with rfl|rfl
   ·exact⟨_,c1 i (by omega),by decide⟩
   ·exact⟨_,c2 i (by omega),by decide⟩
  ·walk_at "sim"
   rw[o1,o2]
   refine⟨fun he=>?_,fun he=>⟨⟨_,rfl⟩,fun j j0 j1=>?_⟩⟩
   ·have h1:=a8F.mp he
    have h2:=b3F hdet (by omega) h1 fun j j0 j1=>hb j j0 (by omega)
    rw[h2]at k
    rw[show(1:Int)+(i:Int)=((i+1:Nat):Int)by omega]
    exact k
   ·rcases c8h i j with z|z
    ·have:j=i+1:=by omega
     rw[this]
     exact fun h=>he (a8F.mpr h)
    ·exact hb j j0 z
 ·rintro e M' ⟨rfl,⟨z,rfl⟩,hb⟩
  rw[o6]at hb
  have h2:=b3E hdet fun j j0 j1=>hb j j0 j1
  rw[h2]at k
  walk_at "sim"
  exact k
theorem a2h(T:Txt K mg)(d:Df K mg "_law_turning" L1 ["hall","t"])(c3K:Fn P w K mg base "_law_same" 7 ["hall"] a1c)(c3V:Fn P w K mg base "less" 1 ["one","other"] a0A):Fn P w K mg base "_law_turning" 8 ["hall","t"] a2v:=by
 have sc:=a2e
 refine h7 d sc (by walk_at "len") (fun f cdv A outer s H E ds M R Y hr h=>?_)
 have hu:=hr.units
 obtain⟨near,bs,far,t,rfl,⟨hok,ht⟩,k⟩:=h
 have cL:=hok.cd (e6 near bs far).length
 rw[c6X]at cL
 have zt:sz (trQ (tbQ (e6 near bs far)))≤231:=CD.tr cL
 rw[← ht]at zt
 have s2:sz (2:Rat)≤2:=by decide +kernel
 have s3:sz (-2:Rat)≤2:=by rw[RM.I0];exact s2
 refine⟨_,(d5 (d6 (r9 (jc c3V hr (a7 (d9 (a7 (A5 d3) (a7 d3 a9))) (a7 (a8 1) a9))) (r9 (jc c3V hr (a7 (a8 1) (a7 (d9 (a7 d3 (a7 d3 a9))) a9))) (v7 (jm G8 (jc c3K hr (a7 (a8 0) a9)) d3)))))),?_⟩
 walk_at "sim"
 refine⟨by omega,fun h1=>⟨by omega,fun h2=>⟨hok,?_⟩,fun h2=>?_⟩,fun h1=>?_⟩
 ·rw[show decide ((rtN (tbQ (e6 near bs far)):Int)=0)=decide (j3 t<2∧rtN (tbQ (e6 near bs far))=0)from decide_eq_decide.mpr ⟨fun e=>⟨K2.mpr ⟨h1,h2⟩,by omega⟩,fun e=>by omega⟩]
  exact k
 ·rw[show decide (j3 t<2∧rtN (tbQ (e6 near bs far))=0)=false from decide_eq_false fun e=>h2 (K2.mp e.1).2]at k
  exact k
 ·rw[show decide (j3 t<2∧rtN (tbQ (e6 near bs far))=0)=false from decide_eq_false fun e=>h1 (K2.mp e.1).1]at k
  exact k
theorem a4H(T:Txt K mg)(d:Df K mg "_law_march" R4 ["t","x","further","r","rounds"]):Fn P w K mg base "_law_march" 1 ["t","x","further","r","rounds"] a9l:=by
 have sc:=a4q
 refine h7 d sc (by walk_at "len") (fun f cdv A outer s H E ds M R Y hr h=>?_)
 have hu:=hr.units
 obtain⟨t,x,f',r,N,rfl,⟨ht,hl,hN⟩,k⟩:=h
 have zx:=hl.x
 have zf:=hl.f
 have zr:=hl.r
 have r0:=hl.p
 have xf:=hl.xf
 have zx:sz x≤3000:=zx
 have zf:sz f'≤3000:=zf
 have zr:sz r≤3000:=zr
 have xf:sz x+sz f'≤4200:=xf
 have r0:0<r:=r0
 have rn0:=a9D r0
 have rd0:=r.den_pos
 have td:=t9 t ht
 have tn:=q9 t ht
 have td':(t.den:Int).natAbs<2 ^ 231:=by rw[c6w];exact td
 have rd:=t9 r zr
 have rd':(r.den:Int).natAbs<2 ^ 3000:=by rw[c6w];exact rd
 have rn:=q9 r zr
 have xn:=q9 x zx
 have fn:=q9 f' zf
 have xd:(x.den:Int).natAbs<2 ^ 3000:=by rw[c6w];exact t9 x zx
 have fd:(f'.den:Int).natAbs<2 ^ 3000:=by rw[c6w];exact t9 f' zf
 have dn:∀{a:Int} {n:Nat},(a*(r.den:Int)).natAbs<n→a.natAbs<n:=fun{a n} h=>by
  rw[c6W,c6w]at h
  exact c6O (Nat.le_mul_of_pos_right _ rd0) h
 have dW:∀{W n:Nat},(r.num*(W:Int)).natAbs<n→(W:Int).natAbs<n:=fun{W n} h=>by
  rw[c6W]at h
  exact c6O (c87 _ (by omega)) h
 have e1:=u9 x
 have e2:=u9 f'
 have e3:=u9 r
 have st0:a4R t (x,f',r) 0 (x.num*(f'.den:Int)*(r.den:Int),f'.num*(x.den:Int)*(t.den:Int)*(r.den:Int),r.num*((x.den*f'.den:Nat):Int)):=by
  refine⟨⟨x.den*f'.den*r.den,c81 (c81 x.den_pos f'.den_pos) rd0,?_,?_,?_⟩,?_,?_,?_⟩
  ·show((x.num*(f'.den:Int)*(r.den:Int):Int):Rat)=x*((x.den*f'.den*r.den:Nat):Rat)
   rw[c6B,c6B,c6C,c6C,c6Z,c6Z,← e1];grind
  ·show((f'.num*(x.den:Int)*(t.den:Int)*(r.den:Int):Int):Rat)=f'*(((x.den*f'.den*r.den:Nat):Rat)*(t.den:Rat))
   rw[c6B,c6B,c6B,c6C,c6C,c6C,c6Z,c6Z,← e2];grind
  ·show((r.num*((x.den*f'.den:Nat):Int):Int):Rat)=r*((x.den*f'.den*r.den:Nat):Rat)
   rw[c6B,c6C,c6Z,c6Z,c6Z,← e3];grind
  ·exact p0 (e7 (e7 xn fd) rd') (by decide)
  ·exact p0 (e7 (e7 (e7 fn xd) td') rd') (by decide)
  ·rw[c7t];exact p0 (e7 rn (e7 xd fd)) (by decide)
 refine⟨_,(d4 (jst 5 sc.nd (f7 i8 (jx (a8 1) d3) (jx (a8 2) d3))) (d4 (jst 6 sc.nd (f7 i8 (jx (a8 1) d3) (jx (a8 2) d3))) (d4 (jst 7 sc.nd (f7 i8 (f7 i8 (jx (a8 2) d3) (jx (a8 1) d3)) (jx (a8 0) d3))) (d4 (v6 PassesOwn.never rfl (Z8 rfl T.b_range (a7 (a8 4) a9)) (jn 8 sc.nd) (d4 (f6 (jtm a2j (f7 i8 (i4 a0y rfl T.b_abs O9 (a7 (a8 6) a9)) (jx (a8 3) d3)) (f7 i8 (jx (a8 3) d3) (a8 5))) (d5 (d6 (a8 8))) e9) (d4 (a6S (i:=6) (j:=7) rfl sc.nd rfl rfl (by decide) rfl rfl (a7 (a8 7) (a7 (f7 a18 (f7 i8 (jx (a8 0) d3) (a8 7)) (f7 i8 (f7 i8 (jx (a8 0) d3) (jx (a8 0) d3)) (a8 6))) a9))) (d5 (jst 5 sc.nd (f7 i8 (a8 5) (jx (a8 0) d3))))))) (d5 (d6 C7)))))),?_⟩
 walk_at "sim"
 refine⟨p7 _ _ xd fd (by decide),p7 _ _ xn fd (by decide),p7 _ _ fn xd (by decide),p7 _ _ (e7 fn xd) td' (by decide),⟨by omega,by omega⟩,?_⟩
 rw[c7A]
 refine P1.by (fun i e M'=>M'=M∧∃(a b:Int) (W:Nat) (z:Option D),e=[some (d8 t),some (d8 x),some (d8 f'),some (d8 r),some (.int (N:Int)),some (.int (W:Int)),some (.int a),some (.int b),z]∧a4R t (x,f',r) i (a*(r.den:Int),b*(r.den:Int),r.num*(W:Int))∧∀ n,n<i→¬ a0q t (x,f',r) n) ⟨rfl,_,_,_,_,by rw[c7t],st0,fun n hn=>absurd hn (by omega)⟩ (fun _ _ _ _ _=>trivial) ?_ ?_
 ·rintro i dd e M' hd ⟨rfl,a,b,W,z,rfl,hst,hno⟩
  obtain⟨hi,rfl⟩:=a1J hd
  rw[show(0:Int)+(i:Int)=(i:Int)by omega]
  have ba:=dn hst.b1
  have bb:=dn hst.b2
  have bW:=dW hst.b3
  have hbe:=hst.bey
  rw[show(a*(r.den:Int)).natAbs=a.natAbs*r.den by rw[c6W,c6w],c7t]at hbe
  have hnx:=hst.next ht
  walk_at "sim"
  refine⟨p7 _ _ (by rw[c6w];exact ba) rd' (by omega),p7 _ _ rn bW (by omega),fun h1=>?_,fun h1=>⟨p7 _ _ tn bb (by omega),p7 _ _ td' td' (by decide),p7 _ _ (e7 td' td') ba (by omega),p7 _ _ bW td' (by omega),_,_,W*t.den,_,by rw[c7t],?_,fun n hn=>?_⟩⟩
  ·rw[a9G hi (hbe.mp h1) hno]at k
   exact k
  ·have e4:(t.num*(b*(r.den:Int)) - (t.den:Int)*(t.den:Int)*(a*(r.den:Int)))=(t.num*b - (t.den:Int)*(t.den:Int)*a)*(r.den:Int):=by rw[Int.sub_mul];simp only[Int.mul_assoc]
   have e5:r.num*(W:Int)*(t.den:Int)=r.num*((W*t.den:Nat):Int):=by rw[c7t,Int.mul_assoc]
   rw[← e4,← e5];exact hnx
  ·rcases c8h n i with z|z
   ·exact hno n z
   ·have:n=i:=by omega
    subst this
    exact fun z=>h1 (hbe.mpr z)
 ·rw[o6]
  rintro e M' ⟨rfl,a,b,W,z,rfl,hst,hno⟩
  walk_at "sim"
  rw[a3Y hno]at k
  exact k
theorem a0m(T:Txt K mg)(d:Df K mg "_law_entry_shown" E5 ["hall","t","x","further","r","entry"])(c3B:Fn P w K mg base "plus" 3 ["one","other"] F1)(c3Q:Fn P w K mg base "over" 3 ["one","other"] P9)(c3R:Fn P w K mg base "times" 3 ["one","other"] a2p)(c3O:Fn P w K mg base "_law_beyond" 1 ["x","r"] a9m)(c3I:Fn P w K mg base "is_ratio" 2 ["thing"] a3E)(c3U:Fn P w K mg base "less" 1 ["one","other"] a3B)(c3y:Fn P w K mg base "times" 3 ["one","other"] D5)(c3F:Fn P w K mg base "_law_reach" 5 ["t","x","further"] V9)(c3L:Fn P w K mg base "_law_turning" 8 ["hall","t"] a2v)(c4m:Fn P w K mg base "_law_march" 1 ["t","x","further","r","rounds"] a9l)(c3K:Fn P w K mg base "_law_same" 7 ["hall"] a1c):Fn P w K mg base "_law_entry_shown" 9 ["hall","t","x","further","r","entry"] a9p:=by
 have sc:=a0k
 refine h7 d sc (by walk_at "len") (fun f cdv A outer s H E ds M R Y hr h=>?_)
 have hu:=hr.units
 obtain⟨x0,t,x,f',r,d,rfl,near,bs,far,e,rfl,rfl,⟨hw,rfl,hl,⟨zx,zf⟩,he,hsm⟩,k⟩:=h
 have cL:=hw.cd (e6 near bs far).length
 rw[c6X]at cL
 have zt:sz (trQ (tbQ (e6 near bs far)))≤231:=CD.tr cL
 have cn:cl 59 (D.str (Str.ofString "nought"))=true:=by decide +kernel
 have zr:sz r≤3000:=hl.r
 have dL:=a81 (e6 near bs far)
 have rz:rtN (tbQ (e6 near bs far))=0 ↔ ¬ B2 (tbQ (e6 near bs far)):=⟨fun e hs=>by
  obtain⟨n0,e1,e2,_⟩:=a3G dL hs
  rw[a6A _ hs]at e1
  injection e1 with e1
  omega,b0P⟩
 have rt6:rtN (tbQ (e6 near bs far))≤6:=by
  unfold rtN;repeat' split
  all_goals decide
 generalize hm:tbQ (e6 near bs far)=m at *
 cases e with
 | one w =>
  unfold enD
  unfold a4a at he
  have iff:N6 m (x,f',r) (.one w)↔w=Str.ofString "nought" ∧ x=0∧f'=0:=Iff.rfl
  refine⟨_,(d4 (f6 (jtm (p9 hu) (a8 5) (d9 (a7 g8 a9))) (d5 (d6 (r9 (jm (p9 hu) (a8 2) (d9 (a7 d3 (a7 d3 a9)))) (v7 (jm (p9 hu) (a8 3) (d9 (a7 d3 (a7 d3 a9)))))))) e9) (d4 (f6 (jtm a0u (i4 C3 rfl T.b_len y4 (a7 (a8 5) a9)) d3) (d5 (d6 A1)) e9) (d4 (f6 (jtm C2 (jx (a8 5) d3) g8) (d5 (d6 (r9 (jm (p9 hu) (jx (a8 5) d3) (jc c3K hr (a7 (a8 0) a9))) (r9 (jm a2j (jx (a8 5) d3) d3) (v7 (jm b1L (jc c4m hr (a7 (a8 1) (a7 (a8 2) (a7 (a8 3) (a7 (a8 4) (a7 (jx (a8 5) d3) a9)))))) C7)))))) e9) (d4 (f6 (jtm C2 (jx (a8 5) d3) g8) (d4 (f6 (A8 (u8 (w6 (i0 (jc c3L hr (a7 (a8 0) (a7 (a8 1) a9))))) (A4 (jtm (a0v hu) (jx (a8 5) d3) (jc c3F hr (a7 (a8 1) (a7 (a8 2) (a7 (a8 3) a9)))))))) (d5 (d6 A1)) e9) (d5 (d6 (G5 (jc c3U hr (a7 (jc c3y hr (a7 (a8 4) (a7 (a8 4) a9))) (a7 (jx (a8 5) d3) a9))))))) e9) (d4 (jst 6 sc.nd (jx (a8 5) d3)) (d4 (f6 (A8 (u8 (jtm a5C (jx (a8 5) d3) g8) (u8 (w6 (i0 (jc c3I hr (a7 (a8 6) a9)))) (u8 (jtm (p9 hu) (a8 6) (d9 (a7 d3 (a7 d3 a9)))) (u8 (i0 (jc c3O hr (a7 (a8 6) (a7 (d9 (a7 d3 (a7 d3 a9))) a9)))) (A4 (i0 (jc c3O hr (a7 (a8 2) (a7 (a8 4) a9)))))))))) (d5 (d6 A1)) e9) (d5 (d6 (r9 (jm (p9 hu) (a8 3) (jc c3R hr (a7 (a8 6) (a7 (a8 2) a9)))) (v7 (jm (p9 hu) (jc c3B hr (a7 (a8 6) (a7 (jc c3Q hr (a7 (d9 (a7 d3 (a7 d3 a9))) (a7 (a8 6) a9))) a9))) (a8 1)))))))))))),?_⟩
  walk_at "sim"
  rw[hm]
  refine⟨he,cn,fun hwo=>⟨fun h1=>?_,fun h1=>?_⟩,fun hwo=>⟨fun _=>?_,fun h=>absurd h (by decide)⟩⟩
  ·have hwo:w=Str.ofString "nought" := by injection hwo with hw;injection hw with hw;injection hw
   rw[show E9 m (x,f',r) (.one w)=decide (f'=0)from ?_]at k
   ·exact k
   ·by_cases h2:f'=0
    ·rw[decide_eq_true h2,W8 (iff.mpr ⟨hwo,h1,h2⟩)]
    ·rw[decide_eq_false h2,u4 (fun z=>h2 (iff.mp z).2.2)]
  ·rw[u4 (fun z=>h1 (iff.mp z).2.1)]at k;exact k
  ·rw[u4 (fun z=>hwo (by rw[(iff.mp z).1]))]at k;exact k
 | int w n =>
  unfold enD
  unfold a4a at he
  have iff:N6 m (x,f',r) (.int w n)↔w=Str.ofString "round" ∧ B2 m∧n=(rtN m:Int)∧∀ j,j<rtN m→¬ a0q (trQ m) (x,f',r) j:=Iff.rfl
  refine⟨_,(d4 (f6 (jtm (p9 hu) (a8 5) (d9 (a7 g8 a9))) (d5 (d6 (r9 (jm (p9 hu) (a8 2) (d9 (a7 d3 (a7 d3 a9)))) (v7 (jm (p9 hu) (a8 3) (d9 (a7 d3 (a7 d3 a9)))))))) e9) (d4 (f6 (jtm a0u (i4 C3 rfl T.b_len y4 (a7 (a8 5) a9)) d3) (d5 (d6 A1)) e9) (d4 (f6 (jtm C2 (jx (a8 5) d3) g8) (d5 (d6 (r9 (jm (p9 hu) (jx (a8 5) d3) (jc c3K hr (a7 (a8 0) a9))) (r9 (jm a2j (jx (a8 5) d3) d3) (v7 (jm b1L (jc c4m hr (a7 (a8 1) (a7 (a8 2) (a7 (a8 3) (a7 (a8 4) (a7 (jx (a8 5) d3) a9)))))) C7)))))) e9) (d4 (f6 (jtm C2 (jx (a8 5) d3) g8) (d4 (f6 (A8 (u8 (w6 (i0 (jc c3L hr (a7 (a8 0) (a7 (a8 1) a9))))) (A4 (jtm (a0v hu) (jx (a8 5) d3) (jc c3F hr (a7 (a8 1) (a7 (a8 2) (a7 (a8 3) a9)))))))) (d5 (d6 A1)) e9) (d5 (d6 (G5 (jc c3U hr (a7 (jc c3y hr (a7 (a8 4) (a7 (a8 4) a9))) (a7 (jx (a8 5) d3) a9))))))) e9) (d4 (jst 6 sc.nd (jx (a8 5) d3)) (d4 (f6 (A8 (u8 (jtm a5C (jx (a8 5) d3) g8) (u8 (w6 (i0 (jc c3I hr (a7 (a8 6) a9)))) (u8 (jtm (p9 hu) (a8 6) (d9 (a7 d3 (a7 d3 a9)))) (u8 (i0 (jc c3O hr (a7 (a8 6) (a7 (d9 (a7 d3 (a7 d3 a9))) a9)))) (A4 (i0 (jc c3O hr (a7 (a8 2) (a7 (a8 4) a9)))))))))) (d5 (d6 A1)) e9) (d5 (d6 (r9 (jm (p9 hu) (a8 3) (jc c3R hr (a7 (a8 6) (a7 (a8 2) a9)))) (v7 (jm (p9 hu) (jc c3B hr (a7 (a8 6) (a7 (jc c3Q hr (a7 (d9 (a7 d3 (a7 d3 a9))) (a7 (a8 6) a9))) a9))) (a8 1)))))))))))),?_⟩
  walk_at "sim"
  rw[hm]
  refine⟨he.1,cn,fun hwo=>?_,fun hwo=>⟨fun h=>absurd rfl h,fun _=>⟨fun h1=>⟨hw,fun hn=>⟨fun n0=>?_,fun n0=>?_⟩,fun hn=>?_⟩,fun h1=>?_⟩⟩⟩
  ·injection hwo with hw;injection hw with _ hw;cases hw
  ·subst hn
   have hs:B2 m:=c7E fun z=>by rw[rz.mpr z]at n0;exact absurd n0 (by decide)
   refine(a2O (N:=rtN m)).mpr ⟨⟨zt,hl,by omega⟩,?_⟩
   by_cases hb:∀ j,j<rtN m→¬ a0q (trQ m) (x,f',r) j
   ·rw[a3Y hb]
    show gIs false D.non D.non M R
    rw[a4d rfl]
    walk_at "sim"
    rw[W8 (iff.mpr ⟨h1,hs,rfl,hb⟩)]at k
    exact k
   ·rw[u4 (fun z=>hb (iff.mp z).2.2.2)]at k
    have:∃ z,W7 (trQ m) (x,f',r) (rtN m)=some z:=by
     cases e:W7 (trQ m) (x,f',r) (rtN m)with
     | some z=>exact⟨z,rfl⟩
     | none =>
      unfold W7 at e
      exact absurd (fun j hj hbj=>c8l.mp e j (c7Z.mpr hj) (decide_eq_true hbj)) hb
    obtain⟨z,ez⟩:=this
    rw[ez]
    show gIs false (.int (z:Int)) D.non M R
    rw[a4d rfl]
    walk_at "sim"
    exact k
  ·rw[u4 (fun z=>?_)]at k
   ·exact k
   ·obtain⟨_,z1,z2,_⟩:=iff.mp z
    have:=rz.mp
    exact n0 (by
     have:rtN m≠0:=fun e=>rz.mp e z1
     omega)
  ·rw[u4 (fun z=>hn (iff.mp z).2.2.1)]at k;exact k
  ·rw[u4 (fun z=>h1 (iff.mp z).1)]at k
   exact⟨fun h2=>⟨⟨hw,rfl⟩,fun _=>k,fun h3=>⟨⟨zt,zx,zf,(K2.mp h3.1).1,(K2.mp h3.1).2⟩,fun _=>k,fun h=>by cases h⟩⟩,fun _=>⟨fun _=>k,fun _=>.inr ⟨n,rfl,k⟩⟩⟩
 | rat w q =>
  unfold enD
  unfold a4a at he
  have iff:N6 m (x,f',r) (.rat w q)↔((w=Str.ofString "reach" ∧ (¬ B2 m∧j3 (trQ m)<2)∧S5 (trQ m) x f'=q∧¬ r*r<q)∨(w=Str.ofString "kept" ∧ ¬ 1<j3 q∧q*q+1=trQ m*q∧q*x=f'∧¬ r<j3 x)):=Iff.rfl
  have h9:=he.2
  have zrr:=RM.u3 r r
  have s1:sz (1:Rat)=1:=RM.K6
  refine⟨_,(d4 (f6 (jtm (p9 hu) (a8 5) (d9 (a7 g8 a9))) (d5 (d6 (r9 (jm (p9 hu) (a8 2) (d9 (a7 d3 (a7 d3 a9)))) (v7 (jm (p9 hu) (a8 3) (d9 (a7 d3 (a7 d3 a9)))))))) e9) (d4 (f6 (jtm a0u (i4 C3 rfl T.b_len y4 (a7 (a8 5) a9)) d3) (d5 (d6 A1)) e9) (d4 (f6 (jtm C2 (jx (a8 5) d3) g8) (d5 (d6 (r9 (jm (p9 hu) (jx (a8 5) d3) (jc c3K hr (a7 (a8 0) a9))) (r9 (jm a2j (jx (a8 5) d3) d3) (v7 (jm b1L (jc c4m hr (a7 (a8 1) (a7 (a8 2) (a7 (a8 3) (a7 (a8 4) (a7 (jx (a8 5) d3) a9)))))) C7)))))) e9) (d4 (f6 (jtm C2 (jx (a8 5) d3) g8) (d4 (f6 (A8 (u8 (w6 (i0 (jc c3L hr (a7 (a8 0) (a7 (a8 1) a9))))) (A4 (jtm (a0v hu) (jx (a8 5) d3) (jc c3F hr (a7 (a8 1) (a7 (a8 2) (a7 (a8 3) a9)))))))) (d5 (d6 A1)) e9) (d5 (d6 (G5 (jc c3U hr (a7 (jc c3y hr (a7 (a8 4) (a7 (a8 4) a9))) (a7 (jx (a8 5) d3) a9))))))) e9) (d4 (jst 6 sc.nd (jx (a8 5) d3)) (d4 (f6 (A8 (u8 (jtm a5C (jx (a8 5) d3) g8) (u8 (w6 (i0 (jc c3I hr (a7 (a8 6) a9)))) (u8 (jtm (p9 hu) (a8 6) (d9 (a7 d3 (a7 d3 a9)))) (u8 (i0 (jc c3O hr (a7 (a8 6) (a7 (d9 (a7 d3 (a7 d3 a9))) a9)))) (A4 (i0 (jc c3O hr (a7 (a8 2) (a7 (a8 4) a9)))))))))) (d5 (d6 A1)) e9) (d5 (d6 (r9 (jm (p9 hu) (a8 3) (jc c3R hr (a7 (a8 6) (a7 (a8 2) a9)))) (v7 (jm (p9 hu) (jc c3B hr (a7 (a8 6) (a7 (jc c3Q hr (a7 (d9 (a7 d3 (a7 d3 a9))) (a7 (a8 6) a9))) a9))) (a8 1)))))))))))),?_⟩
  walk_at "sim"
  rw[hm]
  refine⟨he.1,cn,fun hwo=>?_,fun hwo=>⟨fun h=>absurd rfl h,fun _=>⟨fun h1=>⟨hw,fun h=>(by cases h),fun _=>?_⟩,fun h1=>⟨fun h2=>⟨⟨hw,rfl⟩,fun h3=>?_,fun h3=>?_⟩,fun h2=>⟨fun h3=>?_,fun h3=>.inl ⟨q,rfl,fun q0=>?_,fun q0=>⟨by omega,fun h4=>?_,fun h4=>⟨by omega,fun h5=>?_,fun h5=>⟨⟨by omega,b7u (by omega) (by omega)⟩,fun h6=>?_,fun h6=>?_⟩⟩⟩⟩⟩⟩⟩⟩⟩
  ·injection hwo with hw;injection hw with _ hw;cases hw
  ·rw[u4 (fun z=>?_)]at k
   ·exact k
   ·rcases iff.mp z with⟨z,_⟩|⟨z,_⟩<;>(rw[h1]at z;exact absurd z (by decide))
  ·rw[u4 (fun z=>?_)]at k
   ·exact k
   ·rcases iff.mp z with⟨_,⟨z1,z2⟩,_⟩|⟨z,_⟩
    ·exact h3 ⟨z2,rz.mpr z1⟩
    ·rw[h2]at z;exact absurd z (by decide)
  ·obtain⟨t1,t2⟩:=K2.mp h3.1
   refine⟨⟨zt,zx,zf,t1,t2⟩,fun h4=>?_,fun h4=>⟨by omega,?_⟩⟩
   ·rw[u4 (fun z=>?_)]at k
    ·exact k
    ·rcases iff.mp z with⟨_,_,z,_⟩|⟨z,_⟩
     ·exact h4 z.symm
     ·rw[h2]at z;exact absurd z (by decide)
   ·refine⟨r*r,q.num,(q.den:Int),rfl,⟨by have:=q.den_pos;omega,by omega,by rw[c6w];exact t9 _ (by omega),q9 _ (by omega)⟩,?_⟩
    rw[c76]
    walk_at "sim"
    rw[show E9 m (x,f',r) (.rat w q) = !decide (r*r<q)from ?_]at k
    ·exact k
    ·by_cases hlt:r*r<q
     ·rw[decide_eq_true hlt,u4 (fun z=>?_)];rfl
      rcases iff.mp z with⟨_,_,_,z⟩|⟨z,_⟩
      ·exact z hlt
      ·rw[h2]at z;exact absurd z (by decide)
     ·rw[decide_eq_false hlt,W8 (iff.mpr (.inl ⟨h2,⟨rz.mp h3.2,h3.1⟩,h4.symm,hlt⟩))];rfl
  ·rw[u4 (fun z=>?_)]at k
   ·exact k
   ·rcases iff.mp z with⟨z,_⟩|⟨z,_⟩
    ·exact h2 z
    ·exact h3 z
  all_goals
   have iff2:N6 m (x,f',r) (.rat w q)↔(¬ 1<j3 q∧q*q+1=trQ m*q∧q*x=f'∧¬ r<j3 x):=iff.trans ⟨fun z=>by
    rcases z with⟨z,_⟩|⟨_,z⟩
    ·exact absurd z h2
    ·exact z,fun z=>.inr ⟨h3,z⟩⟩
  ·rw[u4 (fun z=>?_)]at k
   ·exact k
   ·have:=(iff2.mp z).2.1
    rw[q0]at this;grind
  ·rw[u4 (fun z=>(iff2.mp z).1 h4)]at k;exact k
  ·rw[u4 (fun z=>(iff2.mp z).2.2.2 h5)]at k;exact k
  ·have zq:sz q≤2800:=by
    by_cases hx:x=0
    ·have:=hsm hx (by rw[h6,hx];grind)
     have:sz q≤100:=this
     omega
    ·have:=RM.J1 f' x hx
     rw[show f' / x=q by rw[h6];grind]at this
     omega
   have d1:=RM.J1 1 q q0
   refine⟨q0,by omega,by omega,?_⟩
   rw[show E9 m (x,f',r) (.rat w q)=decide (q+1 / q=trQ m)from ?_]at k
   ·exact k
   ·by_cases hq:q+1 / q=trQ m
    ·rw[decide_eq_true hq,W8 (iff2.mpr ⟨h4,by rw[← hq];grind,h6.symm,h5⟩)]
    ·rw[decide_eq_false hq,u4 (fun z=>hq ?_)]
     have:=(iff2.mp z).2.1
     have:trQ m=(q*q+1) / q:=by rw[this];grind
     rw[this];grind
  ·rw[u4 (fun z=>h6 (iff2.mp z).2.2.1.symm)]at k;exact k
theorem b1J(T:Txt K mg)(d:Df K mg "_law_t" a3v ["hall"])(c3B:Fn P w K mg base "plus" 3 ["one","other"] F1)(c3J:Fn P w K mg base "_law_round" 6 ["hall","ray"] W3):Fn P w K mg base "_law_t" 7 ["hall"] b6x:=by
 have sc:=b1C
 refine h7 d sc (by walk_at "len") (fun f cdv A outer s H E ds M R Y hr h=>?_)
 have hu:=hr.units
 obtain⟨near,bs,far,rfl,hok,k⟩:=h
 have cL:=hok.cd (e6 near bs far).length
 rw[c6X]at cL
 have t4:=CD.t4 cL
 have z3:sz (g7 (e6 near bs far) (1,0)).1≤230:=t4.a
 have z6:sz (g7 (e6 near bs far) (0,1)).2≤230:=t4.d
 refine⟨_,(d4 (jst 1 sc.nd (jc c3J hr (a7 (a8 0) (a7 (d9 (a7 (d9 (a7 d3 (a7 d3 a9))) (a7 (d9 (a7 d3 (a7 d3 a9))) a9))) a9)))) (d4 (jst 2 sc.nd (jc c3J hr (a7 (a8 0) (a7 (d9 (a7 (d9 (a7 d3 (a7 d3 a9))) (a7 (d9 (a7 d3 (a7 d3 a9))) a9))) a9)))) (d5 (d6 (jc c3B hr (a7 (jx (a8 1) d3) (a7 (jx (a8 2) d3) a9))))))),?_⟩
 walk_at "sim"
 exact⟨⟨hok,_,cdA,by decide⟩,⟨hok,_,cdB,by decide⟩,by omega,k⟩
theorem a4I(T:Txt K mg)(d:Df K mg "_law_lines" R5 ["hall"])(c4d:Fn P w K mg base "_law_parts" 1 ["hall"] a2A)(c4b:Fn P w K mg base "_law_part" 5 ["part","ray"] a3C):Fn P w K mg base "_law_lines" 6 ["hall"] a3z:=by
 have sc:=a4r
 refine h7 d sc (by walk_at "len") (fun f cdv A outer s H E ds M R Y hr h=>?_)
 have hu:=hr.units
 obtain⟨near,bs,far,rfl,hok,k⟩:=h
 have hl:=hok.len
 have hl2:=P7 near far bs
 refine⟨_,(d4 (jst 1 sc.nd (d9 (a7 (d9 (a7 d3 (a7 d3 a9))) (a7 (d9 (a7 d3 (a7 d3 a9))) a9)))) (d4 (jst 2 sc.nd (d9 (a7 (d9 (a7 d3 (a7 d3 a9))) (a7 (d9 (a7 d3 (a7 d3 a9))) a9)))) (d4 (jst 3 sc.nd (W9 a9)) (d4 (v6 PassesOwn.never rfl (y7 (jc c4d hr (a7 (a8 0) a9))) (h8 (n:=3) rfl (d7 (jn 4 sc.nd) (d7 (jn 5 sc.nd) (d7 (jn 6 sc.nd) g9)))) (C6 (f6 (jtm C2 (jx (a8 6) d3) g8) (d5 (C9 (X0 PySem.F.slot_list_append PySem.F.type_list_append D6 (a8 3) (a7 (d9 (a7 (a8 4) (a7 (a8 5) (a7 (d9 (a7 (jx (a8 1) d3) (a7 (jx (a8 2) d3) (a7 (jx (a8 6) d3) a9)))) a9)))) a9)))) e9) (d4 (jst 1 sc.nd (jc c4b hr (a7 (a8 6) (a7 (a8 1) a9)))) (d5 (jst 2 sc.nd (jc c4b hr (a7 (a8 6) (a7 (a8 2) a9)))))))) (d5 (d6 (F9 (L6 (a8 3))))))))),?_⟩
 walk_at "sim"
 intro p hp
 refine⟨hl,?_⟩
 refine P1.by (fun i e M'=>∃ z6 z7 z8:Option D,e=[some (D.tup [d8 near,D.vl (c7i f9 bs),d8 far]),some (u5 (g7 ((e6 near bs far).take i) (1,0)).1 (g7 ((e6 near bs far).take i) (1,0)).2),some (u5 (g7 ((e6 near bs far).take i) (0,1)).1 (g7 ((e6 near bs far).take i) (0,1)).2),some (D.ref p),z6,z7,z8]∧M'=A7 M p (.lst (hlN (y3 near bs far) i))) ⟨_,_,_,rfl,rfl⟩ (fun i e M' _ _=>by simp only[j7]) ?_ ?_
 ·rintro i dd e M' hd ⟨z6,z7,z8,rfl,rfl⟩
  obtain⟨w,n,x,rfl,hT,hx⟩:=a9K hd
  have t4:=CD.t4 (hok.cd i)
  have a1:sz (g7 ((e6 near bs far).take i) (1,0)).1≤230:=t4.a
  have a2:sz (g7 ((e6 near bs far).take i) (0,1)).1≤230:=t4.b
  have b1:sz (g7 ((e6 near bs far).take i) (1,0)).2≤230:=t4.c
  have b2:sz (g7 ((e6 near bs far).take i) (0,1)).2≤230:=t4.d
  have q2:=hok.szs x (c6J hx)
  have o1:=L5 hx (1,0)
  have o2:=L5 hx (0,1)
  have hi:=(c6F.mp hx).1
  have on:=c0i hT
  rw[S7]at on
  have l1:=b7p (y3 near bs far) i
  walk_at "sim"
  refine P0 (fun e' M'=>e'=[some (D.tup [d8 near,D.vl (c7i f9 bs),d8 far]),some (u5 (g7 ((e6 near bs far).take i) (1,0)).1 (g7 ((e6 near bs far).take i) (1,0)).2),some (u5 (g7 ((e6 near bs far).take i) (0,1)).1 (g7 ((e6 near bs far).take i) (0,1)).2),some (D.ref p),some w,some n,some (f9 x)]∧M'=A7 M p (.lst (hlN (y3 near bs far) (i+1)))) ?_ ?_
  ·walk_at "sim"
   refine⟨fun h1=>?_,fun h1=>by rw[on,if_neg h1]⟩
   refine L8 g6 (T7 g6 (by omega) ?_)
   rw[a3g,on,if_pos h1]
  ·rintro e' M' ⟨rfl,rfl⟩
   walk_at "sim"
   refine⟨by omega,by omega,some w,some n,some (f9 x),?_⟩
   rw[o1,o2]
 ·rintro e M' ⟨z6,z7,z8,rfl,rfl⟩
  rw[a5I,← G3]
  walk_at "sim"
  rw[a0z g6,P8 hp]
  exact J8 (M2:=M) (fun _ _ h=>h) k
theorem a2i(T:Txt K mg)(d:Df K mg "_law_numbers" L3 ["hall","ray"])(c4E:Fn P w K mg base "_law_lines" 6 ["hall"] a3z)(c3B:Fn P w K mg base "plus" 3 ["one","other"] F1)(c3y:Fn P w K mg base "times" 3 ["one","other"] D5)(c3J:Fn P w K mg base "_law_round" 6 ["hall","ray"] W3):Fn P w K mg base "_law_numbers" 7 ["hall","ray"] a1d:=by
 have sc:=a2f
 refine h7 d sc (by walk_at "len") (fun f cdv A outer s H E ds M R Y hr h=>?_)
 have hu:=hr.units
 obtain⟨near,bs,far,y,u,rfl,⟨hok,cd⟩,k⟩:=h
 rw[show(A9 near bs far y u).map p5=(B8 (e6 near bs far) (e6 near bs far).length).map (b8y (e6 near bs far) y u)by unfold A9;rw[c7w];rfl]at k
 have cL:=hok.cd (e6 near bs far).length
 rw[c6X]at cL
 have ray:=(W5 cL cd).t2
 have r1:=ray.y
 have r2:=ray.u
 have ty:=cd.t2.y
 have tu:=cd.t2.u
 have hl:=hok.len
 have hl2:=P7 near far bs
 have sl:=K8 (e6 near bs far) (e6 near bs far).length
 have hz:=b0F hok.cd (e6 near bs far).length
 refine⟨_,(d4 (jst 2 sc.nd (jc c3J hr (a7 (a8 0) (a7 (a8 1) a9)))) (d4 (jst 3 sc.nd (W9 a9)) (d4 (v6 PassesOwn.never rfl (y7 (jc c4E hr (a7 (a8 0) a9))) (h8 (n:=3) rfl (d7 (jn 4 sc.nd) (d7 (jn 5 sc.nd) (d7 (h8 (n:=3) rfl (d7 (jn 6 sc.nd) (d7 (jn 7 sc.nd) (d7 (jn 8 sc.nd) g9)))) g9)))) (d4 (jst 9 sc.nd (jc c3B hr (a7 (jc c3y hr (a7 (a8 6) (a7 (jx (a8 1) d3) a9))) (a7 (jc c3y hr (a7 (a8 7) (a7 (jx (a8 1) d3) a9))) a9)))) (d5 (C9 (X0 PySem.F.slot_list_append PySem.F.type_list_append D6 (a8 3) (a7 (d9 (a7 (a8 9) (a7 (jc c3B hr (a7 (jc c3y hr (a7 (a8 6) (a7 (jx (a8 2) d3) a9))) (a7 (jc c3y hr (a7 (a8 7) (a7 (jx (a8 2) d3) a9))) a9))) (a7 (a8 8) a9)))) a9)))))) (d5 (d6 (F9 (L6 (a8 3)))))))),?_⟩
 walk_at "sim"
 refine⟨⟨hok,_,cd,by decide⟩,fun p hp=>⟨hok,?_⟩⟩
 refine P1.by (fun i e M'=>∃ z4 z5 z6 z7 z8 z9:Option D,e=[some (D.tup [d8 near,D.vl (c7i f9 bs),d8 far]),some (u5 y u),some (u5 (g7 (e6 near bs far) (y,u)).1 (g7 (e6 near bs far) (y,u)).2),some (D.ref p),z4,z5,z6,z7,z8,z9]∧M'=A7 M p (.lst (((B8 (e6 near bs far) (e6 near bs far).length).take i).map (b8y (e6 near bs far) y u)))) ⟨_,_,_,_,_,_,rfl,rfl⟩ (fun i e M' _ _=>by simp only[j7]) ?_ ?_
 ·rintro i dd e M' hd ⟨z4,z5,z6,z7,z8,z9,rfl,rfl⟩
  obtain⟨w0,l,rfl,hli⟩:=b7o hd
  rw[S7,G3]at hli
  obtain⟨s1,s2⟩:=hz l (c6J hli)
  have hi:=(c6F.mp hli).1
  have m1:=RM.u3 l.1 y
  have m2:=RM.u3 l.2.1 u
  have m3:=RM.u3 l.1 (g7 (e6 near bs far) (y,u)).1
  have m4:=RM.u3 l.2.1 (g7 (e6 near bs far) (y,u)).2
  have tk:(B8 (e6 near bs far) (e6 near bs far).length).take (i+1)=(B8 (e6 near bs far) (e6 near bs far).length).take i++[l]:=by rw[c7X,hli];rfl
  unfold hlD p5
  walk_at "sim"
  refine⟨by omega,by omega,by omega,L8 g6 ⟨by omega,by omega,by omega,T7 g6 (by rw[c6x,c7p];omega) ⟨_,_,_,_,_,_,rfl,?_⟩⟩⟩
  rw[a3g,tk,c6P];rfl
 ·rintro e M' ⟨z4,z5,z6,z7,z8,z9,rfl,rfl⟩
  rw[c0h,S7,G3,c6X]
  walk_at "sim"
  rw[a0z g6,P8 hp]
  exact J8 (M2:=M) (fun _ _ h=>h) k
theorem a0l(T:Txt K mg)(d:Df K mg "_law_paper_shown" E4 ["hall","ray","paper"])(c4i:Fn P w K mg base "_law_entry_shown" 9 ["hall","t","x","further","r","entry"] a9p)(c4A:Fn P w K mg base "_law_t" 7 ["hall"] b6x)(c3S:Fn P w K mg base "_law_numbers" 7 ["hall","ray"] a1d):Fn P w K mg base "_law_paper_shown" 10 ["hall","ray","paper"] a9j:=by
 have sc:=a0j
 refine h7 d sc (by walk_at "len") (fun f cdv A outer s H E ds M R Y hr h=>?_)
 have hu:=hr.units
 obtain⟨x0,y,u,d,rfl,near,bs,far,es,rfl,rfl,⟨⟨hw,cd⟩,hl,he,hsm⟩,k⟩:=h
 have hlen:=a5K near far bs y u
 have hN:=a33 hw cd (by decide)
 have hN2:∀ l∈A9 near bs far y u,sz l.1≤1231∧sz l.2.1≤1462:=fun l hl=>by
  obtain⟨l0,h0,rfl⟩:=c7k.mp hl
  exact(hw.line cd h0).2.2
 have hbl:=hw.len
 refine⟨_,(d4 (jst 3 sc.nd (jc c3S hr (a7 (a8 0) (a7 (a8 1) a9)))) (d4 (f6 (jtm a0u (i4 C3 rfl T.b_len y4 (a7 (a8 2) a9)) (i4 C3 rfl T.b_len y4 (a7 (a8 3) a9))) (d5 (d6 A1)) e9) (d4 (jst 4 sc.nd (jc c4A hr (a7 (a8 0) a9))) (d4 (v6 PassesOwn.never rfl (a2F rfl T.b_zip (a7 (a8 2) (a7 (a8 3) a9))) (h8 (n:=2) rfl (d7 (jn 5 sc.nd) (d7 (h8 (n:=3) rfl (d7 (jn 6 sc.nd) (d7 (jn 7 sc.nd) (d7 (jn 8 sc.nd) g9)))) g9))) (d5 (f6 (w6 (i0 (jc c4i hr (a7 (a8 0) (a7 (a8 4) (a7 (a8 6) (a7 (a8 7) (a7 (a8 8) (a7 (a8 5) a9))))))))) (d5 (d6 A1)) e9))) (d5 (d6 A1)))))),?_⟩
 walk_at "sim"
 rw[c6x,c6x]
 refine⟨⟨hw,cd⟩,fun hne=>?_,fun hel=>⟨hw,?_⟩⟩
 ·unfold a0N at k
  rw[decide_eq_false (fun z=>hne (by omega))]at k
  exact k
 have hel:es.length=(A9 near bs far y u).length:=by omega
 have hsm:=hsm hel
 unfold a0N at k
 rw[decide_eq_true hel,c8Z]at k
 generalize A9 near bs far y u=ls at *
 refine P1.by (fun i e M'=>M'=M∧(∃ z5 z6 z7 z8:Option D,e=[some (D.tup [d8 near,D.vl (c7i f9 bs),d8 far]),some (u5 y u),some (D.vl (c7i enD es)),some (D.vl (c7i p5 ls)),some (d8 (trQ (tbQ (e6 near bs far)))),z5,z6,z7,z8])∧∀ z∈(ls.zip es).take i,E9 (tbQ (e6 near bs far)) z.1 z.2=true) ⟨rfl,⟨_,_,_,_,rfl⟩,fun z hz=>by cases hz⟩ (fun _ _ _ _ _=>by simp only[j7,and_self]) ?_ ?_
 ·rintro i dd e M' hd ⟨rfl,⟨z5,z6,z7,z8,rfl⟩,hall⟩
  obtain⟨e',l,rfl,hei,hli⟩:∃(e':En) (l:Rat × Rat × Rat),dd = .tup [enD e',p5 l]∧es[i]? = some e'∧ls[i]? = some l:=by
   unfold T9 at hd
   rw[c7S,c6K,c6K]at hd
   cases h1:es[i]? with
   | none=>rw[h1]at hd;simp at hd
   | some a =>
    cases h2:ls[i]? with
    | none=>rw[h1,h2]at hd;simp at hd
    | some b=>rw[h1,h2]at hd;exact⟨a,b,(Option.some.inj hd).symm,rfl,rfl⟩
  have hz:(ls.zip es)[i]? = some (l,e'):=by rw[c8S];exact⟨hli,hei⟩
  have hzm:=c6J hz
  have hlm:=c6J hli
  walk_at "sim"
  refine⟨near,bs,far,e',rfl,rfl,⟨hw,rfl,hN l hlm,hN2 l hlm,he e' (c6J hei),hsm _ hzm⟩,?_⟩
  walk_at "sim"
  refine⟨fun hb=>?_,fun hb=>⟨⟨_,_,_,_,rfl⟩,fun z hz2=>?_⟩⟩
  ·rw[show(ls.zip es).all (fun z=>E9 (tbQ (e6 near bs far)) z.1 z.2)=false from List.all_eq_false.mpr ⟨(l,e'),hzm,by show ¬ E9 _ (l.1,l.2.1,l.2.2) e'=true;rw[hb];decide⟩]at k
   exact k
  ·rw[c7X,hz]at hz2
   rcases c6R.mp hz2 with hz2|hz2
   ·exact hall z hz2
   ·rw[c6N.mp hz2];exact hb
 ·rw[L9,c6x,c6x]
  rintro e M' ⟨rfl,⟨z5,z6,z7,z8,rfl⟩,hall⟩
  rw[c7y (by rw[c8L];omega)]at hall
  walk_at "sim"
  rw[List.all_eq_true.mpr hall]at k
  exact k
theorem a4J(T:Txt K mg)(d:Df K mg "_law_entry" R6 ["hall","t","x","further"])(c3Q:Fn P w K mg base "over" 3 ["one","other"] P9)(c3L:Fn P w K mg base "_law_turning" 8 ["hall","t"] a2v)(c3F:Fn P w K mg base "_law_reach" 5 ["t","x","further"] V9)(c3K:Fn P w K mg base "_law_same" 7 ["hall"] a1c):Fn P w K mg base "_law_entry" 9 ["hall","t","x","further"] a3A:=by
 have sc:=a4s
 refine h7 d sc (by walk_at "len") (fun f cdv A outer s H E ds M R Y hr h=>?_)
 have hu:=hr.units
 obtain⟨near,bs,far,t,x,f',rfl,⟨hw,rfl,zx,zf⟩,k⟩:=h
 have cL:=hw.cd (e6 near bs far).length
 rw[c6X]at cL
 have zt:sz (trQ (tbQ (e6 near bs far)))≤231:=CD.tr cL
 have rt6:rtN (tbQ (e6 near bs far))≤6:=by
  unfold rtN;repeat' split
  all_goals decide
 have c1:cl 57 (.str (Str.ofString "nought"))=true:=by decide +kernel
 have c2:cl 57 (.str (Str.ofString "round"))=true:=by decide +kernel
 have c3:cl 57 (.str (Str.ofString "reach"))=true:=by decide +kernel
 have c4:cl 57 (.str (Str.ofString "kept"))=true:=by decide +kernel
 have kr:¬ (x=0∧f'=0)→R (.tup [.str (Str.ofString "round"),.int (rtN (tbQ (e6 near bs far)):Int)]) M:=fun h=>k (.int "round" _) ⟨c2,by rw[c6w];omega⟩ fun a b=>absurd ⟨a,b⟩ h
 have kq:∀(q:Rat) (w:Str),cl 57 (.str w)=true→sz q≤8800→¬ (x=0∧f'=0)→R (.tup [.str w,d8 q]) M:=fun q w hw hq h=>k (.rat w q) ⟨hw,hq⟩ fun a b=>absurd ⟨a,b⟩ h
 have kc:(j3 (trQ (tbQ (e6 near bs far)))<2∧rtN (tbQ (e6 near bs far))=0)→¬ (x=0∧f'=0)→(sz (trQ (tbQ (e6 near bs far)))≤231∧sz x≤1231∧sz f'≤1462∧-2<trQ (tbQ (e6 near bs far))∧trQ (tbQ (e6 near bs far))<2)∧R (D.tup [D.str (Str.ofString "reach"),d8 (S5 (trQ (tbQ (e6 near bs far))) x f')]) M:=fun h h2=>by
  obtain⟨t1,t2⟩:=K2.mp h.1
  exact⟨⟨zt,zx,zf,t1,t2⟩,kq _ _ c3 (a9u zt zx zf t1 t2) h2⟩
 have kd:¬ (x=0∧f'=0)→(x=0→R (D.tup [D.str (Str.ofString "kept"),d8 1]) M)∧(¬ x=0→x≠0∧sz f'+sz x≤8900∧R (D.tup [D.str (Str.ofString "kept"),d8 (f' / x)]) M):=fun h2=>⟨fun _=>kq 1 _ c4 (by rw[RM.K6];decide) h2,fun h=>⟨h,by omega,kq _ _ c4 (by have:=RM.J1 f' x h;omega) h2⟩⟩
 refine⟨_,(d4 (jst 4 sc.nd (jc c3K hr (a7 (a8 0) a9))) (d4 (f6 (A8 (a1O (jtm (p9 hu) (a8 2) (d9 (a7 d3 (a7 d3 a9)))) (a0c (jtm (p9 hu) (a8 3) (d9 (a7 d3 (a7 d3 a9))))))) (d5 (d6 (d9 (a7 g8 a9)))) e9) (d4 (f6 (jtm a2j (a8 4) d3) (d5 (d6 (d9 (a7 g8 (a7 (a8 4) a9))))) e9) (d4 (f6 (i0 (jc c3L hr (a7 (a8 0) (a7 (a8 1) a9)))) (d5 (d6 (d9 (a7 g8 (a7 (jc c3F hr (a7 (a8 1) (a7 (a8 2) (a7 (a8 3) a9)))) a9))))) e9) (d4 (f6 (jtm (p9 hu) (a8 2) (d9 (a7 d3 (a7 d3 a9)))) (d5 (d6 (d9 (a7 g8 (a7 (d9 (a7 d3 (a7 d3 a9))) a9))))) e9) (d5 (d6 (d9 (a7 g8 (a7 (jc c3Q hr (a7 (a8 3) (a7 (a8 2) a9))) a9)))))))))),?_⟩
 walk_at "sim"
 refine⟨hw,fun h1=>⟨fun h2=>k (.one "nought") c1 fun _ _=>c1,fun h2=>⟨fun _=>kr fun z=>h2 z.2,fun _=>⟨hw,fun h3=>kc h3 fun z=>h2 z.2,fun h3=>kd fun z=>h2 z.2⟩⟩⟩,fun h1=>⟨fun _=>kr fun z=>h1 z.1,fun _=>⟨hw,fun h3=>kc h3 fun z=>h1 z.1,fun h3=>kd fun z=>h1 z.1⟩⟩⟩
theorem a0O(T:Txt K mg)(d:Df K mg "_law_whole_root" F2 ["number"]):Fn P w K mg base "_law_whole_root" 1 ["number"] a6f:=by
 have sc:=a0B
 refine h7 d sc (by walk_at "len") (fun f cdv A outer s H E ds M R Y hr h=>?_)
 have hu:=hr.units
 obtain⟨N,rfl,hn,k⟩:=h
 refine⟨_,(d4 (a6S (i:=1) (j:=2) rfl sc.nd rfl rfl (by decide) rfl rfl (a7 d3 (a7 (f7 D9 (a8 0) d3) a9))) (d4 (a1N PassesOwn.never (jtm a2j (f7 a18 (a8 2) (a8 1)) d3) (d4 (jst 3 sc.nd (f7 E6 (f7 D9 (a8 1) (a8 2)) d3)) (d5 (f6 (jtm c3d (f7 i8 (a8 3) (a8 3)) (a8 0)) (d5 (jst 1 sc.nd (a8 3))) (d5 (jst 2 sc.nd (a8 3))))))) (d5 (d6 (a8 1))))),?_⟩
 walk_at "sim"
 refine b7H (fun m e M'=>M=M'∧∃(lo hi:Nat) (z3:Option D),m=hi - lo∧e=[some (D.int (N:Int)),some (D.int (lo:Int)),some (D.int (hi:Int)),z3]∧lo*lo≤N∧N<hi*hi∧lo<hi∧hi≤N+1) (N+1) ⟨rfl,0,N+1,_,by omega,rfl,by omega,by rw[c9Q,Nat.mul_add];omega,by omega,by omega⟩ ?_
 rintro m e M' ⟨rfl,lo,hi,z3,rfl,rfl,h1,h2,h3,h4⟩
 walk_at "sim"
 have em:((lo:Int)+(hi:Int)).fdiv 2=(((lo+hi) / 2:Nat):Int):=by rw[N4 (by omega) (by decide)];omega
 refine⟨fun h0=>⟨b7C,?_⟩,fun h0=>?_⟩
 ·rw[em]
  have hm:(lo+hi) / 2≤N:=by omega
  have hmz:(((lo+hi) / 2:Nat):Int).natAbs<2 ^ 20000:=by rw[c6w];exact c6O hm hn
  have hlm:lo<(lo+hi) / 2:=by omega
  have hmh:(lo+hi) / 2<hi:=by omega
  generalize (lo+hi) / 2=md at *
  refine⟨p7 _ _ hmz hmz (by decide),fun h5=>⟨hi - md,by omega,md,hi,_,rfl,rfl,by exact_mod_cast h5,h2,hmh,h4⟩,fun h5=>⟨md - lo,by omega,lo,md,_,rfl,rfl,h1,?_,hlm,by omega⟩⟩
  have:¬ md*md≤N:=fun z=>h5 (by exact_mod_cast z)
  omega
 ·have:hi=lo+1:=by omega
  subst this
  exact k lo h1 h2
theorem b4a(T:Txt K mg)(d:Df K mg "reach" a6a ["hall","ray","p","q"])(c3C:Fn P w K mg base "ratio" 2 ["top","bottom"] K9)(c4h:Fn P w K mg base "reach_by" 4 ["t","x","later"] b0L)(c3W:Fn P w K mg base "number_of" 4 ["p","q","ray"] a6r)(c5q:Fn P w K mg base "led" 4 ["table","ray"] b6y)(c3H:Fn P w K mg base "t_of" 4 ["table"] a4u)(c3M:Fn P w K mg base "round_of" 7 ["hall"] a3w):Fn P w K mg base "reach" 8 ["hall","ray","p","q"] a2r:=by
 have sc:=b3w
 refine h7 d sc (by walk_at "len") (fun f cdv A outer s H E ds M R Y hr h=>?_)
 have hu:=hr.units
 obtain⟨x0,near,bs,far,y,u,p,q,rfl,hx0,⟨hok,cdr,⟨hp,hq⟩,zx,zf,t1,t2⟩,k⟩:=h
 have cd:=hok.cd (e6 near bs far).length
 rw[c6X]at cd
 have l:=M9 (e6 near bs far) y u
 have e1:(g7 (e6 near bs far) (1,0)).1=(tbQ (e6 near bs far)).1:=rfl
 have e2:(g7 (e6 near bs far) (0,1)).1=(tbQ (e6 near bs far)).2.1:=rfl
 have e3:(g7 (e6 near bs far) (1,0)).2=(tbQ (e6 near bs far)).2.2.1:=rfl
 have e4:(g7 (e6 near bs far) (0,1)).2=(tbQ (e6 near bs far)).2.2.2:=rfl
 rw[e1,e2,e3,e4]at l
 rw[l.1,l.2]at k zf
 have r1:=(W5 cd cdr).t2.y
 have r2:=(W5 cd cdr).t2.u
 rw[l.1]at r1
 rw[l.2]at r2
 have ty:=cdr.t2.y
 have tu:=cdr.t2.u
 rcases hx0 with rfl|rfl
 all_goals
  refine⟨_,(d4 (jst 4 sc.nd (jc c3M hr (a7 (a8 0) a9))) (d4 (p8 (jc c4h hr (a7 (jc c3H hr (a7 (a8 4) a9)) (a7 (jc c3W hr (a7 (a8 2) (a7 (a8 3) (a7 (a8 1) a9)))) (a7 (jc c3W hr (a7 (a8 2) (a7 (a8 3) (a7 (jc c5q hr (a7 (a8 4) (a7 (a8 1) a9))) a9)))) a9)))) (h8 (n:=2) rfl (d7 (jn 5 sc.nd) (d7 (jn 6 sc.nd) g9)))) (d5 (d6 (jc c3C hr (a7 (a8 5) (a7 (a8 6) a9))))))),?_⟩
  walk_at "sim"
  refine⟨hok,?_⟩
  generalize tbQ (e6 near bs far)=m at *
  obtain⟨a,b,c,d⟩:=m
  have t4:=CD.t4 cd
  have za:sz a≤230:=t4.a
  have zb:sz b≤230:=t4.b
  have zc:sz c≤230:=t4.c
  have zd:sz d≤230:=t4.d
  have zt:sz (trQ (a,b,c,d))≤231:=CD.tr cd
  refine⟨(a,b,c,d),rfl,cd,by omega,?_⟩
  rw[show K5 (a,b,c,d)=a1A a b c d from rfl]
  have r1:sz (a*y+b*u)≤230+1000+1:=r1
  have r2:sz (c*y+d*u)≤230+1000+1:=r2
  have zf:sz (p*(a*y+b*u)+q*(c*y+d*u))≤1462:=zf
  walk_at "sim"
  refine⟨by omega,by omega,by omega,⟨zt,t1,t2,by omega⟩,fun T B b0 bB bT eT=>?_⟩
  walk_at "sim"
  rw[eT]
  exact⟨by omega,c6A (E7 bB (by decide)) (by decide),k⟩
theorem a4z(T:Txt K mg)(d:Df K mg "floor_root" Q6 ["number"]):Fn P w K mg base "floor_root" 1 ["number"] a13:=by
 have sc:=a4j
 refine h7 d sc (fun ds M R Y h=>?_) (fun f cdv A outer s H E ds M R Y hr h=>?_)
 ·obtain⟨n,rfl,_⟩:=h;rfl
 ·obtain⟨n,rfl,hl,k⟩:=h
  refine⟨_,(d4 (f6 (jtm G8 (a8 0) d3) (d5 (d6 d3)) e9) (d4 (jst 1 sc.nd d3) (d4 (v6 PassesOwn.never rfl (Z8 rfl T.b_range (a7 (f7 E6 (f7 D9 (b7k (a8 0)) d3) d3) a9)) (jn 2 sc.nd) (d5 (jst 1 sc.nd (f7 i8 (a8 1) d3)))) (d4 (jst 3 sc.nd (f7 E6 (f7 D9 (a8 1) (f7 E6 (a8 0) (a8 1))) d3)) (d4 (a1N PassesOwn.never (jtm a0n (a8 3) (a8 1)) (d4 (jst 1 sc.nd (a8 3)) (d5 (jst 3 sc.nd (f7 E6 (f7 D9 (a8 1) (f7 E6 (a8 0) (a8 1))) d3))))) (d5 (d6 (a8 1)))))))),?_⟩
  refine⟨_,rfl,_,rfl,_,rfl,?_⟩
  refine b1R (fun h0=>?_) (fun h0=>?_)
  ·have hn:n=0:=by omega
   subst hn
   exact k 0 (by decide) (by decide)
  ·have hn:0<n:=by omega
   have hlt:=Z7 hl
   have hbe:Builtin.Int.intBits (n:Int)=n.log2+1:=by
    unfold Builtin.Int.intBits
    rw[if_neg (by first|omega|simp;omega)]
    simp
   have e2:(((Builtin.Int.intBits (n:Int):Nat):Int)+1).fdiv 2=(((n.log2+2) / 2:Nat):Int):=by
    rw[hbe,N4 (by omega) (by decide)];omega
   refine⟨_,rfl,_,rfl,_,rfl,_,_,rfl,rfl,b7C,_,rfl,by rw[e2];omega,by rw[e2];omega,?_⟩
   refine⟨fun i e M'=>M'=M∧∃ t:Option D,e=[some (.int n),some (.int ((2 ^ i:Nat):Int)),t,none],⟨rfl,none,rfl⟩,fun _ _ _ _ _=>trivial,?_,?_⟩
   ·rintro i dd e M' hd ⟨rfl,t,rfl⟩
    have e:(((2 ^ i:Nat):Int)*2)=((2 ^ (i+1):Nat):Int):=by rw[c8N];omega
    exact⟨_,rfl,_,_,rfl,rfl,c1N (by decide) (by decide),rfl,some dd,by rw[← e];rfl⟩
   ·rw[o6,e2,c7A]
    rintro e M' ⟨rfl,t,rfl⟩
    have hg0:0<2 ^ ((n.log2+2) / 2):=c7O _
    have hgn:n<2 ^ ((n.log2+2) / 2)*2 ^ ((n.log2+2) / 2):=by
     rw[← c8Y]
     refine c6A (Nat.lt_log2_self) (c6T (by decide) (by omega))
    have hgs:Sml (2 ^ ((n.log2+2) / 2)):=Sml.pow (by omega)
    generalize 2 ^ ((n.log2+2) / 2)=g at hg0 hgn hgs
    have cf:∀{g:Nat},0<g→Sml g→CFd (n:Int) (g:Int):=fun h1 h2=>⟨by omega,by rw[c6w];exact h2.log⟩
    have ev:∀ g:Nat,((g:Int)+(n:Int).fdiv (g:Int)).fdiv 2=(((g+n / g) / 2:Nat):Int):=fun g=>by
     rw[N4 (c75 _) (c75 _),N4 (by have:=c75 (g+n / g);exact_mod_cast this) (by decide)];norm_cast
    refine⟨_,rfl,_,rfl,_,rfl,_,_,rfl,rfl,cf hg0 hgs,_,rfl,_,_,rfl,rfl,b7C,?_⟩
    refine⟨fun m e M''=>M''=M'∧∃ t:Option D,e=[some (.int n),some (.int (m:Int)),t,some (.int (((m+n / m) / 2:Nat):Int))]∧0<m∧Sml m∧n<(m+1)*(m+1),⟨g,rfl,t,by rw[← ev];rfl,hg0,hgs,by
     have:g*g≤(g+1)*(g+1):=c74 (by omega) (by omega)
     omega⟩,?_⟩
    rintro m e M'' ⟨rfl,t,rfl,hm0,hms,hmn⟩
    refine⟨_,rfl,_,rfl,_,rfl,_,rfl,?_⟩
    refine b1R (fun h1=>?_) (fun h1=>?_)
    ·have hb:(m+n / m) / 2<m:=by exact_mod_cast h1
     have hb0:0<(m+n / m) / 2:=by
      rcases c8h 1 m with z|z
      ·generalize n / m=y
       omega
      ·have hm1:m=1:=by omega
       subst hm1
       rw[Nat.div_one]
       omega
     refine⟨_,rfl,_,rfl,_,rfl,_,rfl,_,_,rfl,rfl,cf hb0 (hms.mono (c8q hb)),_,rfl,_,_,rfl,rfl,b7C,?_⟩
     exact⟨_,hb,rfl,t,by rw[← ev ((m+n / m) / 2)];rfl,hb0,hms.mono (c8q hb),b95 hm0⟩
    ·refine⟨_,rfl,?_⟩
     exact k m (a9E hm0 (fun z=>h1 (by exact_mod_cast z))) hmn
theorem b7a(T:Txt K mg)(d:Df K mg "root" a9b ["one"])(c4u:Fn P w K mg base "floor_root" 1 ["number"] a13):Fn P w K mg base "root" 2 ["one"] a84:=by
 have sc:=b6t
 refine h7 d sc (fun ds M R Y h=>?_) (fun f cdv A outer s H E ds M R Y hr h=>?_)
 ·obtain⟨q,rfl,_⟩:=h;rfl
 ·obtain⟨q,rfl,hz,k⟩:=h
  have hu:=hr.units
  obtain⟨hl1,hl2⟩:=b9k hz
  refine⟨_,(d4 (f6 (jtm a0n (jx (a8 0) d3) d3) (d5 (d6 C7)) e9) (d4 (jst 1 sc.nd (jc c4u hr (a7 (jx (a8 0) d3) a9))) (d4 (jst 2 sc.nd (jc c4u hr (a7 (jx (a8 0) d3) a9))) (d4 (f6 (A8 (u8 (jtm a0u (f7 i8 (a8 1) (a8 1)) (jx (a8 0) d3)) (A4 (jtm a0u (f7 i8 (a8 2) (a8 2)) (jx (a8 0) d3))))) (d5 (d6 C7)) e9) (d5 (d6 (d9 (a7 (a8 1) (a7 (a8 2) a9))))))))),?_⟩
  refine⟨_,rfl,_,rfl,_,rfl,_,rfl,?_⟩
  refine b1R (fun h0=>?_) (fun h0=>?_)
  ·refine k .non (.inr ⟨fun r hr=>?_,rfl⟩)
   have:=(a3H hr).2.2
   omega
  ·have en:q.num=((q.num.natAbs:Nat):Int):=by omega
   refine⟨_,rfl,_,rfl,q.num.natAbs,by rw[← en];rfl,hl1,fun s h1 h2=>?_⟩
   refine⟨_,rfl,_,rfl,q.den,rfl,hl2,fun t h3 h4=>?_⟩
   have hs:s<2 ^ 4000:=c6O (c6D (c8J s) h1) (Z7 hl1)
   have ht:t<2 ^ 4000:=c6O (c6D (c8J t) h3) (Z7 hl2)
   have m1:IntMulOk (s:Int) (s:Int):=p7 4000 4000 (by rw[c6w];exact hs) (by rw[c6w];exact hs) (by decide)
   have m2:IntMulOk (t:Int) (t:Int):=p7 4000 4000 (by rw[c6w];exact ht) (by rw[c6w];exact ht) (by decide)
   have no:(¬ (s:Int)*(s:Int)=q.num ∨ ¬ (t:Int)*(t:Int)=(q.den:Int))→R .non M:=fun hno=>k .non (.inr ⟨fun r hr=>by
    obtain⟨⟨a,ha⟩,⟨b,hb⟩,hq⟩:=a3H hr
    have e1:=a5w h1 h2 ha
    have e2:=a5w h3 h4 hb
    subst e1;subst e2
    rcases hno with z|z
    ·apply z;rw[en,← ha];norm_cast
    ·apply z;rw[← hb];norm_cast,rfl⟩)
   refine⟨_,rfl,_,rfl,_,_,rfl,rfl,m1,_,rfl,_,rfl,_,rfl,_,rfl,?_⟩
   refine b4s (fun h5=>?_) (fun h5=>?_)
   ·exact no (.inl h5)
   ·refine⟨_,rfl,_,rfl,_,_,rfl,rfl,m2,_,rfl,_,rfl,_,rfl,_,rfl,?_⟩
    refine b4s (fun h6=>?_) (fun h6=>?_)
    ·exact no (.inr h6)
    ·refine⟨_,rfl,_,rfl,sl 2,?_⟩
     obtain⟨r,r0,r1,r2,r3⟩:=b1D (q:=q) h5 (by exact_mod_cast h6)
     refine k _ (.inl ⟨r,r0,r1,?_⟩)
     unfold d8;rw[r2,r3]
theorem a6F(T:Txt K mg)(d:Df K mg "shrinking" U7 ["t"])(c3Q:Fn P w K mg base "over" 3 ["one","other"] P9)(c3z:Fn P w K mg base "minus" 4 ["one","other"] E2)(c3V:Fn P w K mg base "less" 1 ["one","other"] a0A)(c3G:Fn P w K mg base "opposite" 1 ["one"] a5x)(c5T:Fn P w K mg base "root" 2 ["one"] a84)(c3y:Fn P w K mg base "times" 3 ["one","other"] D5):Fn P w K mg base "shrinking" 5 ["t"] b9q:=by
 have sc:=a5Z
 refine h7 d sc (by walk_at "len") (fun f cdv A outer s H E ds M R Y hr h=>?_)
 have hu:=hr.units
 obtain⟨t,rfl,ht,k⟩:=h
 have z1:=RM.u3 t t
 have z4:sz 4≤3:=by decide +kernel
 have z5:=RM.G9 (t*t) 4
 have z0:=RM.F0
 refine⟨_,(d4 (jst 1 sc.nd (jc c5T hr (a7 (jc c3z hr (a7 (jc c3y hr (a7 (a8 0) (a7 (a8 0) a9))) (a7 (j9 rfl T.c_FOUR) a9))) a9))) (d4 (f6 (jtm b1L (a8 1) C7) (d5 (d6 C7)) e9) (d4 (f6 (i0 (jc c3V hr (a7 (a8 0) (a7 (j9 rfl T.c_NOUGHT) a9)))) (d5 (jst 1 sc.nd (jc c3G hr (a7 (a8 1) a9)))) e9) (d5 (d6 (jc c3Q hr (a7 (jc c3z hr (a7 (a8 0) (a7 (a8 1) a9))) (a7 (j9 rfl T.c_TWO) a9)))))))),?_⟩
 walk_at "sim"
 refine⟨by omega,by omega,by omega,?_⟩
 rintro v (⟨r,r0,r1,rfl⟩|⟨r1,rfl⟩)
 ·have zr:sz r≤470:=c6D (b6o r1) (by omega)
  rw[a4d rfl]
  have z2:sz 2≤2:=by decide +kernel
  have z6:=RM.G9 t r
  have z7:=RM.G9 t (-r)
  have z8:=RM.I0 r
  walk_at "sim"
  refine⟨by omega,fun e=>⟨by omega,by decide,by omega,k _ (.inl ⟨r,r0,r1,?_⟩)⟩,fun e=>⟨by omega,by decide,by omega,k _ (.inl ⟨r,r0,r1,?_⟩)⟩⟩
  ·rw[if_pos e]
  ·rw[if_neg e]
 ·rw[a4d rfl]
  walk_at "sim"
  exact k _ (.inr ⟨r1,rfl⟩)
theorem a6G(T:Txt K mg)(d:Df K mg "ray_along" U8 ["table"])(c3z:Fn P w K mg base "minus" 4 ["one","other"] E2)(c3Q:Fn P w K mg base "over" 3 ["one","other"] P9)(c3H:Fn P w K mg base "t_of" 4 ["table"] a4u):Fn P w K mg base "ray_along" 5 ["table"] a9q:=by
 have sc:=a50
 refine h7 d sc (by walk_at "len") (fun f cdv A outer s H E ds M R Y hr h=>?_)
 have hu:=hr.units
 obtain⟨x,rfl,⟨a,b,c,d⟩,hx,cd,k⟩:=h
 have hx':x=a1A a b c d:=hx
 subst hx'
 have t4:=CD.t4 cd
 have h1:sz a≤230:=t4.a
 have ht:sz (trQ (a,b,c,d))≤231:=CD.tr cd
 have z2:sz 2≤2:=by decide +kernel
 have z3:=RM.J1 (trQ (a,b,c,d)) 2 (by decide)
 refine⟨_,(d4 (p8 (a8 0) (h8 (n:=4) rfl (d7 (jn 1 sc.nd) (d7 (jn 2 sc.nd) (d7 (jn 3 sc.nd) (d7 (jn 4 sc.nd) g9)))))) (d4 (f6 (jtm (p9 hu) (a8 2) (j9 rfl T.c_NOUGHT)) (d5 (d6 (j9 rfl T.c_AXIS_RAY))) e9) (d5 (d6 (d9 (a7 (a8 2) (a7 (jc c3z hr (a7 (jc c3Q hr (a7 (jc c3H hr (a7 (a8 0) a9)) (a7 (j9 rfl T.c_TWO) a9))) (a7 (a8 1) a9))) a9))))))),?_⟩
 walk_at "sim"
 unfold a9S at k
 refine⟨fun e=>?_,fun e=>⟨(a,b,c,d),rfl,cd,by decide,by omega,by omega,?_⟩⟩
 ·rw[if_pos e]at k;exact k
 ·rw[if_neg e]at k;exact k
theorem a9B(T:Txt K mg)(d:Df K mg "form_of" a1E ["table"])(c3G:Fn P w K mg base "opposite" 1 ["one"] a5x)(c3z:Fn P w K mg base "minus" 4 ["one","other"] E2):Fn P w K mg base "form_of" 5 ["table"] a6w:=by
 have sc:=a87
 refine h7 d sc (by walk_at "len") (fun f cdv A outer s H E ds M R Y hr h=>?_)
 have hu:=hr.units
 obtain⟨x,rfl,⟨a,b,c,d⟩,hx,cd,k⟩:=h
 have hx':x=a1A a b c d:=hx
 subst hx'
 have t4:=CD.t4 cd
 have h1:sz a≤230:=t4.a
 have h4:sz d≤230:=t4.d
 refine⟨_,(d4 (p8 (a8 0) (h8 (n:=4) rfl (d7 (jn 1 sc.nd) (d7 (jn 2 sc.nd) (d7 (jn 3 sc.nd) (d7 (jn 4 sc.nd) g9)))))) (d5 (d6 (d9 (a7 (a8 3) (a7 (jc c3z hr (a7 (a8 4) (a7 (a8 1) a9))) (a7 (jc c3G hr (a7 (a8 2) a9)) a9))))))),?_⟩
 walk_at "sim"
 exact⟨by omega,k⟩
theorem b7e(T:Txt K mg)(d:Df K mg "kind" a9d ["hall"])(c4I:Fn P w K mg base "shrinking" 5 ["t"] b9q)(c3H:Fn P w K mg base "t_of" 4 ["table"] a4u)(c4J:Fn P w K mg base "ray_along" 5 ["table"] a9q)(c4W:Fn P w K mg base "form_of" 5 ["table"] a6w)(c3D:Fn P w K mg base "rounds_to_self" 5 ["table"] b3B)(c4a:Fn P w K mg base "kind_word" 6 ["table"] sKw)(c3M:Fn P w K mg base "round_of" 7 ["hall"] a3w):Fn P w K mg base "kind" 8 ["hall"] a3D:=by
 have sc:=b6v
 refine h7 d sc (by walk_at "len") (fun f cdv A outer s H E ds M R Y hr h=>?_)
 have hu:=hr.units
 obtain⟨x0,near,bs,far,rfl,hx0,hok,k⟩:=h
 have cd:=hok.cd (e6 near bs far).length
 rw[c6X]at cd
 rcases hx0 with rfl|rfl
 all_goals
  refine⟨_,(d4 (jst 1 sc.nd (jc c3M hr (a7 (a8 0) a9))) (d4 (jst 2 sc.nd (jc c4a hr (a7 (a8 1) a9))) (d4 (f6 (jtm C2 (a8 2) g8) (d5 (d6 (d9 (a7 (a8 2) (a7 (jc c3D hr (a7 (a8 1) a9)) a9))))) e9) (d4 (f6 (jtm C2 (a8 2) g8) (d5 (d6 (d9 (a7 (a8 2) (a7 (jc c4W hr (a7 (a8 1) a9)) a9))))) e9) (d4 (f6 (jtm C2 (a8 2) g8) (d5 (d6 (d9 (a7 (a8 2) (a7 (jc c4J hr (a7 (a8 1) a9)) a9))))) e9) (d5 (d6 (d9 (a7 (a8 2) (a7 (jc c4I hr (a7 (jc c3H hr (a7 (a8 1) a9)) a9)) a9)))))))))),?_⟩
  walk_at "sim"
  refine⟨hok.w,?_⟩
  generalize tbQ (e6 near bs far)=m at *
  refine⟨m,rfl,cd,fun e=>⟨m,rfl,cd,k _ (.inl ⟨e,rfl⟩)⟩,fun e=>⟨fun e2=>⟨m,rfl,cd,k _ (.inr (.inl ⟨e2,rfl⟩))⟩,fun e2=>⟨fun e3=>⟨m,rfl,cd,k _ (.inr (.inr (.inl ⟨e3,rfl⟩)))⟩,fun e3=>⟨m,rfl,cd,CD.tr cd,fun v hv=>k _ (.inr (.inr (.inr ⟨?_,hv⟩)))⟩⟩⟩⟩
  unfold kwS at e e2 e3 ⊢
  by_cases h1:B2 m
  ·rw[if_pos h1]at e;exact absurd rfl e
  ·rw[if_neg h1]at e2 e3 ⊢
   by_cases h2:j3 (trQ m)=2
   ·rw[if_pos h2]at e3;exact absurd rfl e3
   ·rw[if_neg h2]at e2 ⊢
    by_cases h3:j3 (trQ m)<2
    ·rw[if_pos h3]at e2;exact absurd rfl e2
    ·rw[if_neg h3]
theorem a4B(T:Txt K mg)(d:Df K mg "_law_tight" Q8 ["pool","hall","ray"])(c3C:Fn P w K mg base "ratio" 2 ["top","bottom"] K9)(c3x:Fn P w K mg base "_law_next" 1 ["pool","base"] J2)(c4n:Fn P w K mg base "_law_whole_root" 1 ["number"] a6f)(c4c:Fn P w K mg base "hall_lines" 7 ["hall"] W2)(c3U:Fn P w K mg base "less" 1 ["one","other"] a3B)(c5a:Fn P w K mg base "reach" 8 ["hall","ray","p","q"] a2r)(c4X:Fn P w K mg base "kind" 8 ["hall"] a3D):Fn P w K mg base "_law_tight" 9 ["pool","hall","ray"] a9e:=by
 have sc:=a4l
 refine h7 d sc (by walk_at "len") (fun f cdv A outer s H E ds M R Y hr h=>?_)
 have hu:=hr.units
 obtain⟨p,near,bs,far,y,u,rfl,hp,⟨hok,hbl,cd⟩,k⟩:=h
 have hw:=hok.w
 have cL:=hw.cd (e6 near bs far).length
 rw[c6X]at cL
 have zt:sz (trQ (tbQ (e6 near bs far)))≤231:=CD.tr cL
 refine⟨_,(d4 (y8 (i:=3) [] ["k","part"] [] sc.nd rfl (Or.inl rfl) rfl (by decide +kernel) rfl (by decide +kernel) (by decide +kernel) rfl a0s a0s (a31 rfl T.b_enumerate (a7 (jx (a8 1) d3) a9)) (fun _ _ _ _ _ _=>(h8 (n:=2) rfl (d7 (jn 0 (show(["k","part"]:List Str).Nodup by decide +kernel)) (d7 (jn 1 (show(["k","part"]:List Str).Nodup by decide +kernel)) g9)))) (fun _ _ _ _ _ _=>(a5G (jtm C2 (jx (a8 1) d3) g8))) (fun _ _ _ _ _ _=>(a8 0))) (d4 (f6 (A8 (u8 (jtm a5C (jx (jc c4X hr (a7 (a8 1) a9)) d3) g8) (u8 (jtm (p9 hu) (a8 3) (i3 a9)) (A4 (jtm G8 (jc c3x hr (a7 (a8 0) (a7 d3 a9))) d3))))) (d5 (d6 (a8 1))) e9) (d4 (jst 4 sc.nd (jx (a8 3) (jc c3x hr (a7 (a8 0) (a7 (i4 C3 rfl T.b_len y4 (a7 (a8 3) a9)) a9))))) (d4 (jst 5 sc.nd (d9 (a7 d3 (a7 d3 a9)))) (d4 (v6 PassesOwn.never rfl (y7 (L6 (jc c4c hr (a7 (a8 1) a9)))) (h8 (n:=3) rfl (d7 (jn 6 sc.nd) (d7 (jn 7 sc.nd) (d7 (h8 (n:=3) rfl (d7 (jn 8 sc.nd) (d7 (jn 9 sc.nd) (d7 (jn 10 sc.nd) g9)))) g9)))) (d5 (f6 (A8 (a1O (jtm (p9 hu) (a8 7) (a8 4)) (a0c (i0 (jc c3U hr (a7 (a8 5) (a7 (jc c5a hr (a7 (a8 1) (a7 (a8 2) (a7 (a8 8) (a7 (a8 9) a9))))) a9))))))) (d5 (jst 5 sc.nd (jc c5a hr (a7 (a8 1) (a7 (a8 2) (a7 (a8 8) (a7 (a8 9) a9))))))) e9))) (d4 (jst 11 sc.nd (jx (i3 (a7 d3 (a7 d3 (a7 (f7 W6 d3 d3) (a7 (f7 W6 d3 d3) a9))))) (jc c3x hr (a7 (a8 0) (a7 d3 a9))))) (d4 (jst 12 sc.nd (jc c4n hr (a7 (f7 E6 (f7 i8 (f7 i8 (jx (a8 5) d3) (a8 11)) (a8 11)) (jx (a8 5) d3)) a9))) (d4 (jst 13 sc.nd (i3 (a7 (d9 (a7 g8 (a7 (jc c3C hr (a7 (i4 (b8W rfl) rfl T.b_max b5f (a7 d3 (a7 (f7 D9 (a8 12) (jc c3x hr (a7 (a8 0) (a7 d3 a9)))) a9))) (a7 (a8 11) a9))) a9))) a9))) (d5 (d6 (d9 (a7 (jx (a8 1) d3) (a7 (G6 (G6 (a0b (jx (a8 1) d3) a0a (Z9 (a8 4))) (a8 13)) (a0b (jx (a8 1) d3) (Z9 (f7 D9 (a8 4) d3)) a0a)) (a7 (jx (a8 1) d3) a9)))))))))))))),?_⟩
 walk_at "sim"
 rw[a1P]
 refine a1u (xs:=bs.zipIdx) (fun x=>x.1.1 == Str.ofString "stop") (fun x=>D.int (x.2:Int)) (by rw[c7s];omega) (by simp only[j7]) (fun x hx Q N h1 h2=>?_) ?_
 ·walk_at "sim"
  exact⟨fun e=>h1 (by rw[e];exact beq_self_eq_true _),fun e=>h2 (beq_eq_false_iff_ne.mpr e)⟩
 rw[show c80 (fun x:(Str × Rat) × Nat=>x.1.1 == Str.ofString "stop") bs.zipIdx=frW bs from rfl]
 have fl:=b1a bs
 refine⟨hok,fun v hv=>⟨fun _=>k bs M hw (p6.refl hp),fun hturn=>⟨a62 fun x hx=>by obtain⟨z,_,rfl⟩:=c7k.mp hx;rfl,fun _=>k bs M hw (p6.refl hp),fun hne=>⟨hp,by decide,fun r M1 r0 r1 s1=>⟨fun _=>k bs M1 hw s1,fun _=>?_⟩⟩⟩⟩⟩
 obtain⟨t1,t2⟩:-2<trQ (tbQ (e6 near bs far))∧trQ (tbQ (e6 near bs far))<2:=by
  rcases a3Z (tbQ (e6 near bs far))with⟨_,e⟩|⟨_,_,e⟩|⟨_,_,c3,e⟩|⟨_,c2,c3,e⟩
  ·rw[e]at hturn;exact absurd hturn (by decide)
  ·rw[e]at hturn;exact absurd hturn (by decide)
  ·exact K2.mp c3
  ·rw[e]at hturn;exact absurd hturn (by decide)
 have hpos:0<(frW bs).length:=by
  cases e:frW bs with
  | nil=>rw[e]at hne;exact absurd rfl hne
  | cons a b=>exact c9K _
 have e1:((frW bs).map fun x=>D.int (x.2:Int)).length=(frW bs).length:=c6x ..
 walk_at "sim"
 refine⟨s1.pool,by omega,lg9 (by omega),fun r' M2 r0' r1' s2=>E3 r0' r1' fun dd hdd=>?_⟩
 obtain⟨⟨⟨w,q0⟩,at'⟩,hx,rfl⟩:=c7k.mp hdd
 obtain⟨hx1,hx2⟩:=c8B.mp hx
 have hat:bs[at']? = some (w,q0):=c8z.mp hx1
 have hws:w=Str.ofString "stop" := by simpa using hx2
 subst hws
 have hal:=(c6F.mp hat).1
 refine⟨hw,fun p1 hp1=>?_⟩
 rw[a0z g6,P8 hp1]
 have z0:sz (0:Rat)≤1:=by rw[RM.F0];decide
 walk_at "sim"
 have st:=s1.trans s2
 refine P1.by (fun i e M'=>M2=M'∧∃(g:Rat) (z6 z7 z8 z9 z10:Option D),e=[some (D.ref p),some (D.tup [d8 near,D.vl (c7i f9 bs),d8 far]),some (u5 y u),some (D.vl ((frW bs).map fun x=>D.int (x.2:Int))),some (D.int (at':Int)),some (d8 g),z6,z7,z8,z9,z10,none,none,none]∧0≤g∧sz g≤8800∧g.num.natAbs<2 ^ 3500) ⟨rfl,0,_,_,_,_,_,rfl,by decide,by omega,c7O _⟩ (fun i e M' _ _=>by simp only[j7]) ?_ ?_
 ·rintro i dd e M' hd ⟨rfl,g,z6,z7,z8,z9,z10,rfl,g0,gz,gn⟩
  obtain⟨w0,l,rfl,hli,hw0⟩:=b4t hd
  rw[S7,G3]at hli
  have hlm:=c6J hli
  obtain⟨⟨q1,q2⟩,⟨q3,q4⟩,zx,zf⟩:=hw.line cd hlm
  have rn:=b4h hw cd hlm t1 t2
  have rs:=a9u zt zx zf t1 t2
  obtain⟨zz,hzz,_,e2⟩:=b3s hw0
  have c1:cl 60 w0.2=true:=by rw[← e2];exact(b4w hzz 59).2
  unfold hlD p5
  walk_at "sim"
  generalize S5 (trQ (tbQ (e6 near bs far))) (l.1*y+l.2.1*u) (l.1*(g7 (e6 near bs far) (y,u)).1+l.2.1*(g7 (e6 near bs far) (y,u)).2)=rc at *
  refine⟨c1,fun _=>⟨⟨hw,cd,⟨q1,q2⟩,zx,zf,t1,t2⟩,g,rc.num,(rc.den:Int),rfl,⟨by have:=rc.den_pos;omega,by omega,by rw[c6w];exact t9 _ (by omega),q9 _ (by omega)⟩,?_⟩,fun _=>⟨g,_,_,_,_,_,rfl,g0,gz,gn⟩⟩
  rw[c76]
  walk_at "sim"
  exact⟨fun hlt=>⟨⟨hw,cd,⟨q1,q2⟩,zx,zf,t1,t2⟩,rc,_,_,_,_,_,rfl,by grind,rs,rn⟩,fun _=>⟨g,_,_,_,_,_,rfl,g0,gz,gn⟩⟩
 ·rintro e M' ⟨rfl,g,z6,z7,z8,z9,z10,rfl,g0,gz,gn⟩
  walk_at "sim"
  refine⟨cp6,c2t,s2.pool,by decide,fun r3 M3 a0 a1 s3=>E3 a0 (by show r3<4;exact a1) fun dd hdd=>?_⟩
  obtain⟨sc',rfl,sc0,sc1⟩:∃ sc':Nat,dd = .int (sc':Int)∧0<sc'∧sc'<2 ^ 30:=by
   simp only[c6M,c6Q,or_false]at hdd
   rcases hdd with rfl|rfl|rfl|rfl
   ·exact⟨10,rfl,by decide,by decide⟩
   ·exact⟨1000,rfl,by decide,by decide⟩
   ·exact⟨1000000,by rfl,by decide,by decide⟩
   ·exact⟨1000000000,by rfl,by decide,by decide⟩
  obtain⟨G,hG⟩:∃ G:Nat,g.num=(G:Int):=⟨g.num.toNat,by have:=Rat.num_nonneg.mpr g0;omega⟩
  rw[hG]at gn ⊢
  rw[c6w]at gn
  have gd:=t9 g gz
  have gdp:=g.den_pos
  have eN:((G:Int)*(sc':Int)*(sc':Int)).fdiv (g.den:Int)=((G*sc'*sc' / g.den:Nat):Int):=by
   rw[N4 (by exact_mod_cast c7m _) (by omega)];norm_cast
  have b1:G*sc'<2 ^ (3500+30):=o9 gn sc1
  have b2:G*sc'*sc'<2 ^ (3500+30+30):=o9 b1 sc1
  have bN:G*sc'*sc' / g.den<2 ^ 3560:=c6O (c8H _ _) b2
  walk_at "sim"
  rw[eN]
  generalize G*sc'*sc' / g.den=N at *
  walk_at "sim"
  have hs:1000≤sizeLine:=by decide
  have scn:(sc':Int).natAbs<2 ^ 30:=by rw[c6w];exact sc1
  refine⟨p7 3500 30 (by rw[c6w];exact gn) scn (by decide),p7 3530 30 (by rw[← c7t,c6w];exact b1) scn (by decide),⟨by omega,by rw[c6w];exact c6A (E7 gd (by decide)) (by decide)⟩,c6A bN (c6T (by decide) (by decide)),fun a a1 a2=>⟨s3.pool,by decide,fun r4 M4 c0 c1 s4=>⟨by omega,c6A (E7 scn (by decide)) (by decide),?_⟩⟩⟩
  have ab:a<2 ^ 1780:=by
   apply c7E
   intro hn
   have hn:2 ^ 1780≤a:=Nat.le_of_not_lt hn
   have:=c74 hn hn
   rw[← c8Y]at this
   exact absurd (c6O (c6D this a1) bN) (c7R _)
  have tz:(max 1 ((a:Int)+r4)).natAbs<2 ^ 1781:=by
   have p1:2 ^ 1≤2 ^ 1780:=c6T (by decide) (by decide)
   rw[show 2 ^ 1781=2 ^ 1780*2 from c8N 2 1780]
   generalize 2 ^ 1780=W at *
   omega
  have qz:sz (c7g (max 1 ((a:Int)+r4)) (sc':Int))≤3000:=c6D (a1I (k:=1781) (by decide) tz (by omega) (c6A scn (c6T (by decide) (by decide)))) (by decide)
  have q0':0<c7g (max 1 ((a:Int)+r4)) (sc':Int):=a9v (by omega) (by omega)
  have hset:=hok.set hat q0' qz
  generalize c7g (max 1 ((a:Int)+r4)) (sc':Int)=qn at *
  have cs:=b4X hal (Str.ofString "stop",qn)
  have cs:DL.U0 (c7i f9 bs) none (some (at':Int))++[D.tup [D.str (Str.ofString "stop"),d8 qn]]++DL.U0 (c7i f9 bs) (some ((at':Int)+1)) none=(bs.set at' (Str.ofString "stop",qn)).map f9:=cs
  have ln:=congrArg c9k cs
  rw[c6H,c6x,c8G]at ln
  have l0:(DL.U0 (c7i f9 bs) none (some (at':Int))).length≤bs.length:=by rw[a9P,c7p,c6x];omega
  refine⟨c6D (by omega) hs,c6D (by omega) hs,?_⟩
  rw[cs]
  exact k _ _ hset ((st.trans s3).trans s4)
theorem a3S(T:Txt K mg)(d:Df K mg "_law_scaled" O6 ["ray","factor"])(c3y:Fn P w K mg base "times" 3 ["one","other"] D5):Fn P w K mg base "_law_scaled" 4 ["ray","factor"] a6m:=by
 have sc:=a3s
 refine h7 d sc (by walk_at "len") (fun f cdv A outer s H E ds M R Y hr h=>?_)
 have hu:=hr.units
 obtain⟨y,u,g,rfl,⟨h1,h2⟩,k⟩:=h
 refine⟨_,(d5 (d6 (d9 (a7 (jc c3y hr (a7 (jx (a8 0) d3) (a7 (a8 1) a9))) (a7 (jc c3y hr (a7 (jx (a8 0) d3) (a7 (a8 1) a9))) a9))))),?_⟩
 walk_at "sim"
 exact⟨h1,h2,k⟩
theorem a4K(T:Txt K mg)(d:Df K mg "_law_along" R7 ["hall","other"])(c3z:Fn P w K mg base "minus" 4 ["one","other"] E2)(c3Q:Fn P w K mg base "over" 3 ["one","other"] P9)(c4X:Fn P w K mg base "kind" 8 ["hall"] a3D)(c3M:Fn P w K mg base "round_of" 7 ["hall"] a3w):Fn P w K mg base "_law_along" 9 ["hall","other"] a6y:=by
 have sc:=a4t
 refine h7 d sc (by walk_at "len") (fun f cdv A outer s H E ds M R Y hr h=>?_)
 have hu:=hr.units
 obtain⟨near,bs,far,b,rfl,hok,k⟩:=h
 have cL:=hok.cd (e6 near bs far).length
 rw[c6X]at cL
 have zt:sz (trQ (tbQ (e6 near bs far)))≤231:=CD.tr cL
 refine⟨_,(d4 (p8 (jc c3M hr (a7 (a8 0) a9)) (h8 (n:=4) rfl (d7 (jn 2 sc.nd) (d7 (jn 3 sc.nd) (d7 (jn 4 sc.nd) (d7 (jn 5 sc.nd) g9)))))) (d4 (jst 6 sc.nd (jc c4X hr (a7 (a8 0) a9))) (d4 (jst 7 sc.nd (d9 (a7 d3 (a7 d3 a9)))) (C6 (f6 (jtm a0n (f7 D9 (f7 i8 (jx (a8 2) d3) (jx (a8 5) d3)) (f7 i8 (jx (a8 5) d3) (jx (a8 2) d3))) d3) (d5 (jst 7 sc.nd (d9 (a7 (A5 d3) (a7 d3 a9))))) e9) (C6 (f6 (A8 (a1O (jtm C2 (jx (a8 6) d3) g8) (a0c (jtm b0Z (jx (a8 6) d3) C7)))) (d4 (jst 7 sc.nd (jx (a8 6) d3)) (d5 (f6 (i0 (a8 1)) (d5 (jst 7 sc.nd (jc c3Q hr (a7 (d9 (a7 d3 (a7 d3 a9))) (a7 (a8 7) a9))))) e9))) e9) (d4 (jst 8 sc.nd (d9 (a7 (a8 3) (a7 (jc c3z hr (a7 (a8 7) (a7 (a8 2) a9))) a9)))) (C6 (f6 (jtm (p9 hu) (a8 8) (d9 (a7 (d9 (a7 d3 (a7 d3 a9))) (a7 (d9 (a7 d3 (a7 d3 a9))) a9)))) (d5 (jst 8 sc.nd (d9 (a7 (jc c3z hr (a7 (a8 5) (a7 (a8 7) a9))) (a7 (jc c3z hr (a7 (d9 (a7 d3 (a7 d3 a9))) (a7 (a8 4) a9))) a9))))) e9) (d5 (d6 (a8 8)))))))))),?_⟩
 walk_at "sim"
 refine⟨hok.w,?_⟩
 generalize hm:tbQ (e6 near bs far)=m at *
 obtain⟨a,b',c,d'⟩:=m
 have t4:=CD.t4 cL
 have za:sz a≤230:=t4.a
 have zb:sz b'≤230:=t4.b
 have zc:sz c≤230:=t4.c
 have zd:sz d'≤230:=t4.d
 rw[show K5 (a,b',c,d')=a1A a b' c d' from rfl]
 walk_at "sim"
 rw[hm]
 refine⟨hok,fun v hv=>?_⟩
 refine P0 (fun e' M'=>M=M'∧∃ q:Rat,e'=[some (D.tup [d8 near,D.vl (c7i f9 bs),d8 far]),some (D.bl b),some (d8 a),some (d8 b'),some (d8 c),some (d8 d'),some (D.tup [D.str (kwS (a,b',c,d')),v]),some (d8 q),none]∧sz q≤232) ?_ ?_
 ·walk_at "sim"
  exact⟨mND (q:=a) (r:=d') (by omega),mND (q:=d') (r:=a) (by omega),fun _=>⟨-1,rfl,by rw[RM.I0,RM.K6];decide⟩,fun _=>⟨1,rfl,by rw[RM.K6];decide⟩⟩
 ·rintro e' M' ⟨rfl,q,rfl,hq⟩
  refine P0 (fun e' M'=>M=M'∧∃ q:Rat,e'=[some (D.tup [d8 near,D.vl (c7i f9 bs),d8 far]),some (D.bl b),some (d8 a),some (d8 b'),some (d8 c),some (d8 d'),some (D.tup [D.str (kwS (a,b',c,d')),v]),some (d8 q),none]∧sz q≤232) ?_ ?_
  ·walk_at "sim"
   refine⟨fun hoff=>?_,fun _=>⟨q,rfl,hq⟩⟩
   obtain⟨c1,c2⟩:¬ j3 (trQ (a,b',c,d'))<2∧¬ j3 (trQ (a,b',c,d'))=2:=by
    rcases a3Z (a,b',c,d')with⟨_,e⟩|⟨_,_,e⟩|⟨_,_,_,e⟩|⟨_,c2,c3,e⟩
    ·rw[e]at hoff;exact absurd hoff (by decide)
    ·rw[e]at hoff;exact absurd hoff (by decide)
    ·rw[e]at hoff;exact absurd hoff (by decide)
    ·exact⟨c3,c2⟩
   have hsh:b1m (trQ (a,b',c,d')) v:=by
    rcases hv with⟨e,_⟩|⟨e,_⟩|⟨e,_⟩|⟨_,h⟩
    ·rw[e]at hoff;exact absurd hoff (by decide)
    ·rw[e]at hoff;exact absurd hoff (by decide)
    ·rw[e]at hoff;exact absurd hoff (by decide)
    ·exact h
   have hv2:(∃ x:Rat,v=d8 x)∨v = .non:=by
    rcases hsh with⟨r,_,_,e⟩|⟨_,e⟩
    ·exact .inl ⟨_,e⟩
    ·exact .inr e
   rcases hv2 with⟨x,rfl⟩|rfl
   ·obtain⟨x0,xz⟩:=b9m c1 c2 hsh
    have xi:=RM.J1 1 x x0
    have s1:sz (1:Rat)=1:=RM.K6
    rw[a4d rfl]
    walk_at "sim"
    exact⟨fun _=>⟨x0,by omega,_,rfl,by omega⟩,fun _=>⟨_,rfl,by omega⟩⟩
   ·rw[a4d rfl]
    walk_at "sim"
    exact⟨q,rfl,hq⟩
  ·rintro e' M' ⟨rfl,q,rfl,hq⟩
   walk_at "sim"
   have z1:=RM.G9 q a
   have z2:=RM.G9 d' q
   have z3:=RM.G9 0 c
   have s0:sz (0:Rat)≤1:=by rw[RM.F0];decide
   refine⟨by omega,?_⟩
   refine P0 (fun e' M'=>M=M'∧∃(y u:Rat) (z0 z1 z2 z3 z4 z5 z6 z7:Option D),e'=[z0,z1,z2,z3,z4,z5,z6,z7,some (u5 y u)]∧(sz y≤463∧sz u≤463∧sz y+sz u≤700)) ?_ ?_
   ·walk_at "sim"
    exact⟨fun _=>⟨by omega,by omega,d' - q,0 - c,_,_,_,_,_,_,_,_,rfl,by omega,by omega,by omega⟩,fun _=>⟨b',q - a,_,_,_,_,_,_,_,_,rfl,by omega,by omega,by omega⟩⟩
   ·rintro e' M' ⟨rfl,y,u,z0,z1,z2,z3,z4,z5,z6,z7,rfl,hz⟩
    walk_at "sim"
    exact k y u hz
theorem a1M(T:Txt K mg)(d:Df K mg "_law_ratio" J9 ["pool","tops","bottoms"])(c3C:Fn P w K mg base "ratio" 2 ["top","bottom"] K9)(c3x:Fn P w K mg base "_law_next" 1 ["pool","base"] J2):Fn P w K mg base "_law_ratio" 3 ["pool","tops","bottoms"] a9h:=by
 have sc:=a0t
 refine h7 d sc (by walk_at "len") (fun f cdv A outer s H E ds M R Y hr h=>?_)
 have hu:=hr.units
 obtain⟨p,x,y,rfl,hp,ts,bs,P,rfl,rfl,⟨⟨t0,t1⟩,⟨b0,b1⟩,hb,hP⟩,k⟩:=h
 refine⟨_,(d5 (d6 (jc c3C hr (a7 (jx (a8 1) (jc c3x hr (a7 (a8 0) (a7 (i4 C3 rfl T.b_len y4 (a7 (a8 1) a9)) a9)))) (a7 (jx (a8 2) (jc c3x hr (a7 (a8 0) (a7 (i4 C3 rfl T.b_len y4 (a7 (a8 2) a9)) a9)))) a9))))),?_⟩
 walk_at "sim"
 have e1:(ts.map D.int).length=ts.length:=c6x ..
 have e2:(bs.map D.int).length=bs.length:=c6x ..
 refine⟨hp,by omega,lg9 (by omega),fun r M1 r0 r1 s1=>E3 r0 r1 fun d hd=>⟨s1.pool,by omega,lg9 (by omega),fun r' M2 r0' r1' s2=>E3 r0' r1' fun d' hd'=>?_⟩⟩
 obtain⟨t,ht,rfl⟩:=c7k.mp hd
 obtain⟨b,hb',rfl⟩:=c7k.mp hd'
 have hb2:=hb b hb'
 exact⟨_,_,rfl,by omega,c6A (E7 hb2.2 (by decide)) (by decide),k _ _ (hP t ht b hb') (s1.trans s2)⟩
theorem a4F(T:Txt K mg)(d:Df K mg "_law_ratio" J9 ["pool","tops","bottoms"])(c3C:Fn P w K mg base "ratio" 2 ["top","bottom"] K9)(c3x:Fn P w K mg base "_law_next" 1 ["pool","base"] J2):Fn P w K mg base "_law_ratio" 3 ["pool","tops","bottoms"] a5y:=by
 have sc:=a0t
 refine h7 d sc (by walk_at "len") (fun f cdv A outer s H E ds M R Y hr h=>?_)
 have hu:=hr.units
 obtain⟨p,x,y,rfl,hp,ts,bs,P,rfl,rfl,⟨⟨t0,t1⟩,⟨b0,b1⟩,hb,hP⟩,k⟩:=h
 refine⟨_,(d5 (d6 (jc c3C hr (a7 (jx (a8 1) (jc c3x hr (a7 (a8 0) (a7 (i4 C3 rfl T.b_len y4 (a7 (a8 1) a9)) a9)))) (a7 (jx (a8 2) (jc c3x hr (a7 (a8 0) (a7 (i4 C3 rfl T.b_len y4 (a7 (a8 2) a9)) a9)))) a9))))),?_⟩
 walk_at "sim"
 have e1:(ts.map D.int).length=ts.length:=c6x ..
 have e2:(bs.map D.int).length=bs.length:=c6x ..
 refine⟨hp,by omega,lg9 (by omega),fun r M1 r0 r1 s1=>E3 r0 r1 fun d hd=>⟨s1.pool,by omega,lg9 (by omega),fun r' M2 r0' r1' s2=>E3 r0' r1' fun d' hd'=>?_⟩⟩
 obtain⟨t,ht,rfl⟩:=c7k.mp hd
 obtain⟨b,hb',rfl⟩:=c7k.mp hd'
 have hb2:=hb b hb'
 exact⟨_,_,rfl,by omega,c6A (E7 (k:=10) (by omega) (by decide)) (by decide),k _ _ (hP t ht b hb') (s1.trans s2)⟩
theorem a8j(T:Txt K mg)(d:Df K mg "_law_ray" a0K ["pool","hall"])(c4g:Fn P w K mg base "_law_scaled" 4 ["ray","factor"] a6m)(c3B:Fn P w K mg base "plus" 3 ["one","other"] F1)(c3x:Fn P w K mg base "_law_next" 1 ["pool","base"] J2)(c4v:Fn P w K mg base "_law_along" 9 ["hall","other"] a6y)(c4t:Fn P w K mg base "_law_ratio" 3 ["pool","tops","bottoms"] a9h)(c3A:Fn P w K mg base "_law_ratio" 3 ["pool","tops","bottoms"] a5y):Fn P w K mg base "_law_ray" 10 ["pool","hall"] b3C:=by
 have sc:=a7Z
 refine h7 d sc (by walk_at "len") (fun f cdv A outer s H E ds M R Y hr h=>?_)
 have hu:=hr.units
 obtain⟨p,near,bs,far,rfl,hp,hok,k⟩:=h
 have e18:(10:Int) ^ c9y 18=1000000000000000000:=by decide
 have e20:(10:Int) ^ c9y 20=100000000000000000000:=by decide
 have e25:(10:Int) ^ c9y 25=10000000000000000000000000:=by decide
 have e40:(10:Int) ^ c9y 40=10000000000000000000000000000000000000000:=by decide
 refine⟨_,(d4 (jst 2 sc.nd (jc c3x hr (a7 (a8 0) (a7 d3 a9)))) (d4 (jst 3 sc.nd (d9 (a7 (jc c3A hr (a7 (a8 0) (a7 (i3 (a7 d3 (a7 d3 (a7 (A5 d3) (a7 d3 (a7 (A5 d3) (a7 d3 (a7 d3 a9)))))))) (a7 (i3 (a7 d3 (a7 d3 (a7 d3 (a7 d3 a9))))) a9)))) (a7 (jc c3A hr (a7 (a8 0) (a7 (i3 (a7 d3 (a7 d3 (a7 d3 (a7 (A5 d3) (a7 d3 (a7 (A5 d3) a9))))))) (a7 (i3 (a7 d3 (a7 d3 (a7 d3 a9)))) a9)))) a9)))) (d4 (jst 4 sc.nd (jc c4t hr (a7 (a8 0) (a7 (i3 (a7 d3 (a7 (A5 d3) (a7 d3 (a7 d3 (a7 d3 (a7 d3 a9))))))) (a7 (i3 (a7 d3 (a7 d3 (a7 d3 (a7 d3 (a7 d3 (a7 d3 (a7 (f7 W6 d3 d3) (a7 (f7 W6 d3 d3) a9))))))))) a9))))) (d4 (f6 (jtm G8 (a8 2) d3) (d5 (d6 (d9 (a7 (d9 (a7 d3 (a7 d3 a9))) (a7 (d9 (a7 d3 (a7 d3 a9))) a9))))) e9) (d4 (f6 (jtm a0n (a8 2) d3) (d5 (d6 (jc c4g hr (a7 (jc c4v hr (a7 (a8 1) (a7 (jm G8 (a8 2) d3) a9))) (a7 (a8 4) a9))))) e9) (d4 (f6 (jtm a0n (a8 2) d3) (d4 (jst 5 sc.nd (jc c4v hr (a7 (a8 1) (a7 A1 a9)))) (d4 (jst 6 sc.nd (jc c4g hr (a7 (a8 3) (a7 (d9 (a7 d3 (a7 (jx (i3 (a7 (f7 W6 d3 d3) (a7 (f7 W6 d3 d3) (a7 (f7 W6 d3 d3) a9)))) (jc c3x hr (a7 (a8 0) (a7 d3 a9)))) a9))) a9)))) (d5 (d6 (d9 (a7 (jc c3B hr (a7 (jx (a8 5) d3) (a7 (jx (a8 6) d3) a9))) (a7 (jc c3B hr (a7 (jx (a8 5) d3) (a7 (jx (a8 6) d3) a9))) a9))))))) e9) (d5 (d6 (jc c4g hr (a7 (a8 3) (a7 (a8 4) a9))))))))))),?_⟩
 walk_at "sim"
 refine⟨hp,by decide,fun r M1 r0 r1 s1=>⟨s1.pool,[0,1,-1,2,-3,5,9],[1,1,2,3],fun q=>sz q≤4,rfl,rfl,⟨by decide,by decide,by decide,a0d (by decide) (by decide) (by decide)⟩,fun q M2 hq s2=>⟨s2.pool,[0,0,1,-1,2,-4],[1,2,3],fun q=>sz q≤4,rfl,rfl,⟨by decide,by decide,by decide,a0d (by decide) (by decide) (by decide)⟩,fun q1 M3 hq1 s3=>⟨c2v,b8U,?_⟩⟩⟩⟩
 rw[e20,e40]
 refine⟨s3.pool,[1,-1,2,1,3,1],[1,1,2,3,10,1000,100000000000000000000,10000000000000000000000000000000000000000],fun q=>sz q≤133,rfl,rfl,⟨by decide,by decide,by decide,a0d (by decide) (by decide) (by decide)⟩,fun g M4 hg s4=>?_⟩
 have st:=((s1.trans s2).trans s3).trans s4
 have z0:sz (0:Rat)≤1:=by rw[RM.F0];decide
 have scale:∀ y u:Rat,sz y≤463∧sz u≤463∧sz y+sz u≤700→(sz y+sz g≤8900∧sz u+sz g≤8900)∧R (u5 (y*g) (u*g)) M4:=fun y u h=>by
  have m1:=RM.u3 y g
  have m2:=RM.u3 u g
  exact⟨⟨by omega,by omega⟩,k _ _ _ ((CD.ray2 (k:=sz y+133) (l:=sz u+133) (by omega) (by omega)).mono (by omega)) st⟩
 refine⟨fun _=>k 0 0 _ ((CD.ray2 (k:=1) (l:=1) z0 z0).mono (by decide)) st,fun _=>⟨fun _=>⟨hok,fun y u h=>by first|exact scale y u h|exact⟨y,u,g,rfl,scale y u h⟩⟩,fun _=>⟨fun _=>⟨hok,fun y u hyu=>⟨c0v,c2u,b8U,st.pool,by decide,fun v M5 v0 v1 s5=>?_⟩⟩,fun _=>scale q q1 ⟨by omega,by omega,by omega⟩⟩⟩⟩
 refine E3 v0 (by show v<3;exact v1) fun dd hdd=>?_
 obtain⟨N,rfl,N0,N1⟩:∃ N:Nat,dd = .int (N:Int)∧0<N∧N<2 ^ 133:=by
  rw[e18,e25]at hdd
  simp only[c6M,c6Q,or_false]at hdd
  rcases hdd with rfl|rfl|rfl
  ·exact⟨1000000000000000000,rfl,by decide,by decide⟩
  ·exact⟨10000000000000000000000000,rfl,by decide,by decide⟩
  ·exact⟨10000000000000000000000000000000000000000,rfl,by decide,by decide⟩
 obtain⟨h,he,hz⟩:=a78 N0 N1
 rw[he]
 have m1:=RM.u3 q h
 have m2:=RM.u3 q1 h
 have a1:=RM.U4 y (q*h)
 have a2:=RM.U4 u (q1*h)
 walk_at "sim"
 exact⟨⟨by omega,by omega⟩,by omega,by omega,k _ _ _ ((CD.ray2 (k:=sz y+140) (l:=sz u+140) (by omega) (by omega)).mono (by omega)) (st.trans s5)⟩
theorem a4C(T:Txt K mg)(d:Df K mg "_law_stops" Q9 ["pool","parts","count"])(c3x:Fn P w K mg base "_law_next" 1 ["pool","base"] J2)(c3A:Fn P w K mg base "_law_ratio" 3 ["pool","tops","bottoms"] a5y):Fn P w K mg base "_law_stops" 4 ["pool","parts","count"] a2z:=by
 have sc:=a4m
 refine h7 d sc (by walk_at "len") (fun f cdv A outer s H E ds M R Y hr h=>?_)
 have hu:=hr.units
 obtain⟨p,x,n,rfl,hp,bs,rfl,⟨n0,n1,hl⟩,k⟩:=h
 refine⟨_,(d4 (jst 3 sc.nd (a2G a8L rfl T.b_list T3 (a7 (a8 1) a9))) (d4 (v6 PassesOwn.never rfl (Z8 rfl T.b_range (a7 (jc c3x hr (a7 (a8 0) (a7 (f7 D9 (a8 2) d3) a9))) a9)) (jn 4 sc.nd) (d4 (jst 5 sc.nd (jc c3A hr (a7 (a8 0) (a7 (i3 (a7 d3 (a7 d3 (a7 d3 (a7 d3 (a7 d3 (a7 d3 (a7 d3 (a7 d3 (a7 d3 a9)))))))))) (a7 (i3 (a7 d3 (a7 d3 (a7 d3 (a7 d3 a9))))) a9))))) (d5 (C9 (X0 PySem.F.slot_list_insert PySem.F.type_list_insert b1Y (a8 3) (a7 (jc c3x hr (a7 (a8 0) (a7 (f7 D9 (i4 C3 rfl T.b_len y4 (a7 (a8 3) a9)) d3) a9))) (a7 (d9 (a7 g8 (a7 (a8 5) a9))) a9))))))) (d5 (d6 (F9 (L6 (a8 3))))))),?_⟩
 walk_at "sim"
 refine⟨_,bs.map f9,rfl,by simp only[j7],fun l hN=>?_⟩
 have hlp:l≠p:=fun e=>by obtain⟨_,_,_,hq⟩:=hp;rw[e,hq]at hN;cases hN
 have s0:p6 p M (A7 M l (.lst (bs.map f9))):=(p6.refl hp).put hN hlp
 refine⟨s0.pool,by omega,lg9 (by omega),fun r M1 r0 r1 s1=>⟨by omega,?_⟩⟩
 refine P1.by (fun i e M'=>∃(cs:List (Str × Rat)) (z4 z5:Option D),e=[some (.ref p),some (.vl (bs.map f9)),some (.int n),some (.ref l),z4,z5]∧M' l=some (.lst (cs.map f9))∧p6 p M M'∧cs.length=bs.length+i∧cs.filter L7=bs.filter L7∧(∀ x∈cs,x∈bs∨(x.1 = "stop" ∧ 0<x.2∧sz x.2≤10))) ?_ (fun _ _ _ _ _=>trivial) ?_ ?_
 ·exact⟨bs,_,_,rfl,s1.keep l _ hlp g6,s0.trans s1,rfl,rfl,fun x hx=>.inl hx⟩
 ·rintro i dd e M' hd ⟨cs,z4,z5,rfl,hM,st,hc,hf,hm⟩
  have hi:=(c6F.mp hd).1
  rw[o6]at hi
  walk_at "sim"
  refine⟨st.pool,[1,2,3,4,5,7,12,40,1000],[1,1,2,3],fun q=>0<q∧sz q≤10,rfl,rfl,⟨by decide,by decide,by decide,b05 (by decide) (by decide) (by decide)⟩,?_⟩
  rintro q M2 ⟨q0,q1⟩ s2
  have hM2:=s2.keep l _ hlp hM
  refine L8 hM2 ?_
  rw[a7I (a1n hM2),c6x]
  walk_at "sim"
  refine⟨s2.pool,by omega,lg9 (by omega),fun j M3 j0 j1 s3=>?_⟩
  have hM3:=s3.keep l _ hlp hM2
  obtain⟨jn,rfl⟩:=Int.eq_ofNat_of_zero_le j0
  refine c0H hM3 (by rw[c6x];omega) (by rw[c6x];omega) ⟨cs.take jn++(Str.ofString "stop",q) :: cs.drop jn,some dd,some (d8 q),rfl,?_,((st.trans s2).trans s3).put hN hlp,?_,?_,?_⟩
  ·rw[g6,c6P,c7C,c8y,c9x]
   rfl
  ·rw[c6H,c7f,c7p,c7K];omega
  ·rw[c7r,c7L,show L7 (Str.ofString "stop",q)=false from rfl,← hf]
   show _++c80 L7 (cs.drop jn)=_
   rw[← c7r,c8t]
  ·intro x hx
   rcases c6R.mp hx with hx|hx
   ·exact hm x (c8a hx)
   ·rcases c6M.mp hx with rfl|hx
    ·exact .inr ⟨rfl,q0,q1⟩
    ·exact hm x (c9i hx)
 ·rintro e M' ⟨cs,z4,z5,rfl,hM,st,hc,hf,hm⟩
  rw[o6]at hc
  walk_at "sim"
  refine⟨l,_,rfl,hM,?_⟩
  exact J8 (M2:=a0o M' l) (fun _ _ h=>h) (k cs _ (by omega) hf hm (st.del hN hlp))
theorem a3T(T:Txt K mg)(d:Df K mg "_law_pieces" O7 ["pool","gap"])(c3z:Fn P w K mg base "minus" 4 ["one","other"] E2)(c3C:Fn P w K mg base "ratio" 2 ["top","bottom"] K9)(c3x:Fn P w K mg base "_law_next" 1 ["pool","base"] J2):Fn P w K mg base "_law_pieces" 5 ["pool","gap"] a6p:=by
 have sc:=a3t
 refine h7 d sc (by walk_at "len") (fun f cdv A outer s H E ds M R Y hr h=>?_)
 have hu:=hr.units
 obtain⟨p,G,rfl,hp,⟨g0,g1⟩,k⟩:=h
 refine⟨_,(d4 (jst 2 sc.nd (f7 D9 d3 (jc c3x hr (a7 (a8 0) (a7 d3 a9))))) (d4 (jst 3 sc.nd (W9 a9)) (d4 (v6 PassesOwn.never rfl (Z8 rfl T.b_range (a7 (f7 a18 (a8 2) d3) a9)) (jn 4 sc.nd) (d4 (jst 5 sc.nd (jc c3C hr (a7 (jx (a8 1) d3) (a7 (f7 i8 (jx (a8 1) d3) (f7 D9 d3 (jc c3x hr (a7 (a8 0) (a7 d3 a9))))) a9)))) (d4 (C9 (X0 PySem.F.slot_list_append PySem.F.type_list_append D6 (a8 3) (a7 (d9 (a7 g8 (a7 (a8 5) a9))) a9))) (d5 (jst 1 sc.nd (jc c3z hr (a7 (a8 1) (a7 (a8 5) a9)))))))) (d5 (d6 (F9 (G6 (L6 (a8 3)) (i3 (a7 (d9 (a7 g8 (a7 (a8 1) a9))) a9))))))))),?_⟩
 walk_at "sim"
 refine⟨hp,lg9 (by decide),fun r M1 r0 r1 s1 l hl=>⟨by omega,?_⟩⟩
 have hlp:l≠p:=fun e=>by obtain⟨_,_,_,hq⟩:=s1.pool;rw[e,hq]at hl;cases hl
 refine P1.by (fun i e M'=>∃(qs:List Rat) (c:Rat) (z4 z5:Option D),e=[some (.ref p),some (d8 (G*c)),some (.int (1+r)),some (.ref l),z4,z5]∧M' l=some (.lst ((qs.map fun q=>(Str.ofString "gap",G*q)).map f9))∧p6 p M1 M'∧qs.length=i∧(∀ q∈qs,0≤q∧sz q≤5)∧0<c∧sz c≤1+2*i) ?_ (fun _ _ _ _ _=>trivial) ?_ ?_
 ·exact⟨[],1,_,_,by rw[show G*1=G by grind],g6,(p6.refl s1.pool).put hl hlp,rfl,fun q hq=>(by cases hq),by decide,by rw[RM.K6];omega⟩
 ·rintro i dd e M' hd ⟨qs,c,z4,z5,rfl,hM,st,hq,hqs,hc,hcz⟩
  have hi:=(c6F.mp hd).1
  rw[o6]at hi
  have zg:=RM.u3 G c
  walk_at "sim"
  refine⟨st.pool,lg9 (by decide),fun m M2 m0 m1 s2=>?_⟩
  rw[b7A (G*c) (2+m)]
  obtain⟨z1,z2,p1,p2⟩:=c2V (m:=2+m) (by omega) (by omega)
  have hm0:((2+m:Int):Rat)≠0:=fun z=>by rw[z]at p1;exact absurd p1 (by decide +kernel)
  have dp:=(G*c).den_pos
  have dl:=E8 (G*c)
  have zd:=RM.J1 (G*c) ((2+m:Int):Rat) hm0
  have zc:=RM.J1 c ((2+m:Int):Rat) hm0
  have zr:=RM.u3 c (1 - 1 / ((2+m:Int):Rat))
  have hM2:M2 l=_:=s2.keep l _ hlp hM
  refine⟨c1N (by omega) (by omega),c7u (by omega) (by omega),?_,L8 hM2 (T7 hM2 (by rw[c6x,c6x];omega) ⟨by omega,qs++[c / ((2+m:Int):Rat)],c*(1 - 1 / ((2+m:Int):Rat)),some dd,some (d8 (G*c / ((2+m:Int):Rat))),?_,?_,?_,?_,?_,?_,by omega⟩)⟩
  ·have h1:((G*c).den*(2+m.toNat))<2 ^ (sz (G*c)+3):=o9 dl (by omega)
   have e:(((G*c).den:Int)*(2+m)).natAbs=(G*c).den*(2+m.toNat):=by
    rw[c6W,c6w];congr 1;omega
   rw[e]
   exact E7 (c6A h1 (c6T (by decide) (by omega))) (by decide)
  ·rw[show G*c - G*c / ((2+m:Int):Rat)=G*(c*(1 - 1 / ((2+m:Int):Rat)))by grind]
  ·rw[g6,c6P,c6P,show G*c / ((2+m:Int):Rat)=G*(c / ((2+m:Int):Rat))by grind]
   rfl
  ·exact(st.trans s2).put hl hlp
  ·rw[c6H];show qs.length+1=_;omega
  ·intro q hq'
   rcases c6R.mp hq' with hq'|hq'
   ·exact hqs q hq'
   ·rw[c6N.mp hq']
    exact⟨by rw[show c / ((2+m:Int):Rat)=c*(1 / ((2+m:Int):Rat))by grind];exact c9d (c8p hc p1),by omega⟩
  ·exact c8p hc p2
 ·rintro e M' ⟨qs,c,z4,z5,rfl,hM,st,hq,hqs,hc,hcz⟩
  rw[o6]at hq hcz
  walk_at "sim"
  refine⟨l,_,rfl,hM,?_⟩
  show b09 _ _ _ _
  walk_at "sim"
  have hl0:M l=none:=by
   cases e:M l with
   | none=>rfl
   | some o=>rw[s1.keep l o hlp e]at hl;cases hl
  have hs:1000≤sizeLine:=by decide
  refine⟨by rw[c6x,c6x];omega,J8 (M2:=a0o M' l) (fun _ _ h=>h) ?_⟩
  have k2:=k (qs++[c]) (a0o M' l) (by rw[c6H];show qs.length+1≤3;omega) (fun q hq'=>by
   rcases c6R.mp hq' with hq'|hq'
   ·exact hqs q hq'
   ·rw[c6N.mp hq'];exact⟨c9d hc,by omega⟩) ((s1.trans st).del hl0 hlp)
  rw[c6P,c6P]at k2
  exact k2
theorem a0P(T:Txt K mg)(d:Df K mg "_law_known_hall" F3 ["pool"])(c3C:Fn P w K mg base "ratio" 2 ["top","bottom"] K9)(c3Y:Fn P w K mg base "_law_stops" 4 ["pool","parts","count"] a2z)(c4y:Fn P w K mg base "_law_pieces" 5 ["pool","gap"] a6p)(c3A:Fn P w K mg base "_law_ratio" 3 ["pool","tops","bottoms"] a5y)(c3x:Fn P w K mg base "_law_next" 1 ["pool","base"] J2):Fn P w K mg base "_law_known_hall" 6 ["pool"] a71:=by
 have sc:=a0C
 refine h7 d sc (by walk_at "len") (fun f cdv A outer s H E ds M R Y hr h=>?_)
 have hu:=hr.units
 obtain⟨p,rfl,hp,k⟩:=h
 refine⟨_,(d4 (jst 1 sc.nd (i3 (a7 (d9 (a7 d3 (a7 d3 a9))) (a7 (d9 (a7 d3 (a7 d3 a9))) (a7 (d9 (a7 d3 (a7 (A5 d3) a9))) (a7 (d9 (a7 d3 (a7 d3 a9))) (a7 (d9 (a7 d3 (a7 d3 a9))) (a7 (d9 (a7 d3 (a7 d3 a9))) (a7 (d9 (a7 d3 (a7 d3 a9))) (a7 (d9 (a7 d3 (a7 d3 a9))) (a7 (d9 (a7 d3 (a7 d3 a9))) (a7 (d9 (a7 d3 (a7 d3 a9))) (a7 (d9 (a7 d3 (a7 d3 a9))) (a7 (d9 (a7 d3 (a7 d3 a9))) a9)))))))))))))) (d4 (p8 (jx (a8 1) (jc c3x hr (a7 (a8 0) (a7 d3 a9)))) (h8 (n:=2) rfl (d7 (jn 2 sc.nd) (d7 (jn 3 sc.nd) g9)))) (d4 (jst 4 sc.nd (d9 (a7 d3 (a7 d3 a9)))) (C6 (f6 (jtm G8 (jc c3x hr (a7 (a8 0) (a7 d3 a9))) d3) (d4 (jst 5 sc.nd (i3 (a7 (d9 (a7 d3 (a7 d3 a9))) (a7 (d9 (a7 d3 (a7 d3 a9))) (a7 (d9 (a7 (A5 d3) (a7 (A5 d3) a9))) (a7 (d9 (a7 d3 (a7 d3 a9))) (a7 (d9 (a7 d3 (a7 d3 a9))) (a7 (d9 (a7 d3 (a7 (A5 d3) a9))) (a7 (d9 (a7 d3 (a7 d3 a9))) (a7 (d9 (a7 d3 (a7 d3 a9))) (a7 (d9 (a7 d3 (a7 d3 a9))) (a7 (d9 (a7 d3 (a7 d3 a9))) (a7 (d9 (a7 d3 (a7 d3 a9))) (a7 (d9 (a7 d3 (a7 (A5 d3) a9))) a9)))))))))))))) (d4 (p8 (jx (a8 5) (jc c3x hr (a7 (a8 0) (a7 d3 a9)))) (h8 (n:=2) rfl (d7 (jn 2 sc.nd) (d7 (jn 3 sc.nd) g9)))) (d5 (jst 4 sc.nd (d9 (a7 d3 (a7 d3 a9))))))) e9) (d4 (jst 6 sc.nd (jc c3A hr (a7 (a8 0) (a7 (i3 (a7 d3 (a7 d3 (a7 d3 (a7 d3 (a7 d3 (a7 d3 (a7 d3 (a7 d3 (a7 (f7 W6 d3 d3) a9)))))))))) (a7 (i3 (a7 d3 (a7 d3 (a7 d3 (a7 d3 a9))))) a9))))) (d4 (jst 7 sc.nd (jc c3Y hr (a7 (a8 0) (a7 (jc c4y hr (a7 (a8 0) (a7 (a8 6) a9))) (a7 d3 a9))))) (d4 (jst 8 sc.nd (jc c3C hr (a7 (f7 i8 (a8 2) (jx (a8 6) d3)) (a7 (f7 i8 (jx (a8 4) d3) (jx (a8 6) d3)) a9)))) (d5 (d6 (d9 (a7 (a8 8) (a7 (a8 7) (a7 (jc c3C hr (a7 (f7 i8 (a8 3) (jx (a8 6) d3)) (a7 (f7 i8 (jx (a8 4) d3) (jx (a8 6) d3)) a9))) a9))))))))))))),?_⟩
 walk_at "sim"
 refine⟨hp,lg9 (by decide),fun r M1 r0 r1 s1=>E3 r0 (by show r<12;omega) fun d hd=>?_⟩
 obtain⟨n,f,rfl,hn,hf⟩:∃ n f:Int,d = .tup [.int n,.int f]∧n.natAbs≤13∧f.natAbs≤13:=by
  simp only[c6M,c6Q,or_false]at hd
  rcases hd with rfl|rfl|rfl|rfl|rfl|rfl|rfl|rfl|rfl|rfl|rfl|rfl
  all_goals exact⟨_,_,rfl,by decide,by decide⟩
 walk_at "sim"
 refine P0 (fun e' M'=>∃(n f b:Int) (x1 x5:Option D),e'=[some (.ref p),x1,some (.int n),some (.int f),some (.tup [.int b,.int b]),x5,none,none,none]∧n.natAbs≤13∧f.natAbs≤13∧(b=1∨b=2)∧p6 p M M') ?_ ?_
 ·walk_at "sim"
  refine⟨s1.pool,lg9 (by decide),fun r' M2 r0' r1' s2=>⟨fun _=>?_,fun _=>⟨n,f,1,_,_,rfl,hn,hf,.inl rfl,s1.trans s2⟩⟩⟩
  refine⟨s2.pool,lg9 (by decide),fun r2 M3 r20 r21 s3=>E3 r20 (by show r2<12;omega) fun d hd=>?_⟩
  obtain⟨n',f',rfl,hn',hf'⟩:∃ n f:Int,d = .tup [.int n,.int f]∧n.natAbs≤13∧f.natAbs≤13:=by
   simp only[c6M,c6Q,or_false]at hd
   rcases hd with rfl|rfl|rfl|rfl|rfl|rfl|rfl|rfl|rfl|rfl|rfl|rfl
   all_goals exact⟨_,_,rfl,by decide,by decide⟩
  walk_at "sim"
  exact⟨n',f',2,_,_,rfl,hn',hf',.inr rfl,(s1.trans s2).trans s3⟩
 ·rintro e' M2 ⟨n,f,b,x1,x5,rfl,hn,hf,hb,s2⟩
  walk_at "sim"
  refine⟨⟨by decide,by decide,by decide⟩,s2.pool,[1,2,3,5,1,2,3,5,10 ^ c9y 20],[1,1,2,3],fun q=>0<q∧sz q≤67,rfl,rfl,⟨by decide,by decide,by decide,b05 (by decide) (by decide) (by decide)⟩,?_⟩
  rintro G M3 ⟨G0,G1⟩ s3
  refine⟨s3.pool,⟨G0,G1⟩,fun qs M4 ql hqs s4=>⟨s4.pool,_,rfl,by rw[c6x];omega,fun cs M5 cl cf cm s5=>?_⟩⟩
  rw[c6x]at cl
  have hc7:cs.length≤7:=c6D cl (by show qs.length+4≤7;omega)
  obtain⟨H1,H2,H3⟩:=b4m G0 G1 ql hqs hc7 cf cm hn hf hb
  have gp:=a9D G0
  have b0:b≠0:=by omega
  have ne:b*G.num≠0:=c7u b0 (by omega)
  have lg:(b*G.num).natAbs.log2<9000:=E7 (c6A (e7 (show b.natAbs<2 ^ 2 by omega) (q9 G G1)) (c6T (by decide) (by decide))) (by decide)
  have i1:IntMulOk b G.num:=a8o (by omega) (by omega)
  rw[a8p gp b0,a8p gp b0]
  exact⟨a8o (by omega) (by omega),i1,ne,lg,a8o (by omega) (by omega),i1,ne,lg,k _ _ _ _ H1 H2 H3 (((s2.trans s3).trans s4).trans s5)⟩
theorem a6O(T:Txt K mg)(d:Df K mg "_law_hall" V6 ["pool"])(c3A:Fn P w K mg base "_law_ratio" 3 ["pool","tops","bottoms"] a5y)(c3Y:Fn P w K mg base "_law_stops" 4 ["pool","parts","count"] a2z)(c3x:Fn P w K mg base "_law_next" 1 ["pool","base"] J2)(c3z:Fn P w K mg base "minus" 4 ["one","other"] E2)(c4o:Fn P w K mg base "_law_known_hall" 6 ["pool"] a71):Fn P w K mg base "_law_hall" 7 ["pool"] a71:=by
 have sc:=a58
 refine h7 d sc (by walk_at "len") (fun f cdv A outer s H E ds M R Y hr h=>?_)
 have hu:=hr.units
 obtain⟨p,rfl,hp,k⟩:=h
 refine⟨_,(d4 (jst 1 sc.nd (jc c3x hr (a7 (a8 0) (a7 d3 a9)))) (d4 (f6 (jtm a0n (a8 1) d3) (d5 (d6 (F9 (jc c4o hr (a7 (a8 0) a9))))) e9) (d4 (jst 2 sc.nd (jc c3A hr (a7 (a8 0) (a7 (i3 (a7 d3 (a7 d3 (a7 (A5 d3) (a7 d3 (a7 d3 (a7 (A5 d3) a9))))))) (a7 (i3 (a7 d3 (a7 d3 (a7 d3 a9)))) a9))))) (d4 (f6 (jtm G8 (a8 1) d3) (d5 (d6 (F9 (d9 (a7 (a8 2) (a7 (jc c3Y hr (a7 (a8 0) (a7 (i3 a9) (a7 d3 a9)))) (a7 (jc c3z hr (a7 (d9 (a7 d3 (a7 d3 a9))) (a7 (a8 2) a9))) a9))))))) e9) (d4 (jst 3 sc.nd (W9 a9)) (d4 (v6 PassesOwn.never rfl (Z8 rfl T.b_range (a7 (jc c3x hr (a7 (a8 0) (a7 d3 a9))) a9)) (jn 4 sc.nd) (d5 (f6 (jtm G8 (jc c3x hr (a7 (a8 0) (a7 d3 a9))) d3) (d5 (C9 (X0 PySem.F.slot_list_append PySem.F.type_list_append D6 (a8 3) (a7 (d9 (a7 g8 (a7 (jc c3A hr (a7 (a8 0) (a7 (i3 (a7 d3 (a7 d3 (a7 d3 (a7 d3 (a7 d3 (a7 d3 a9))))))) (a7 (i3 (a7 d3 (a7 d3 (a7 d3 a9)))) a9)))) a9))) a9)))) (d5 (C9 (X0 PySem.F.slot_list_append PySem.F.type_list_append D6 (a8 3) (a7 (d9 (a7 g8 (a7 (jc c3A hr (a7 (a8 0) (a7 (i3 (a7 d3 (a7 d3 (a7 (A5 d3) (a7 d3 (a7 (A5 d3) (a7 d3 a9))))))) (a7 (i3 (a7 d3 (a7 d3 (a7 d3 a9)))) a9)))) a9))) a9))))))) (d5 (d6 (F9 (d9 (a7 (a8 2) (a7 (jc c3Y hr (a7 (a8 0) (a7 (L6 (a8 3)) (a7 d3 a9)))) (a7 (jc c3A hr (a7 (a8 0) (a7 (i3 (a7 d3 (a7 d3 (a7 (A5 d3) (a7 d3 (a7 (A5 d3) (a7 d3 a9))))))) (a7 (i3 (a7 d3 (a7 d3 a9))) a9)))) a9))))))))))))),?_⟩
 walk_at "sim"
 refine⟨hp,lg9 (by decide),fun r M1 r0 r1 s1=>⟨fun _=>⟨s1.pool,fun near bs far M2 h1 h2 h3 s2=>J8 (M2:=M2) (fun _ _ h=>h) (k near bs far M2 h1 h2 h3 (s1.trans s2))⟩,fun _=>?_⟩⟩
 refine⟨s1.pool,[0,1,-1,2,1,-3],[1,2,3],fun q=>sz q≤5,rfl,rfl,⟨by decide,by decide,by decide,a0d (by decide) (by decide) (by decide)⟩,fun q M2 hq s2=>⟨fun _=>?_,fun _ l hN=>?_⟩⟩
 ·have zn:=RM.I0 q
  refine⟨s2.pool,[],rfl,by decide,fun cs M3 cl cf cm s3=>⟨by rw[RM.F0];omega,J8 (M2:=M3) (fun _ _ h=>h) ?_⟩⟩
  obtain⟨H1,H2,H3⟩:=a76 (near:=q) (far:=0 - q) (bs:=[]) hq (by rw[show 0 - q = -q by grind,zn];exact hq) (fun x hx=>(by cases hx)) (by decide) (c6D cl (by decide)) cf cm
  exact k _ _ _ _ H1 H2 H3 ((s1.trans s2).trans s3)
 ·have hlp:l≠p:=fun e=>by obtain⟨_,_,_,hq⟩:=s2.pool;rw[e,hq]at hN;cases hN
  have s12:=s1.trans s2
  have hM0:M l=none:=by
   cases e:M l with
   | none=>rfl
   | some o=>rw[s12.keep l o hlp e]at hN;cases hN
  have s0:p6 p M2 (A7 M2 l (.lst [])):=(p6.refl s2.pool).put hN hlp
  refine⟨s0.pool,lg9 (by decide),fun n M3 n0 n1 s3=>⟨by omega,?_⟩⟩
  refine P1.by (fun i e M'=>∃(bs:List (Str × Rat)) (z4:Option D),e=[some (.ref p),some (.int r),some (d8 q),some (.ref l),z4]∧M' l=some (.lst (bs.map f9))∧p6 p M2 M'∧bs.length=i∧(∀ x∈bs,sz x.2≤5∧((x.1 = "gap" ∧ 0≤x.2)∨x.1 = "glass"))) ?_ (fun _ _ _ _ _=>trivial) ?_ ?_
  ·exact⟨[],_,rfl,s3.keep l _ hlp g6,s0.trans s3,rfl,fun x hx=>(by cases hx)⟩
  ·rintro i dd e M' hd ⟨bs,z4,rfl,hM,st,hb,hbs⟩
   have hi:=(c6F.mp hd).1
   rw[o6]at hi
   have hadd:∀(w:Str) (q2:Rat) (M5:Mem),p6 p M' M5→sz q2≤5→((w = "gap" ∧ 0≤q2)∨w = "glass")→∃(bs':List (Str × Rat)) (z4:Option D),[some (D.ref p),some (D.int r),some (d8 q),some (D.ref l),some dd]=[some (.ref p),some (.int r),some (d8 q),some (.ref l),z4]∧(A7 M5 l (.lst (bs.map f9++[.tup [.str w,d8 q2]]))) l=some (.lst (bs'.map f9))∧p6 p M2 (A7 M5 l (.lst (bs.map f9++[.tup [.str w,d8 q2]])))∧bs'.length=i+1∧(∀ x∈bs',sz x.2≤5∧((x.1 = "gap" ∧ 0≤x.2)∨x.1 = "glass")):=fun w q2 M5 s5 hq2 hw=>by
    refine⟨bs++[(w,q2)],_,rfl,by rw[g6,c6P];rfl,(st.trans s5).put hN hlp,by rw[c6H];show bs.length+1=_;omega,fun x hx=>?_⟩
    rcases c6R.mp hx with hx|hx
    ·exact hbs x hx
    ·rw[c6N.mp hx];exact⟨hq2,hw⟩
   walk_at "sim"
   refine⟨st.pool,lg9 (by decide),fun g M4 g0 g1 s4=>⟨fun _=>L8 (s4.keep l _ hlp hM) ⟨s4.pool,[0,1,2,3,1,5],[1,2,3],fun q=>0≤q∧sz q≤5,rfl,rfl,⟨by decide,by decide,by decide,b7r (by decide) (by decide) (by decide)⟩,?_⟩,fun _=>L8 (s4.keep l _ hlp hM) ⟨s4.pool,[0,1,-1,2,-2,3],[1,2,3],fun q=>sz q≤5,rfl,rfl,⟨by decide,by decide,by decide,a0d (by decide) (by decide) (by decide)⟩,?_⟩⟩⟩
   ·rintro q2 M5 ⟨h1,h2⟩ s5
    exact T7 (s5.keep l _ hlp (s4.keep l _ hlp hM)) (by rw[c6x];omega) (hadd _ _ _ (s4.trans s5) h2 (.inl ⟨rfl,h1⟩))
   ·rintro q2 M5 h2 s5
    exact T7 (s5.keep l _ hlp (s4.keep l _ hlp hM)) (by rw[c6x];omega) (hadd _ _ _ (s4.trans s5) h2 (.inr rfl))
  ·rintro e M' ⟨bs,z4,rfl,hM,st,hb,hbs⟩
   rw[o6]at hb
   walk_at "sim"
   refine⟨l,_,rfl,hM,?_⟩
   have sd:=st.del hN hlp
   refine⟨sd.pool,bs,rfl,by omega,fun cs M4 cl cf cm s4=>⟨s4.pool,[0,1,-1,2,-2,3],[1,2],fun q=>sz q≤5,rfl,rfl,⟨by decide,by decide,by decide,a0d (by decide) (by decide) (by decide)⟩,fun f M5 hf s5=>J8 (M2:=M5) (fun _ _ h=>h) ?_⟩⟩
   obtain⟨H1,H2,H3⟩:=a76 hq hf hbs (by omega) (c6D cl (by show bs.length+3≤7;omega)) cf cm
   exact k _ _ _ _ H1 H2 H3 (((s12.trans sd).trans s4).trans s5)
theorem a6L(T:Txt K mg)(d:Df K mg "_law_pool" V3 ["cell"]):Fn P w K mg base "_law_pool" 1 ["cell"] a85:=by
 have sc:=a55
 refine h7 d sc (fun ds M R Y h=>?_) (fun f cdv A outer s H E ds M R Y hr h=>?_)
 ·obtain⟨c,rfl,_⟩:=h;rfl
 ·obtain⟨c,rfl,k⟩:=h
  refine⟨_,(d5 (d6 (W9 (a7 (i4 (b8W rfl) rfl T.b_max b5f (a7 d3 (a7 (f7 a18 (a8 0) (f7 W6 d3 d3)) a9))) (a7 (f7 a3V (a8 0) (f7 W6 d3 d3)) (a7 d3 a9)))))),?_⟩
  refine⟨_,rfl,_,_,rfl,rfl,c0v,_,rfl,_,_,rfl,_,rfl,_,_,rfl,rfl,c0v,_,_,rfl,rfl,(by show(0:Int)<10 ^ 18;decide),sl 3,fun p hp=>?_⟩
  exact k p _ hp (MK.new hp) ⟨_,_,_,g6⟩
theorem b93{f:Addr}{fd:FuncData}(T:Txt K mg)(d:b7J K "law" b3z f fd)(c4s:Fn P w K mg base "_law_spoilt" 6 ["pool","paper","others"] a6k)(c4z:Fn P w K mg base "never_shown" 9 ["hall","ray","paper"] a9k)(c4j:Fn P w K mg base "_law_paper_shown" 10 ["hall","ray","paper"] a9j)(c3V:Fn P w K mg base "less" 1 ["one","other"] a0A)(c3S:Fn P w K mg base "_law_numbers" 7 ["hall","ray"] a1d)(c3F:Fn P w K mg base "_law_reach" 5 ["t","x","further"] V9)(c4F:Fn P w K mg base "_law_entry" 9 ["hall","t","x","further"] a3A)(c4A:Fn P w K mg base "_law_t" 7 ["hall"] b6x)(c4G:Fn P w K mg base "_law_tight" 9 ["pool","hall","ray"] a9e)(c4Q:Fn P w K mg base "_law_ray" 10 ["pool","hall"] b3C)(c4K:Fn P w K mg base "_law_hall" 7 ["pool"] a71)(c4L:Fn P w K mg base "_law_pool" 1 ["cell"] a85):U2 P w K mg base CX0 11 f fd ["script"] (a7L K b0H):=by
 have sc:=b9p
 refine b8E d sc (fun ds M R Y h=>by obtain⟨n,rfl,_⟩:=h;rfl) (fun cdv A outer s H E ds M R Y hr h=>?_)
 obtain⟨ns,rfl,hlen,k⟩:=h
 have hu:=hr.units
 refine⟨_,(d4 (v6 PassesOwn.never rfl (y7 (G6 (i3 (a7 d3 a9)) (a8 0))) (jn 1 sc.nd) (d4 (jst 2 sc.nd (jc c4L hr (a7 (a8 1) a9))) (d4 (jst 3 sc.nd (jc c4K hr (a7 (a8 2) a9))) (d4 (jst 4 sc.nd (jc c4Q hr (a7 (a8 2) (a7 (a8 3) a9)))) (d4 (jst 3 sc.nd (jc c4G hr (a7 (a8 2) (a7 (a8 3) (a7 (a8 4) a9))))) (d4 (jst 5 sc.nd (d9 (a7 (jx (a8 3) d3) (a7 (a1o rfl T.b_list T3 (a7 (jx (a8 3) d3) a9)) (a7 (jx (a8 3) d3) a9))))) (d4 (jst 6 sc.nd (jc c4A hr (a7 (a8 3) a9))) (d4 (y8 (i:=7) [3,6] ["x","further","r"] ["hall","t"] sc.nd rfl (Or.inl rfl) rfl (by decide +kernel) rfl (by decide +kernel) (by decide +kernel) rfl (b7F ⟨rfl,rfl⟩ ⟨rfl,rfl⟩) (b7F (Or.inl rfl) (Or.inl rfl)) (y7 (jc c3S hr (a7 (a8 3) (a7 (a8 4) a9)))) (fun _ _ _ _ _ _=>(h8 (n:=3) rfl (d7 (jn 0 (show(["x","further","r","hall","t"]:List Str).Nodup by decide +kernel)) (d7 (jn 1 (show(["x","further","r","hall","t"]:List Str).Nodup by decide +kernel)) (d7 (jn 2 (show(["x","further","r","hall","t"]:List Str).Nodup by decide +kernel)) g9))))) (fun _ _ _ _ _ _=>v8) (fun _ _ _ _ _ _=>(jc c4F hr (a7 (a8 3) (a7 (a8 4) (a7 (a8 0) (a7 (a8 1) a9))))))) (d4 (y8 (i:=8) [] ["line"] [] sc.nd rfl (Or.inl rfl) rfl (by decide +kernel) rfl (by decide +kernel) (by decide +kernel) rfl a0s a0s (y7 (a8 7)) (fun _ _ _ _ _ _=>(jn 0 (show(["line"]:List Str).Nodup by decide +kernel))) (fun _ _ _ _ _ _=>v8) (fun _ _ _ _ _ _=>(i3 a9))) (C6 (f6 (A8 (a1O (i0 (jc c3V hr (a7 (d9 (a7 (A5 d3) (a7 d3 a9))) (a7 (a8 6) a9)))) (a0c (i0 (jc c3V hr (a7 (a8 6) (a7 (d9 (a7 d3 (a7 d3 a9))) a9))))))) (d5 (y8 (i:=8) [6] ["x","further","r"] ["t"] sc.nd rfl (Or.inl rfl) rfl (by decide +kernel) rfl (by decide +kernel) (by decide +kernel) rfl (a0r ⟨rfl,rfl⟩) (a0r (Or.inl rfl)) (y7 (jc c3S hr (a7 (a8 3) (a7 (a8 4) a9)))) (fun _ _ _ _ _ _=>(h8 (n:=3) rfl (d7 (jn 0 (show(["x","further","r","t"]:List Str).Nodup by decide +kernel)) (d7 (jn 1 (show(["x","further","r","t"]:List Str).Nodup by decide +kernel)) (d7 (jn 2 (show(["x","further","r","t"]:List Str).Nodup by decide +kernel)) g9))))) (fun _ _ _ _ _ _=>v8) (fun _ _ _ _ _ _=>(L6 (f7 c1J (W9 (a7 (d9 (a7 g8 (a7 (jc c3F hr (a7 (a8 3) (a7 (a8 0) (a7 (a8 1) a9)))) a9))) a9)) d3))))) e9) (d5 (v6 PassesOwn.never rfl (y7 (i3 (a7 (a8 7) (a7 (jc c4s hr (a7 (a8 2) (a7 (a8 7) (a7 (a8 8) a9)))) (a7 (jc c4s hr (a7 (a8 2) (a7 (a8 7) (a7 (a8 8) a9)))) a9))))) (jn 9 sc.nd) (d4 (jst 10 sc.nd (jc c4j hr (a7 (a8 3) (a7 (a8 4) (a7 (a8 9) a9))))) (d4 (jst 11 sc.nd (a1o rfl T.b_list T3 (a7 (a8 9) a9))) (d5 (v6 PassesOwn.never rfl (y7 (i3 (a7 (a8 9) (a7 (a2G b5e rfl T.b_tuple F5 (a7 (a8 9) a9)) a9)))) (jn 12 sc.nd) (d4 (jst 13 sc.nd (jc c4z hr (a7 (a8 3) (a7 (a8 4) (a7 (a8 12) a9))))) (d5 (f6 (A8 (u8 (w6 (i0 (i4 (N5 T.sub) rfl T.b_isinstance o7 (a7 (a8 13) (a7 (N2 rfl T.b_bool a2J) a9))))) (u8 (jtm c1K (a8 13) (a8 10)) (u8 (jtm (a0v hu) (a8 9) (a8 11)) (A4 (jtm (a0v hu) (a8 3) (a8 5))))))) (d5 (d6 A1)) e9))))))))))))))))))) (d5 (d6 A1))),?_⟩
 walk_at "sim"
 refine⟨c6D (by rw[c6x];omega) (show 1000≤sizeLine by decide),?_⟩
 refine P1.by (fun i e M'=>∃ x1 x2 x3 x4 x5 x6 x7 x8 x9 x10 x11 x12 x13:Option D,e=[some (.vl (ns.map D.int)),x1,x2,x3,x4,x5,x6,x7,x8,x9,x10,x11,x12,x13]) ⟨_,_,_,_,_,_,_,_,_,_,_,_,_,rfl⟩ (fun i e M' _ _=>by simp only[j7]) ?_ ?_
 ·rintro i dd e M' hd ⟨x1,x2,x3,x4,x5,x6,x7,x8,x9,x10,x11,x12,x13,rfl⟩
  obtain⟨n,rfl⟩:∃ n:Int,dd = .int n:=by
   have hm:=c6J hd
   rcases c6M.mp hm with rfl|hm
   ·exact⟨0,rfl⟩
   ·obtain⟨n,_,rfl⟩:=c7k.mp hm
    exact⟨n,rfl⟩
  walk_at "sim"
  refine fun p M1 hp mk hP=>⟨hP,fun near bs far M2 hok hl7 ha s2=>⟨s2.pool,hok,fun y u M3 cd s3=>⟨s3.pool,⟨hok,hl7,cd⟩,fun bs' M4 hw s4=>⟨hw,?_⟩⟩⟩⟩
  have cL:=hw.cd (e6 near bs' far).length
  rw[c6X]at cL
  have zt:sz (trQ (tbQ (e6 near bs' far)))≤231:=CD.tr cL
  have hN:=a33 hw cd (by decide)
  have hN2:∀ l∈A9 near bs' far y u,sz l.1≤1231∧sz l.2.1≤1462:=fun l hl=>by
   obtain⟨l0,h0,rfl⟩:=c7k.mp hl
   exact(hw.line cd h0).2.2
  have hlen:=a5K near far bs' y u
  have hbl:=hw.len
  have s2z:sz (2:Rat)≤2:=by decide +kernel
  have s3z:sz (-2:Rat)≤2:=by rw[RM.I0];exact s2z
  refine⟨⟨hw,cd⟩,?_⟩
  let bi:Nat→Nat:=fun i=>match (A9 near bs' far y u)[i]? with|some l=>if l.1=0∧l.2.1=0 then 1 else 8800|none=>8800
  have hbi:∀ i,bi i≤8800:=fun i=>by
   show(match (A9 near bs' far y u)[i]? with|some l=>if l.1=0∧l.2.1=0 then 1 else 8800|none=>8800)≤8800
   split
   ·split<;>decide
   ·decide
  have hbe:∀{i:Nat} {l:Rat × Rat × Rat} {e:En},(A9 near bs' far y u)[i]? = some l→enB 8800 9 e→(l.1=0→l.2.1=0→enB 1 9 e)→enB (bi i) 9 e:=fun{i l e} hl h1 h2=>by
   show enB (match (A9 near bs' far y u)[i]? with|some l=>if l.1=0∧l.2.1=0 then 1 else 8800|none=>8800) 9 e
   rw[hl]
   by_cases hz:l.1=0∧l.2.1=0
   ·show enB (if l.1=0∧l.2.1=0 then 1 else 8800) 9 e
    rw[if_pos hz];exact h2 hz.1 hz.2
   ·show enB (if l.1=0∧l.2.1=0 then 1 else 8800) 9 e
    rw[if_neg hz];exact h1
  have hbs:∀{i:Nat} {l:Rat × Rat × Rat},(A9 near bs' far y u)[i]? = some l→l.1=0→l.2.1=0→bi i=1:=fun{i l} hl h1 h2=>by
   show(match (A9 near bs' far y u)[i]? with|some l=>if l.1=0∧l.2.1=0 then 1 else 8800|none=>8800)=1
   rw[hl]
   show(if l.1=0∧l.2.1=0 then 1 else 8800)=1
   rw[if_pos ⟨h1,h2⟩]
  clear_value bi
  refine a8D enD (fun i e=>enB (bi i) 9 e) (by rw[c6x];omega) (by simp only[j7]) (fun i d hd Q hQ=>?_) (fun es hel hes=>?_)
  ·rw[c6K]at hd
   obtain⟨l,hl,rfl⟩:=c7z.mp hd
   walk_at "sim"
   exact⟨⟨hw,hN2 l (c6J hl)⟩,fun e h1 h2=>hQ e (hbe hl h1 h2)⟩
  rw[c6x]at hel
  walk_at "sim"
  have hcl:clL 58 (bs'.map f9)=true:=a62 fun x hx=>by
   obtain⟨pt,hpt,rfl⟩:=c7k.mp hx
   obtain⟨w,g⟩:=pt
   have:w = "gap" ∨ w = "glass" ∨ w = "stop" := by
    rcases hw.part (w,g) hpt with(h|h)|h
    ·exact .inl h
    ·exact .inr (.inl h)
    ·exact .inr (.inr h.1)
   have c:PyData.canLay0 (.str w)=true:=by rcases this with rfl|rfl|rfl<;>decide +kernel
   show(PyData.canLay0 (.str w) && (cl 57 (d8 g) && true))=true
   rw[c];rfl
  refine A6 (xs:=es) (enc:=enD) (fun _=>D.vl []) (by omega) (by simp only[j7]) (fun e he Q hQ=>?_) ?_
  ·walk_at "sim"
   exact hQ
  have efs:es.map (fun _=>D.vl [])=(es.map fun _=>([]:List En)).map (fun f=>D.vl (f.map enD)):=by rw[c7w];rfl
  rw[efs]
  refine P0 (fun e' M'=>p6 p M4 M'∧∃(fs:List (List En)) (z9 z10 z11 z12 z13:Option D),e'=[some (D.vl (c7i D.int ns)),some (D.int n),some (D.ref p),some (D.tup [d8 near,D.vl (c7i f9 bs'),d8 far]),some (u5 y u),some (D.tup [d8 near,D.vl (c7i f9 bs'),d8 far]),some (d8 (trQ (tbQ (e6 near bs' far)))),some (D.vl (c7i enD es)),some (D.vl (fs.map fun f=>D.vl (f.map enD))),z9,z10,z11,z12,z13]∧fs.length=es.length∧∀ i f,fs[i]? = some f→f.length≤10∧∀ x∈f,enB (bi i) 9 x) ?_ ?_
  ·walk_at "sim"
   have base:p6 p M4 M4∧∃(fs:List (List En)) (z9 z10 z11 z12 z13:Option D),[some (D.vl (c7i D.int ns)),some (D.int n),some (D.ref p),some (D.tup [d8 near,D.vl (c7i f9 bs'),d8 far]),some (u5 y u),some (D.tup [d8 near,D.vl (c7i f9 bs'),d8 far]),some (d8 (trQ (tbQ (e6 near bs' far)))),some (D.vl (c7i enD es)),some (D.vl ((es.map fun _=>([]:List En)).map fun f=>D.vl (f.map enD))),x9,x10,x11,x12,x13]=[some (D.vl (c7i D.int ns)),some (D.int n),some (D.ref p),some (D.tup [d8 near,D.vl (c7i f9 bs'),d8 far]),some (u5 y u),some (D.tup [d8 near,D.vl (c7i f9 bs'),d8 far]),some (d8 (trQ (tbQ (e6 near bs' far)))),some (D.vl (c7i enD es)),some (D.vl (fs.map fun f=>D.vl (f.map enD))),z9,z10,z11,z12,z13]∧fs.length=es.length∧∀ i f,fs[i]? = some f→f.length≤10∧∀ x∈f,enB (bi i) 9 x :=
    ⟨p6.refl s4.pool,_,_,_,_,_,_,rfl,by rw[c6x],fun i f hf=>by
     rw[c6K]at hf
     obtain⟨_,_,rfl⟩:=c7z.mp hf
     exact⟨by decide,fun x hx=>by cases hx⟩⟩
   refine⟨by omega,fun t1=>⟨by omega,fun t2=>⟨⟨hw,cd⟩,?_⟩,fun _=>base⟩,fun _=>base⟩
   refine b2c (fun f:List En=>D.vl (f.map enD)) (fun i (f:List En)=>f.length≤10∧∀ x∈f,enB (bi i) 9 x) (p6 p) (by rw[c6x];omega) (fun _ _=>by simp only[j7]) (p6.refl s4.pool) (fun i d hd M5 s5 Q hQ=>?_) (fun fs M5 hfl hfs s5=>?_)
   ·rw[c6K]at hd
    obtain⟨l,hl,rfl⟩:=c7z.mp hd
    obtain⟨zx,zf⟩:=hN2 l (c6J hl)
    walk_at "sim"
    refine⟨⟨zt,zx,zf,t1,t2⟩,fun l5 hl5=>?_⟩
    obtain⟨f5,n5⟩:=a0e s5 hl5
    refine⟨l5,3,_,rfl,rfl,g6,by decide,by decide,by show 1*3≤sizeLine;decide,fun l6 hl6=>?_⟩
    have s6:=s5.put (o:=.lst [D.tup [D.str (Str.ofString "reach"),d8 (S5 (trQ (tbQ (e6 near bs' far))) l.1 l.2.1)]]) f5 n5
    refine(a0z g6).mpr ?_
    rw[P8 hl6]
    have hz:enB (bi i) 9 (.rat "reach" (S5 (trQ (tbQ (e6 near bs' far))) l.1 l.2.1)):=hbe hl ⟨by decide +kernel,a9u zt zx zf t1 t2⟩ fun h1 h2=>⟨by decide +kernel,by
     rw[h1,h2]
     have:S5 (trQ (tbQ (e6 near bs' far))) 0 0=0:=by unfold S5;grind
     rw[this,RM.F0];decide⟩
    refine hQ [.rat "reach" _,.rat "reach" _,.rat "reach" _] _ ⟨by simp only[c7f,c7o];omega,fun x hx=>?_⟩ s6
    simp only[c6M,c6Q,or_false]at hx
    rcases hx with rfl|rfl|rfl<;>exact hz
   ·rw[c6x]at hfl
    walk_at "sim"
    exact⟨s5,fs,_,_,_,_,_,rfl,by omega,hfs⟩
  ·rintro e' M5 ⟨s5,fs,z9,z10,z11,z12,z13,rfl,hfl,hfs⟩
   have sp:∀ M,B5 M p→B5 M p∧True:=fun M h=>⟨h,trivial⟩
   walk_at "sim"
   have pre:es.length≤30∧fs.length=es.length∧(∀ i,bi i≤8800)∧(∀ i e,es[i]? = some e→enB (bi i) 9 e)∧∀ i f,fs[i]? = some f→f.length≤10∧∀ x∈f,enB (bi i) 9 x:=⟨by omega,hfl,hbi,hes,hfs⟩
   refine⟨s5.pool,es,fs,bi,rfl,rfl,pre,fun e1 M6 g1 s6=>⟨s6.pool,es,fs,bi,rfl,rfl,pre,fun e2 M7 g2 s7=>?_⟩⟩
   let Good:List En→Prop:=fun es'=>es'.length≤31∧(∀ e∈es',enB 8860 10 e)∧(es'.length=es.length→∀ i e,es'[i]? = some e→enB (bi i+60) 10 e)
   have g0:Good es:=⟨by omega,fun e he=>by
    obtain⟨i,hi⟩:=c7M he
    exact(hes i e hi).mono (by have:=hbi i;omega) (by decide),fun _ i e hi=>(hes i e hi).mono (by omega) (by decide)⟩
   have hok:∀ es',Good es'→es'.length≤40∧(∀ e∈es',a4a e)∧(es'.length=(A9 near bs' far y u).length→∀ z∈(A9 near bs' far y u).zip es',z.1.1=0→z.1.2.1=0→c0p z.2)∧clL 59 (es'.map enD)=true:=fun es' ⟨a,b,c⟩=>⟨by omega,fun e he=>by
    have:=b e he
    cases e with
    | one w=>exact this
    | int w n=>exact⟨this.1,p0 this.2 (by decide)⟩
    | rat w q=>exact⟨this.1,c6D this.2 (by decide)⟩,fun hl z hz h1 h2=>by
     obtain⟨i,hi⟩:=c7M hz
     rw[c8S]at hi
     have h3:=c (by omega) i z.2 hi.2
     rw[hbs hi.1 h1 h2]at h3
     cases h4:z.2 with
     | one w=>trivial
     | int w n=>trivial
     | rat w q=>rw[h4]at h3;exact c6D h3.2 (by decide),a62 fun d hd=>by
      obtain⟨e,he,rfl⟩:=c7k.mp hd
      have:=b e he
      cases e with
      | one w=>show(PyData.canLay0 (.str w) && true)=true;rw[show PyData.canLay0 (.str w)=true from this];rfl
      | int w n=>show(PyData.canLay0 (.str w) && (true && true))=true;rw[show PyData.canLay0 (.str w)=true from this.1];rfl
      | rat w q=>show(PyData.canLay0 (.str w) && (cl 57 (d8 q) && true))=true;rw[show PyData.canLay0 (.str w)=true from this.1];rfl⟩
   walk_at "sim"
   refine P1.by (fun i e M'=>M'=M7∧∃(z9 z10 z11 z12 z13:Option D),e=[some (D.vl (c7i D.int ns)),some (D.int n),some (D.ref p),some (D.tup [d8 near,D.vl (c7i f9 bs'),d8 far]),some (u5 y u),some (D.tup [d8 near,D.vl (c7i f9 bs'),d8 far]),some (d8 (trQ (tbQ (e6 near bs' far)))),some (D.vl (c7i enD es)),some (D.vl (fs.map fun f=>D.vl (f.map enD))),z9,z10,z11,z12,z13]) ⟨rfl,_,_,_,_,_,rfl⟩ (fun _ _ _ _ _=>by simp only[j7]) ?_ ?_
   ·rintro j dd e M' hd ⟨rfl,z9,z10,z11,z12,z13,rfl⟩
    obtain⟨es',rfl,hg⟩:∃ es',dd = .vl (es'.map enD)∧Good es':=by
     have hm:=c6J hd
     simp only[c6M,c6Q,or_false]at hm
     rcases hm with rfl|rfl|rfl
     ·exact⟨es,rfl,g0⟩
     ·exact⟨e1,rfl,g1⟩
     ·exact⟨e2,rfl,g2⟩
    obtain⟨q1,q2,q3,q4⟩:=hok es' hg
    walk_at "sim"
    refine⟨near,bs',far,es',rfl,rfl,⟨⟨hw,cd⟩,q1,q2,q3⟩,?_⟩
    generalize hbb:a0N (tbQ (e6 near bs' far)) (A9 near bs' far y u) es'=bb
    walk_at "sim"
    obtain⟨M8,hM8⟩:∃ M8,M8=M':=⟨_,rfl⟩
    refine P1.by (fun i e M''=>M''=M8∧∃(z12 z13:Option D),e=[some (D.vl (c7i D.int ns)),some (D.int n),some (D.ref p),some (D.tup [d8 near,D.vl (c7i f9 bs'),d8 far]),some (u5 y u),some (D.tup [d8 near,D.vl (c7i f9 bs'),d8 far]),some (d8 (trQ (tbQ (e6 near bs' far)))),some (D.vl (c7i enD es)),some (D.vl (fs.map fun f=>D.vl (f.map enD))),some (D.vl (es'.map enD)),some (D.bl bb),some (D.vl (es'.map enD)),z12,z13]) ⟨hM8.symm,_,_,rfl⟩ (fun _ _ _ _ _=>by simp only[j7]) ?_ ?_
    ·rintro j2 dd e M'' hd ⟨rfl,z12,z13,rfl⟩
     have hx:dd = .vl (es'.map enD)∨dd = .tup (es'.map enD):=by
      have hm:=c6J hd
      simp only[c6M,c6Q,or_false]at hm
      exact hm
     rcases hx with rfl|rfl
     all_goals
      walk_at "sim"
      refine⟨near,bs',far,es',rfl,by first|exact .inl rfl|exact .inr rfl,⟨⟨hw,_,cd,by decide⟩,q1,q2⟩,?_⟩
      rw[hbb]
      walk_at "sim"
      exact⟨q4,q4,hcl,hcl,_,_,rfl⟩
    ·rintro e M'' ⟨rfl,z12,z13,rfl⟩
     exact⟨hM8,_,_,_,_,_,rfl⟩
   ·rintro e M' ⟨rfl,z9,z10,z11,z12,z13,rfl⟩
    exact⟨_,_,_,_,_,_,_,_,_,_,_,_,_,rfl⟩
 ·rintro e M' ⟨x1,x2,x3,x4,x5,x6,x7,x8,x9,x10,x11,x12,x13,rfl⟩
  walk_at "sim"
  exact k _
end
end K41
namespace K41
open PySem PySem.Spec L2 DL GM
theorem c0z{P:Program}{w:World}{K:c6v}{mg:Str→Option Value}{fa:Addr}(T:Txt K mg)(hfa:mg "law" = some (.ref fa))(c5I:Df K mg "_law_next" V5 ["pool","base"])(c6f:Df K mg "divisor" a1F ["one","other"])(c5b:Df K mg "is_whole" Q3 ["thing"])(c6d:Df K mg "ratio" a2o ["top","bottom"])(c6n:Df K mg "over" a9c ["one","other"])(c6h:Df K mg "plus" a6b ["one","other"])(c5U:Df K mg "opposite" a0H ["one"])(c6k:Df K mg "minus" a6c ["one","other"])(c5V:Df K mg "_law_odd" a0L ["pool","entry","further_ones"])(c5f:Df K mg "_law_spoilt" O5 ["pool","paper","others"])(c6e:Df K mg "times" a2n ["one","other"])(c5J:Df K mg "number_of" U9 ["p","q","ray"])(c6s:Df K mg "led" b3y ["table","ray"])(c5K:Df K mg "first_two" V1 ["table","ray","lines"])(c6i:Df K mg "less" a6d ["one","other"])(c5W:Df K mg "unsigned" a0D ["one"])(c6o:Df K mg "t_of" a89 ["table"])(c5X:Df K mg "is_ratio" a0J ["thing"])(c5t:Df K mg "kept_right" Q2 ["table","numbers","k"])(c6p:Df K mg "same" a9a ["one","other"])(c5L:Df K mg "tops_over" U6 ["ratios","bottom"])(c4Z:Df K mg "common_bottom" J3 ["ratios"])(c6l:Df K mg "swing" a59 ["t","x","later"])(c5Y:Df K mg "reach_by" a0G ["t","x","later"])(c4Y:Df K mg "rounds_to_self" F6 ["table"])(c5M:Df K mg "kind_word" V0 ["table"])(c5g:Df K mg "reach_right" O1 ["table","numbers","s"])(c5u:Df K mg "next_state" Q0 ["t","state"])(c5h:Df K mg "first_state" O4 ["t","x","later","r"])(c5i:Df K mg "stop_within" N8 ["t","numbers","watched","rounds"])(c5j:Df K mg "round_right" N9 ["table","numbers","n"])(c5v:Df K mg "line_right" Q1 ["table","numbers","shown"])(c5w:Df K mg "by_columns" Q7 ["first","second"])(c5k:Df K mg "led_by_part" O3 ["part","ray"])(c5Z:Df K mg "table_of" a0E ["bench"])(c5c:Df K mg "turned_bench" L0 ["bench"])(c5l:Df K mg "round_bench" O0 ["hall"])(c6a:Df K mg "round_of" a0F ["hall"])(c6b:Df K mg "lines_of" a0I ["bench"])(c5x:Df K mg "hall_lines" Q5 ["hall"])(c5m:Df K mg "never_shown" O2 ["hall","ray","paper"])(c5n:Df K mg "_law_beyond" O8 ["x","r"])(c5y:Df K mg "_law_reach" R1 ["t","x","further"])(c5z:Df K mg "_law_parts" R3 ["hall"])(c5N:Df K mg "_law_part" V4 ["part","ray"])(c5A:Df K mg "_law_round" R0 ["hall","ray"])(c5O:Df K mg "_law_same" V2 ["hall"])(c5d:Df K mg "_law_turning" L1 ["hall","t"])(c5B:Df K mg "_law_march" R4 ["t","x","further","r","rounds"])(c4R:Df K mg "_law_entry_shown" E5 ["hall","t","x","further","r","entry"])(c6j:Df K mg "_law_t" a3v ["hall"])(c5C:Df K mg "_law_lines" R5 ["hall"])(c5e:Df K mg "_law_numbers" L3 ["hall","ray"])(c4S:Df K mg "_law_paper_shown" E4 ["hall","ray","paper"])(c5D:Df K mg "_law_entry" R6 ["hall","t","x","further"])(c4T:Df K mg "_law_whole_root" F2 ["number"])(c6m:Df K mg "reach" a6a ["hall","ray","p","q"])(c5E:Df K mg "floor_root" Q6 ["number"])(c6q:Df K mg "root" a9b ["one"])(c5P:Df K mg "shrinking" U7 ["t"])(c5Q:Df K mg "ray_along" U8 ["table"])(c6g:Df K mg "form_of" a1E ["table"])(c6r:Df K mg "kind" a9d ["hall"])(c5F:Df K mg "_law_tight" Q8 ["pool","hall","ray"])(c5o:Df K mg "_law_scaled" O6 ["ray","factor"])(c5G:Df K mg "_law_along" R7 ["hall","other"])(c4U:Df K mg "_law_ratio" J9 ["pool","tops","bottoms"])(c6c:Df K mg "_law_ray" a0K ["pool","hall"])(c5H:Df K mg "_law_stops" Q9 ["pool","parts","count"])(c5p:Df K mg "_law_pieces" O7 ["pool","gap"])(c4V:Df K mg "_law_known_hall" F3 ["pool"])(c5R:Df K mg "_law_hall" V6 ["pool"])(c5S:Df K mg "_law_pool" V3 ["cell"])(c6t:DfL K mg "law" b3z ["script"]) :
  ∃ fd:FuncData,(∀(s:Shared) (u:Value),BindsTo s fd ⟨[u],[]⟩ [("script",u)])∧∀ base:Heap,U2 P w K mg base CX0 11 fa fd ["script"] (a7L K b0H):=by
 obtain⟨f,fd,F,hm,hb⟩:=c6t.ex
 have e:f=fa:=by rw[hm]at hfa;injection hfa with z;injection z
 subst e
 refine⟨fd,fun s u=>.of_eq (hb [u] rfl),fun base=>?_⟩
 have c3x:=a6N (P:=P) (w:=w) (base:=base) T c5I
 have c3P:=a9C (P:=P) (w:=w) (base:=base) T c6f
 have c3E:=a8h (P:=P) (w:=w) (base:=base) T c5b
 have c3C:=b4b (P:=P) (w:=w) (base:=base) T c6d c3E c3P
 have c3Q:=b7c (P:=P) (w:=w) (base:=base) T c6n c3C
 have c3B:=b7b (P:=P) (w:=w) (base:=base) T c6h c3C
 have c3G:=a8f (P:=P) (w:=w) (base:=base) T c5U
 have c3z:=b4c (P:=P) (w:=w) (base:=base) T c6k c3B c3G
 have c4N:=a8k (P:=P) (w:=w) (base:=base) T c5V c3x c3Q c3z c3B c3C
 have c4s:=a3R (P:=P) (w:=w) (base:=base) T c5f c4N c3x
 have c3y:=b3Y (P:=P) (w:=w) (base:=base) T c6e c3C
 have c3W:=a6H (P:=P) (w:=w) (base:=base) T c5J c3B c3y
 have c5q:=b92 (P:=P) (w:=w) (base:=base) T c6s c3B c3y
 have c4H:=a6J (P:=P) (w:=w) (base:=base) T c5K c3W c5q
 have c3V:=b7d (P:=P) (w:=w) (base:=base) T c6i
 have c3X:=a79 (P:=P) (w:=w) (base:=base) T c5W
 have c4p:=a8e (P:=P) (w:=w) (base:=base) T c6d c3P c3E
 have c4M:=a9z (P:=P) (w:=w) (base:=base) T c6h c4p
 have c3R:=a8a (P:=P) (w:=w) (base:=base) T c6e c4p
 have c3H:=b6Y (P:=P) (w:=w) (base:=base) T c6o c3B
 have c3I:=a8i (P:=P) (w:=w) (base:=base) T c5X c3P c3E
 have c4l:=a4x (P:=P) (w:=w) (base:=base) T c5t c3V c3X c3y c4M c3R c3H c3I
 have c3U:=a9A (P:=P) (w:=w) (base:=base) T c6i
 have c5s:=b6Z (P:=P) (w:=w) (base:=base) T c6p
 have c4k:=a6E (P:=P) (w:=w) (base:=base) T c5L
 have c3T:=a1L (P:=P) (w:=w) (base:=base) T c4Z c3P
 have c5r:=b3Z (P:=P) (w:=w) (base:=base) T c6l c4k c3T
 have c4h:=a8d (P:=P) (w:=w) (base:=base) T c5Y c5r
 have c3D:=a1l (P:=P) (w:=w) (base:=base) T c4Y c3G c3H
 have c4a:=a6I (P:=P) (w:=w) (base:=base) T c5M c3V c3X c3H c3D
 have c4e:=a3M (P:=P) (w:=w) (base:=base) T c5g c3U c3y c5s c4h c3H c4a c3I
 have c4B:=a4v (P:=P) (w:=w) (base:=base) T c5u
 have c4x:=a3Q (P:=P) (w:=w) (base:=base) T c5h c4k c3T
 have c4q:=a3J (P:=P) (w:=w) (base:=base) T c5i c4B c4x
 have c4r:=a3P (P:=P) (w:=w) (base:=base) T c5b
 have c4f:=a3K (P:=P) (w:=w) (base:=base) T c5j c4q c3H c3D c4r
 have c4D:=a4w (P:=P) (w:=w) (base:=base) T c5v c4l c4e c4f
 have c4C:=a4A (P:=P) (w:=w) (base:=base) T c5w
 have c3N:=a3O (P:=P) (w:=w) (base:=base) T c5k c3z c3y c3B
 have c4O:=a8b (P:=P) (w:=w) (base:=base) T c5Z c4C c3N
 have c4w:=a2g (P:=P) (w:=w) (base:=base) T c5c
 have c3Z:=a3L (P:=P) (w:=w) (base:=base) T c5l c4w
 have c3M:=a8c (P:=P) (w:=w) (base:=base) T c6a c4O c3Z
 have c4P:=a8g (P:=P) (w:=w) (base:=base) T c6b c3N
 have c4c:=a4y (P:=P) (w:=w) (base:=base) T c5x c4P c3Z
 have c4z:=a3N (P:=P) (w:=w) (base:=base) T c5m c4H c4D c3M c4c
 have c3O:=a3U (P:=P) (w:=w) (base:=base) T c5n
 have c3F:=a4E (P:=P) (w:=w) (base:=base) T c5y c3Q c3z c3y c3B
 have c4d:=a4G (P:=P) (w:=w) (base:=base) T c5z
 have c4b:=a6M (P:=P) (w:=w) (base:=base) T c5N c3z c3y c3B
 have c3J:=a4D (P:=P) (w:=w) (base:=base) T c5A c4d c4b
 have c3K:=a6K (P:=P) (w:=w) (base:=base) T c5O c3J
 have c3L:=a2h (P:=P) (w:=w) (base:=base) T c5d c3K c3V
 have c4m:=a4H (P:=P) (w:=w) (base:=base) T c5B
 have c4i:=a0m (P:=P) (w:=w) (base:=base) T c4R c3B c3Q c3R c3O c3I c3U c3y c3F c3L c4m c3K
 have c4A:=b1J (P:=P) (w:=w) (base:=base) T c6j c3B c3J
 have c4E:=a4I (P:=P) (w:=w) (base:=base) T c5C c4d c4b
 have c3S:=a2i (P:=P) (w:=w) (base:=base) T c5e c4E c3B c3y c3J
 have c4j:=a0l (P:=P) (w:=w) (base:=base) T c4S c4i c4A c3S
 have c4F:=a4J (P:=P) (w:=w) (base:=base) T c5D c3Q c3L c3F c3K
 have c4n:=a0O (P:=P) (w:=w) (base:=base) T c4T
 have c5a:=b4a (P:=P) (w:=w) (base:=base) T c6m c3C c4h c3W c5q c3H c3M
 have c4u:=a4z (P:=P) (w:=w) (base:=base) T c5E
 have c5T:=b7a (P:=P) (w:=w) (base:=base) T c6q c4u
 have c4I:=a6F (P:=P) (w:=w) (base:=base) T c5P c3Q c3z c3V c3G c5T c3y
 have c4J:=a6G (P:=P) (w:=w) (base:=base) T c5Q c3z c3Q c3H
 have c4W:=a9B (P:=P) (w:=w) (base:=base) T c6g c3G c3z
 have c4X:=b7e (P:=P) (w:=w) (base:=base) T c6r c4I c3H c4J c4W c3D c4a c3M
 have c4G:=a4B (P:=P) (w:=w) (base:=base) T c5F c3C c3x c4n c4c c3U c5a c4X
 have c4g:=a3S (P:=P) (w:=w) (base:=base) T c5o c3y
 have c4v:=a4K (P:=P) (w:=w) (base:=base) T c5G c3z c3Q c4X c3M
 have c4t:=a1M (P:=P) (w:=w) (base:=base) T c4U c3C c3x
 have c3A:=a4F (P:=P) (w:=w) (base:=base) T c4U c3C c3x
 have c4Q:=a8j (P:=P) (w:=w) (base:=base) T c6c c4g c3B c3x c4v c4t c3A
 have c3Y:=a4C (P:=P) (w:=w) (base:=base) T c5H c3x c3A
 have c4y:=a3T (P:=P) (w:=w) (base:=base) T c5p c3z c3C c3x
 have c4o:=a0P (P:=P) (w:=w) (base:=base) T c4V c3C c3Y c4y c3A c3x
 have c4K:=a6O (P:=P) (w:=w) (base:=base) T c5R c3A c3Y c3x c3z c4o
 have c4L:=a6L (P:=P) (w:=w) (base:=base) T c5S
 exact b93 T F c4s c4z c4j c3V c3S c3F c4F c4A c4G c4Q c4K c4L
theorem c2G{l:PySem.W.OpenLaw}{q:Program}{loose:List Str}{XP:(Str→Option Value)→Heap→Prop}{YP:World→Heap→Prop}{d:DefRec}{K:Params→c6v}(hn:l.most=some 63)(hdf:d.params.defaults=[])
  (hY:∀(w:World) (h:Heap),YP w h→(K w.params).In h)
  (F:∀(w:World) (mg:Str→Option Value) (fa:Addr) (h:Heap),(K w.params).In h→h.Ns mainGlobals mg→mg d.name=some (.ref fa) →
   ∃ fd:FuncData,(∀(s:Shared) (u:Value),BindsTo s fd ⟨[u],[]⟩ [("script",u)])∧∀ base:Heap,U2 l.prog w (K w.params) mg base CX0 11 fa fd ["script"] (a7L (K w.params) b0H)) :
  PySem.W.WalkO q loose XP YP l.row.toRowW d [] (fun f vs=>PySem.call f vs) :=
 L2.b3h (n:=63) (k:=11) (x := "script") (CX:=CX0) (sp:=fun K=>a7L K b0H) hn (by decide) hdf ⟨rfl,by decide,by decide⟩ hY (fun w mg fa h a b c=>let ⟨fd,h1,h2⟩:=F w mg fa h a b c;⟨fd,h1,fun base _ _=>h2 base⟩)
  (fun K H a ns hl hO hS=>b99 hO hS ⟨ns,rfl,hl,fun _=>rfl⟩) fun _ _ _ _ z=>z
end K41
namespace PySem.W.Fast
theorem te1969250462789562026:True:=trivial
theorem tw5325802866026449307:True:=⟨⟩
theorem tw2418896596530384829:True:=⟨⟩
theorem tw13200585282893991838:True:=⟨⟩
theorem tw11106116115313493295:True:=⟨⟩
theorem tw17916807572945120343:True:=⟨⟩
theorem tw6290208516048653715:True:=⟨⟩
theorem tw7428931969047170237:True:=⟨⟩
theorem tw15597824720544788571:True:=⟨⟩
theorem tw14733230102393795537:True:=⟨⟩
theorem tw4755496115625882546:True:=⟨⟩
theorem tw6622945926919169956:True:=⟨⟩
theorem tw769973797505460055:True:=⟨⟩
theorem tw13515649613269327849:True:=⟨⟩
theorem tw17170088779692683871:True:=⟨⟩
theorem tw5901420290355501832:True:=⟨⟩
theorem tw16974240643605342057:True:=⟨⟩
theorem tw10546657757594518192:True:=⟨⟩
theorem tw5900011287298085518:True:=⟨⟩
theorem tw7912280437106878960:True:=⟨⟩
theorem tw5633758343538191677:True:=⟨⟩
theorem tw4211361192924205226:True:=⟨⟩
theorem tw16753099138743438004:True:=⟨⟩
theorem tw4461180242164223534:True:=⟨⟩
theorem tw50972502216488400:True:=⟨⟩
theorem tw13051836092944671834:True:=⟨⟩
theorem tw13025186529033026116:True:=⟨⟩
theorem tw13402759501847103322:True:=⟨⟩
theorem tw7389581953625421237:True:=⟨⟩
theorem tw5739153266501507212:True:=⟨⟩
theorem tw16714077161839374776:True:=⟨⟩
theorem tw16039595799283711297:True:=⟨⟩
theorem tw5239788659832158094:True:=⟨⟩
theorem tw17070166429746570625:True:=⟨⟩
theorem tw3885839852532719324:True:=⟨⟩
theorem tw17095164020238318388:True:=⟨⟩
theorem tw11342308596488309782:True:=⟨⟩
theorem tw13065536661497489467:True:=⟨⟩
theorem tw3539919778063429545:True:=⟨⟩
theorem tw7986036032470585773:True:=⟨⟩
theorem tw11543426750630726763:True:=⟨⟩
theorem tw4700934310494720469:True:=⟨⟩
theorem tw10592045375340388228:True:=⟨⟩
theorem tw12569147399934019442:True:=⟨⟩
theorem tw17882613562095397424:True:=⟨⟩
theorem tw15516394184069687858:True:=⟨⟩
theorem tw448372849511419370:True:=⟨⟩
theorem tw6972201150231753496:True:=⟨⟩
theorem tw15594003838732452682:True:=⟨⟩
theorem tw17979061618891540409:True:=⟨⟩
theorem tw12079168631246106702:True:=⟨⟩
theorem tw6412700750391548868:True:=⟨⟩
theorem tw17362712807397712487:True:=⟨⟩
theorem tw9606241507286753696:True:=⟨⟩
theorem tw6011140870961024042:True:=⟨⟩
theorem tw18421783194240881691:True:=⟨⟩
theorem tw12678242398802853476:True:=⟨⟩
theorem tw11854461170682381420:True:=⟨⟩
theorem tw1060500763213399003:True:=⟨⟩
theorem tw18038058668193016348:True:=⟨⟩
theorem tw433280661152178499:True:=⟨⟩
theorem tw1888556679880262778:True:=⟨⟩
theorem tw7693810649142370242:True:=⟨⟩
theorem tw2513729887573074669:True:=⟨⟩
theorem tw3631766697339216002:True:=⟨⟩
theorem tw8719144300194979146:True:=⟨⟩
theorem tw2807914217458425662:True:=⟨⟩
theorem tw18230827661301682446:True:=⟨⟩
theorem tw12844958504213196244:True:=⟨⟩
theorem tw1592171248161176098:True:=⟨⟩
theorem tw12326973329061937334:True:=⟨⟩
theorem tw94445771030947787:True:=⟨⟩
theorem tw14233487789304782958:True:=⟨⟩
theorem tw2936060357041288976:True:=⟨⟩
theorem tw8489826831301751417:True:=⟨⟩
theorem tw501901563568575677:True:=⟨⟩
theorem tw5452618914032540316:True:=⟨⟩
theorem tw1632046170114025297:True:=⟨⟩
theorem tw7892558229477723283:True:=⟨⟩
theorem tw13978918887967610405:True:=⟨⟩
theorem tw462859599525496187:True:=⟨⟩
theorem tw4014972757313940247:True:=⟨⟩
theorem tw3556424648113676167:True:=⟨⟩
theorem tw11422489354618748511:True:=⟨⟩
theorem tw11895402658482376397:True:=⟨⟩
theorem tw11018893245729998752:True:=⟨⟩
theorem tw16692895927290066024:True:=⟨⟩
theorem tw6816503083009709433:True:=⟨⟩
theorem tw6815458404638518621:True:=⟨⟩
theorem tw7535664167245273954:True:=⟨⟩
theorem tw4267856913453758177:True:=⟨⟩
theorem tw854406155658511990:True:=⟨⟩
theorem tw13149551324961848388:True:=⟨⟩
theorem tw12746465490315259542:True:=⟨⟩
theorem tw12225215791560519886:True:=⟨⟩
theorem tw5227711119015227608:True:=⟨⟩
theorem tw5177646198080054063:True:=⟨⟩
theorem tw14533227386005813327:True:=⟨⟩
theorem tw9915281967853178922:True:=⟨⟩
theorem tw8395500685079916824:True:=⟨⟩
theorem tw15144815041726146849:True:=⟨⟩
theorem tw7497520570274300061:True:=⟨⟩
theorem tw17947679884055302770:True:=⟨⟩
theorem tw10511889863773271852:True:=⟨⟩
theorem tw885990760704089676:True:=⟨⟩
theorem tw4450435265575797466:True:=⟨⟩
theorem tw14707657139783338882:True:=⟨⟩
theorem tw10747968291968179742:True:=⟨⟩
theorem tw10539414664082992572:True:=⟨⟩
theorem tw4783937786349991743:True:=⟨⟩
theorem tw16280392091070598157:True:=⟨⟩
theorem tw8860812387808361836:True:=⟨⟩
theorem tw9590268121791887732:True:=⟨⟩
theorem tw5399793644432026789:True:=⟨⟩
theorem tw4622438316047539478:True:=⟨⟩
theorem tw14987801474770208604:True:=⟨⟩
theorem tw11154214439411222969:True:=⟨⟩
theorem tw18223606376146258797:True:=⟨⟩
theorem tw7361626585162400064:True:=⟨⟩
theorem tw9035168786376312339:True:=⟨⟩
theorem tw6377095965141109114:True:=⟨⟩
theorem tw14119182691471451798:True:=⟨⟩
theorem tw2017158780820924495:True:=⟨⟩
theorem tw14956447437116699479:True:=⟨⟩
theorem tw10216170286726795231:True:=⟨⟩
theorem tw2137869162935526965:True:=⟨⟩
theorem tw9761953125054777030:True:=⟨⟩
theorem tw14814500478971273173:True:=⟨⟩
theorem tw17622619488180144846:True:=⟨⟩
theorem tw4280216206965192236:True:=⟨⟩
theorem tw949497613471494327:True:=⟨⟩
theorem tw5962235291943226613:True:=⟨⟩
theorem tw7989112680953040947:True:=⟨⟩
theorem tw2379016481020792158:True:=⟨⟩
theorem tw2474134862482680033:True:=⟨⟩
theorem tw9265852266301327469:True:=⟨⟩
theorem tw6911538968987882321:True:=⟨⟩
theorem tw10919378844046889458:True:=⟨⟩
theorem tw2113471594187992202:True:=⟨⟩
theorem tw3039726316684933287:True:=⟨⟩
theorem tw7906518324379886960:True:=⟨⟩
theorem tw3316554111961689504:True:=⟨⟩
theorem tw11509829683047966990:True:=⟨⟩
theorem tw11400934730243786260:True:=⟨⟩
theorem tw18275343519830613671:True:=⟨⟩
theorem tw3550487661213967076:True:=⟨⟩
theorem tw10724519821773804196:True:=⟨⟩
theorem tw6574838683890518386:True:=⟨⟩
theorem tw10532302605851704775:True:=⟨⟩
theorem tw7387892968484756244:True:=⟨⟩
theorem tw14023417186887713541:True:=⟨⟩
theorem tw17882603603330753956:True:=⟨⟩
theorem tw15180927941215879176:True:=⟨⟩
theorem tw4251916134790710755:True:=⟨⟩
theorem tw13823750820217268162:True:=⟨⟩
theorem tw5012408321735274192:True:=⟨⟩
theorem tw3362227418145709518:True:=⟨⟩
theorem tw5654410011646828733:True:=⟨⟩
theorem tw8940753589430010798:True:=⟨⟩
theorem tw12585427796868325758:True:=⟨⟩
theorem tw13374508445477447788:True:=⟨⟩
theorem tw9498574475765458153:True:=⟨⟩
theorem tw9054672048899519100:True:=⟨⟩
theorem tw9578020482559361423:True:=⟨⟩
theorem tw6580291644395439354:True:=⟨⟩
theorem tw2883469815828645275:True:=⟨⟩
theorem tw8338491609575254183:True:=⟨⟩
theorem tw551050253022565015:True:=⟨⟩
theorem tw9869148514170766180:True:=⟨⟩
theorem tw6393788678973563267:True:=⟨⟩
theorem tw3474351231204002207:True:=⟨⟩
theorem tw13025538728833647128:True:=⟨⟩
theorem tw1375745104408491571:True:=⟨⟩
theorem tw2931546612404114669:True:=⟨⟩
theorem tw10264833250660440854:True:=⟨⟩
end PySem.W.Fast
open PySem PySem.W PyProof.Rows
set_option maxRecDepth 100000 in
set_option maxHeartbeats 0 in
theorem PySem.Challenge.cw_roundglass_k41_papers_of_never_judged_holds : PySem.Challenge.rw_roundglass_k41_papers_of_never_judged.Holds := by
 w_on;o_law;k_head;(case hw=>w_witness2)
 k_fill
 refine K41.c2G (l:=PySem.Challenge.rw_roundglass_k41_papers_of_never_judged) rfl rfl (fun w h Y=>PySem.W.kIn_of Y) ?F
 case F =>
  intro w mg fa h KX G hmg
  refine' K41.c0z ⟨PySem.W.mg_none_of KX G ?z_abs,PySem.W.mg_none_of KX G ?z_all,PySem.W.mg_none_of KX G ?z_bool,PySem.W.mg_none_of KX G ?z_enumerate,PySem.W.mg_none_of KX G ?z_int,PySem.W.mg_none_of KX G ?z_isinstance,PySem.W.mg_none_of KX G ?z_len,PySem.W.mg_none_of KX G ?z_list,PySem.W.mg_none_of KX G ?z_max,PySem.W.mg_none_of KX G ?z_range,PySem.W.mg_none_of KX G ?z_reversed,PySem.W.mg_none_of KX G ?z_tuple,PySem.W.mg_none_of KX G ?z_zip,DL.c1s _,DL.b4x KX G ?c0_AXIS_RAY ?c1_AXIS_RAY ?c2_AXIS_RAY ?c3_AXIS_RAY,DL.a2H KX G ?c0_FOUR ?c1_FOUR,DL.b4x KX G ?c0_LEVEL_RAY ?c1_LEVEL_RAY ?c2_LEVEL_RAY ?c3_LEVEL_RAY,DL.a2H KX G ?c0_NOUGHT ?c1_NOUGHT,DL.a2H KX G ?c0_ONE ?c1_ONE,DL.c0j KX G ?c0_SELF ?c1_SELF ?c2_SELF ?c3_SELF ?c4_SELF ?c5_SELF,DL.a2H KX G ?c0_TWO ?c1_TWO⟩ hmg (DL.i5 KX G ?n0 ?l0 ?c0 ?k0 ?b0) (DL.i5 KX G ?n1 ?l1 ?c1 ?k1 ?b1) (DL.i5 KX G ?n2 ?l2 ?c2 ?k2 ?b2) (DL.c0r KX G ?n3 ?l3 ?c3 ?k3 ?b3) (DL.i5 KX G ?n4 ?l4 ?c4 ?k4 ?b4) (DL.i5 KX G ?n5 ?l5 ?c5 ?k5 ?b5) (DL.i5 KX G ?n6 ?l6 ?c6 ?k6 ?b6) (DL.i5 KX G ?n7 ?l7 ?c7 ?k7 ?b7) (DL.i5 KX G ?n8 ?l8 ?c8 ?k8 ?b8) (DL.i5 KX G ?n9 ?l9 ?c9 ?k9 ?b9) (DL.i5 KX G ?n10 ?l10 ?c10 ?k10 ?b10) (DL.i5 KX G ?n11 ?l11 ?c11 ?k11 ?b11) (DL.i5 KX G ?n12 ?l12 ?c12 ?k12 ?b12) (DL.i5 KX G ?n13 ?l13 ?c13 ?k13 ?b13) (DL.i5 KX G ?n14 ?l14 ?c14 ?k14 ?b14) (DL.i5 KX G ?n15 ?l15 ?c15 ?k15 ?b15) (DL.i5 KX G ?n16 ?l16 ?c16 ?k16 ?b16) (DL.i5 KX G ?n17 ?l17 ?c17 ?k17 ?b17) (DL.i5 KX G ?n18 ?l18 ?c18 ?k18 ?b18) (DL.i5 KX G ?n19 ?l19 ?c19 ?k19 ?b19) (DL.i5 KX G ?n20 ?l20 ?c20 ?k20 ?b20) (DL.i5 KX G ?n21 ?l21 ?c21 ?k21 ?b21) (DL.i5 KX G ?n22 ?l22 ?c22 ?k22 ?b22) (DL.i5 KX G ?n23 ?l23 ?c23 ?k23 ?b23) (DL.i5 KX G ?n24 ?l24 ?c24 ?k24 ?b24) (DL.i5 KX G ?n25 ?l25 ?c25 ?k25 ?b25) (DL.i5 KX G ?n26 ?l26 ?c26 ?k26 ?b26) (DL.i5 KX G ?n27 ?l27 ?c27 ?k27 ?b27) (DL.i5 KX G ?n28 ?l28 ?c28 ?k28 ?b28) (DL.i5 KX G ?n29 ?l29 ?c29 ?k29 ?b29) (DL.i5 KX G ?n30 ?l30 ?c30 ?k30 ?b30) (DL.i5 KX G ?n31 ?l31 ?c31 ?k31 ?b31) (DL.i5 KX G ?n32 ?l32 ?c32 ?k32 ?b32) (DL.i5 KX G ?n33 ?l33 ?c33 ?k33 ?b33) (DL.i5 KX G ?n34 ?l34 ?c34 ?k34 ?b34) (DL.i5 KX G ?n35 ?l35 ?c35 ?k35 ?b35) (DL.i5 KX G ?n36 ?l36 ?c36 ?k36 ?b36) (DL.i5 KX G ?n37 ?l37 ?c37 ?k37 ?b37) (DL.i5 KX G ?n38 ?l38 ?c38 ?k38 ?b38) (DL.i5 KX G ?n39 ?l39 ?c39 ?k39 ?b39) (DL.i5 KX G ?n40 ?l40 ?c40 ?k40 ?b40) (DL.i5 KX G ?n41 ?l41 ?c41 ?k41 ?b41) (DL.i5 KX G ?n42 ?l42 ?c42 ?k42 ?b42) (DL.i5 KX G ?n43 ?l43 ?c43 ?k43 ?b43) (DL.i5 KX G ?n44 ?l44 ?c44 ?k44 ?b44) (DL.i5 KX G ?n45 ?l45 ?c45 ?k45 ?b45) (DL.i5 KX G ?n46 ?l46 ?c46 ?k46 ?b46) (DL.i5 KX G ?n47 ?l47 ?c47 ?k47 ?b47) (DL.i5 KX G ?n48 ?l48 ?c48 ?k48 ?b48) (DL.i5 KX G ?n49 ?l49 ?c49 ?k49 ?b49) (DL.i5 KX G ?n50 ?l50 ?c50 ?k50 ?b50) (DL.i5 KX G ?n51 ?l51 ?c51 ?k51 ?b51) (DL.i5 KX G ?n52 ?l52 ?c52 ?k52 ?b52) (DL.i5 KX G ?n53 ?l53 ?c53 ?k53 ?b53) (DL.i5 KX G ?n54 ?l54 ?c54 ?k54 ?b54) (DL.i5 KX G ?n55 ?l55 ?c55 ?k55 ?b55) (DL.i5 KX G ?n56 ?l56 ?c56 ?k56 ?b56) (DL.i5 KX G ?n57 ?l57 ?c57 ?k57 ?b57) (DL.i5 KX G ?n58 ?l58 ?c58 ?k58 ?b58) (DL.i5 KX G ?n59 ?l59 ?c59 ?k59 ?b59) (DL.i5 KX G ?n60 ?l60 ?c60 ?k60 ?b60) (DL.i5 KX G ?n61 ?l61 ?c61 ?k61 ?b61) (DL.i5 KX G ?n62 ?l62 ?c62 ?k62 ?b62) (DL.i5 KX G ?n63 ?l63 ?c63 ?k63 ?b63) (DL.i5 KX G ?n64 ?l64 ?c64 ?k64 ?b64) (DL.i5 KX G ?n65 ?l65 ?c65 ?k65 ?b65) (DL.i5 KX G ?n66 ?l66 ?c66 ?k66 ?b66) (DL.i5 KX G ?n67 ?l67 ?c67 ?k67 ?b67) (DL.i5 KX G ?n68 ?l68 ?c68 ?k68 ?b68) (DL.i5 KX G ?n69 ?l69 ?c69 ?k69 ?b69) (DL.i5 KX G ?n70 ?l70 ?c70 ?k70 ?b70) (DL.i5 KX G ?n71 ?l71 ?c71 ?k71 ?b71) (DL.i5 KX G ?n72 ?l72 ?c72 ?k72 ?b72) (DL.c0q KX G ?n73 ?l73 ?c73 ?k73 ?b73)
  (case n0=>k_is);(case l0=>k_is);(case c0=>k_is);(case k0=>k_is);(case b0=>(intro us hl;exact match us,hl with|[_,_],_=>rfl))
  (case n1=>k_is);(case l1=>k_is);(case c1=>k_is);(case k1=>k_is);(case b1=>(intro us hl;exact match us,hl with|[_,_],_=>rfl))
  (case n2=>k_is);(case l2=>k_is);(case c2=>k_is);(case k2=>k_is);(case b2=>(intro us hl;exact match us,hl with|[_],_=>rfl))
  (case n3=>k_is);(case l3=>k_is);(case c3=>k_is);(case k3=>k_is);(case b3=>(intro us hl S;exact match us,hl with|[_,_],_=>rfl))
  (case n4=>k_is);(case l4=>k_is);(case c4=>k_is);(case k4=>k_is);(case b4=>(intro us hl;exact match us,hl with|[_,_],_=>rfl))
  (case n5=>k_is);(case l5=>k_is);(case c5=>k_is);(case k5=>k_is);(case b5=>(intro us hl;exact match us,hl with|[_,_],_=>rfl))
  (case n6=>k_is);(case l6=>k_is);(case c6=>k_is);(case k6=>k_is);(case b6=>(intro us hl;exact match us,hl with|[_],_=>rfl))
  (case n7=>k_is);(case l7=>k_is);(case c7=>k_is);(case k7=>k_is);(case b7=>(intro us hl;exact match us,hl with|[_,_],_=>rfl))
  (case n8=>k_is);(case l8=>k_is);(case c8=>k_is);(case k8=>k_is);(case b8=>(intro us hl;exact match us,hl with|[_,_,_],_=>rfl))
  (case n9=>k_is);(case l9=>k_is);(case c9=>k_is);(case k9=>k_is);(case b9=>(intro us hl;exact match us,hl with|[_,_,_],_=>rfl))
  (case n10=>k_is);(case l10=>k_is);(case c10=>k_is);(case k10=>k_is);(case b10=>(intro us hl;exact match us,hl with|[_,_],_=>rfl))
  (case n11=>k_is);(case l11=>k_is);(case c11=>k_is);(case k11=>k_is);(case b11=>(intro us hl;exact match us,hl with|[_,_,_],_=>rfl))
  (case n12=>k_is);(case l12=>k_is);(case c12=>k_is);(case k12=>k_is);(case b12=>(intro us hl;exact match us,hl with|[_,_],_=>rfl))
  (case n13=>k_is);(case l13=>k_is);(case c13=>k_is);(case k13=>k_is);(case b13=>(intro us hl;exact match us,hl with|[_,_,_],_=>rfl))
  (case n14=>k_is);(case l14=>k_is);(case c14=>k_is);(case k14=>k_is);(case b14=>(intro us hl;exact match us,hl with|[_,_],_=>rfl))
  (case n15=>k_is);(case l15=>k_is);(case c15=>k_is);(case k15=>k_is);(case b15=>(intro us hl;exact match us,hl with|[_],_=>rfl))
  (case n16=>k_is);(case l16=>k_is);(case c16=>k_is);(case k16=>k_is);(case b16=>(intro us hl;exact match us,hl with|[_],_=>rfl))
  (case n17=>k_is);(case l17=>k_is);(case c17=>k_is);(case k17=>k_is);(case b17=>(intro us hl;exact match us,hl with|[_],_=>rfl))
  (case n18=>k_is);(case l18=>k_is);(case c18=>k_is);(case k18=>k_is);(case b18=>(intro us hl;exact match us,hl with|[_,_,_],_=>rfl))
  (case n19=>k_is);(case l19=>k_is);(case c19=>k_is);(case k19=>k_is);(case b19=>(intro us hl;exact match us,hl with|[_,_],_=>rfl))
  (case n20=>k_is);(case l20=>k_is);(case c20=>k_is);(case k20=>k_is);(case b20=>(intro us hl;exact match us,hl with|[_,_],_=>rfl))
  (case n21=>k_is);(case l21=>k_is);(case c21=>k_is);(case k21=>k_is);(case b21=>(intro us hl;exact match us,hl with|[_],_=>rfl))
  (case n22=>k_is);(case l22=>k_is);(case c22=>k_is);(case k22=>k_is);(case b22=>(intro us hl;exact match us,hl with|[_,_,_],_=>rfl))
  (case n23=>k_is);(case l23=>k_is);(case c23=>k_is);(case k23=>k_is);(case b23=>(intro us hl;exact match us,hl with|[_,_,_],_=>rfl))
  (case n24=>k_is);(case l24=>k_is);(case c24=>k_is);(case k24=>k_is);(case b24=>(intro us hl;exact match us,hl with|[_],_=>rfl))
  (case n25=>k_is);(case l25=>k_is);(case c25=>k_is);(case k25=>k_is);(case b25=>(intro us hl;exact match us,hl with|[_],_=>rfl))
  (case n26=>k_is);(case l26=>k_is);(case c26=>k_is);(case k26=>k_is);(case b26=>(intro us hl;exact match us,hl with|[_,_,_],_=>rfl))
  (case n27=>k_is);(case l27=>k_is);(case c27=>k_is);(case k27=>k_is);(case b27=>(intro us hl;exact match us,hl with|[_,_],_=>rfl))
  (case n28=>k_is);(case l28=>k_is);(case c28=>k_is);(case k28=>k_is);(case b28=>(intro us hl;exact match us,hl with|[_,_,_,_],_=>rfl))
  (case n29=>k_is);(case l29=>k_is);(case c29=>k_is);(case k29=>k_is);(case b29=>(intro us hl;exact match us,hl with|[_,_,_,_],_=>rfl))
  (case n30=>k_is);(case l30=>k_is);(case c30=>k_is);(case k30=>k_is);(case b30=>(intro us hl;exact match us,hl with|[_,_,_],_=>rfl))
  (case n31=>k_is);(case l31=>k_is);(case c31=>k_is);(case k31=>k_is);(case b31=>(intro us hl;exact match us,hl with|[_,_,_],_=>rfl))
  (case n32=>k_is);(case l32=>k_is);(case c32=>k_is);(case k32=>k_is);(case b32=>(intro us hl;exact match us,hl with|[_,_],_=>rfl))
  (case n33=>k_is);(case l33=>k_is);(case c33=>k_is);(case k33=>k_is);(case b33=>(intro us hl;exact match us,hl with|[_,_],_=>rfl))
  (case n34=>k_is);(case l34=>k_is);(case c34=>k_is);(case k34=>k_is);(case b34=>(intro us hl;exact match us,hl with|[_],_=>rfl))
  (case n35=>k_is);(case l35=>k_is);(case c35=>k_is);(case k35=>k_is);(case b35=>(intro us hl;exact match us,hl with|[_],_=>rfl))
  (case n36=>k_is);(case l36=>k_is);(case c36=>k_is);(case k36=>k_is);(case b36=>(intro us hl;exact match us,hl with|[_],_=>rfl))
  (case n37=>k_is);(case l37=>k_is);(case c37=>k_is);(case k37=>k_is);(case b37=>(intro us hl;exact match us,hl with|[_],_=>rfl))
  (case n38=>k_is);(case l38=>k_is);(case c38=>k_is);(case k38=>k_is);(case b38=>(intro us hl;exact match us,hl with|[_],_=>rfl))
  (case n39=>k_is);(case l39=>k_is);(case c39=>k_is);(case k39=>k_is);(case b39=>(intro us hl;exact match us,hl with|[_],_=>rfl))
  (case n40=>k_is);(case l40=>k_is);(case c40=>k_is);(case k40=>k_is);(case b40=>(intro us hl;exact match us,hl with|[_,_,_],_=>rfl))
  (case n41=>k_is);(case l41=>k_is);(case c41=>k_is);(case k41=>k_is);(case b41=>(intro us hl;exact match us,hl with|[_,_],_=>rfl))
  (case n42=>k_is);(case l42=>k_is);(case c42=>k_is);(case k42=>k_is);(case b42=>(intro us hl;exact match us,hl with|[_,_,_],_=>rfl))
  (case n43=>k_is);(case l43=>k_is);(case c43=>k_is);(case k43=>k_is);(case b43=>(intro us hl;exact match us,hl with|[_],_=>rfl))
  (case n44=>k_is);(case l44=>k_is);(case c44=>k_is);(case k44=>k_is);(case b44=>(intro us hl;exact match us,hl with|[_,_],_=>rfl))
  (case n45=>k_is);(case l45=>k_is);(case c45=>k_is);(case k45=>k_is);(case b45=>(intro us hl;exact match us,hl with|[_,_],_=>rfl))
  (case n46=>k_is);(case l46=>k_is);(case c46=>k_is);(case k46=>k_is);(case b46=>(intro us hl;exact match us,hl with|[_],_=>rfl))
  (case n47=>k_is);(case l47=>k_is);(case c47=>k_is);(case k47=>k_is);(case b47=>(intro us hl;exact match us,hl with|[_,_],_=>rfl))
  (case n48=>k_is);(case l48=>k_is);(case c48=>k_is);(case k48=>k_is);(case b48=>(intro us hl;exact match us,hl with|[_,_,_,_,_],_=>rfl))
  (case n49=>k_is);(case l49=>k_is);(case c49=>k_is);(case k49=>k_is);(case b49=>(intro us hl;exact match us,hl with|[_,_,_,_,_,_],_=>rfl))
  (case n50=>k_is);(case l50=>k_is);(case c50=>k_is);(case k50=>k_is);(case b50=>(intro us hl;exact match us,hl with|[_],_=>rfl))
  (case n51=>k_is);(case l51=>k_is);(case c51=>k_is);(case k51=>k_is);(case b51=>(intro us hl;exact match us,hl with|[_],_=>rfl))
  (case n52=>k_is);(case l52=>k_is);(case c52=>k_is);(case k52=>k_is);(case b52=>(intro us hl;exact match us,hl with|[_,_],_=>rfl))
  (case n53=>k_is);(case l53=>k_is);(case c53=>k_is);(case k53=>k_is);(case b53=>(intro us hl;exact match us,hl with|[_,_,_],_=>rfl))
  (case n54=>k_is);(case l54=>k_is);(case c54=>k_is);(case k54=>k_is);(case b54=>(intro us hl;exact match us,hl with|[_,_,_,_],_=>rfl))
  (case n55=>k_is);(case l55=>k_is);(case c55=>k_is);(case k55=>k_is);(case b55=>(intro us hl;exact match us,hl with|[_],_=>rfl))
  (case n56=>k_is);(case l56=>k_is);(case c56=>k_is);(case k56=>k_is);(case b56=>(intro us hl;exact match us,hl with|[_,_,_,_],_=>rfl))
  (case n57=>k_is);(case l57=>k_is);(case c57=>k_is);(case k57=>k_is);(case b57=>(intro us hl;exact match us,hl with|[_],_=>rfl))
  (case n58=>k_is);(case l58=>k_is);(case c58=>k_is);(case k58=>k_is);(case b58=>(intro us hl;exact match us,hl with|[_],_=>rfl))
  (case n59=>k_is);(case l59=>k_is);(case c59=>k_is);(case k59=>k_is);(case b59=>(intro us hl;exact match us,hl with|[_],_=>rfl))
  (case n60=>k_is);(case l60=>k_is);(case c60=>k_is);(case k60=>k_is);(case b60=>(intro us hl;exact match us,hl with|[_],_=>rfl))
  (case n61=>k_is);(case l61=>k_is);(case c61=>k_is);(case k61=>k_is);(case b61=>(intro us hl;exact match us,hl with|[_],_=>rfl))
  (case n62=>k_is);(case l62=>k_is);(case c62=>k_is);(case k62=>k_is);(case b62=>(intro us hl;exact match us,hl with|[_],_=>rfl))
  (case n63=>k_is);(case l63=>k_is);(case c63=>k_is);(case k63=>k_is);(case b63=>(intro us hl;exact match us,hl with|[_,_,_],_=>rfl))
  (case n64=>k_is);(case l64=>k_is);(case c64=>k_is);(case k64=>k_is);(case b64=>(intro us hl;exact match us,hl with|[_,_],_=>rfl))
  (case n65=>k_is);(case l65=>k_is);(case c65=>k_is);(case k65=>k_is);(case b65=>(intro us hl;exact match us,hl with|[_,_],_=>rfl))
  (case n66=>k_is);(case l66=>k_is);(case c66=>k_is);(case k66=>k_is);(case b66=>(intro us hl;exact match us,hl with|[_,_,_],_=>rfl))
  (case n67=>k_is);(case l67=>k_is);(case c67=>k_is);(case k67=>k_is);(case b67=>(intro us hl;exact match us,hl with|[_,_],_=>rfl))
  (case n68=>k_is);(case l68=>k_is);(case c68=>k_is);(case k68=>k_is);(case b68=>(intro us hl;exact match us,hl with|[_,_,_],_=>rfl))
  (case n69=>k_is);(case l69=>k_is);(case c69=>k_is);(case k69=>k_is);(case b69=>(intro us hl;exact match us,hl with|[_,_],_=>rfl))
  (case n70=>k_is);(case l70=>k_is);(case c70=>k_is);(case k70=>k_is);(case b70=>(intro us hl;exact match us,hl with|[_],_=>rfl))
  (case n71=>k_is);(case l71=>k_is);(case c71=>k_is);(case k71=>k_is);(case b71=>(intro us hl;exact match us,hl with|[_],_=>rfl))
  (case n72=>k_is);(case l72=>k_is);(case c72=>k_is);(case k72=>k_is);(case b72=>(intro us hl;exact match us,hl with|[_],_=>rfl))
  (case n73=>k_is);(case l73=>k_is);(case c73=>k_is);(case k73=>k_is);(case b73=>(intro us hl;exact match us,hl with|[_],_=>rfl))
  (case z_abs=>k_is);(case z_all=>k_is);(case z_bool=>k_is);(case z_enumerate=>k_is);(case z_int=>k_is);(case z_isinstance=>k_is);(case z_len=>k_is);(case z_list=>k_is);(case z_max=>k_is);(case z_range=>k_is);(case z_reversed=>k_is);(case z_tuple=>k_is);(case z_zip=>k_is);(case c0_AXIS_RAY=>k_is);(case c1_AXIS_RAY=>k_is);(case c2_AXIS_RAY=>k_is);(case c3_AXIS_RAY=>k_is);(case c0_FOUR=>k_is);(case c1_FOUR=>k_is);(case c0_LEVEL_RAY=>k_is);(case c1_LEVEL_RAY=>k_is);(case c2_LEVEL_RAY=>k_is);(case c3_LEVEL_RAY=>k_is);(case c0_NOUGHT=>k_is);(case c1_NOUGHT=>k_is);(case c0_ONE=>k_is);(case c1_ONE=>k_is);(case c0_SELF=>k_is);(case c1_SELF=>k_is);(case c2_SELF=>k_is);(case c3_SELF=>k_is);(case c4_SELF=>k_is);(case c5_SELF=>k_is);(case c0_TWO=>k_is);(case c1_TWO=>k_is)
end
