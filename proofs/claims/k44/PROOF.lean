import PyProof.Rows.All
import Wide.All
import OpenK.AllK
import Wide.FinOn
import PyProof.EqAt
import PyProof.EqKinds
import PyProof.TupleCall
import PyProof.ZipIter
import PyProof.EnumMake
import PyProof.EnumFor
import PyProof.Rows.EnumRows
import PyProof.CompMap
import PyProof.CompUse
import KE.KRevSl
import KE.KRevIter
import PyProof.ListRange
import PyProof.AutoRange
import PyProof.FactsAll.range_2
import PyProof.MaxThree
import KE.RegKTryMore
import PyProof.Rows.SumAny
import KE.KMinBuiltin
import PyProof.Rows.CallKwBuiltin
import Lean
import PySem.Challenge.RW_roundglass_k44_whole_stops_are_just_one
noncomputable section
open PySem renaming wpAny_bind→c6L,wpAny_pure→c6U
open PySem.W renaming Frag→c6M
open Int renaming natAbs_natCast→c6N,natCast_inj→c7g,natAbs_mul→c7n,mul_ne_zero→c7Q,natAbs_neg→c72,toNat_natCast→c8a,natCast_mul→c8c,natCast_nonneg→c8i,mul_ediv_cancel_left→c8t,emod_lt_of_pos→c8v,sign_eq_one_of_pos→c8A,emod_nonneg→c8V,sign_eq_neg_one_of_neg→c8Z,natAbs_ediv_le_natAbs→c84,natAbs_pos→c9B,one_mul→c9F,neg_ediv_of_dvd→c9I,toNat→c9Q,natAbs_add_le→c9R,gcd→c9S,mul_one→d0b
open PySem.Heap renaming get?_push_of_some→c6O,get?_push_size→c6W,lt_size→c6X,get?_update_other→c7r,get?_update_self→c7E,size_push→c7O,get?_none_of_le→c9y,get?_push_ne→c9V
open List renaming getElem?_eq_some_iff→c6P,length_map→c6Q,mem_of_getElem?→c6S,getElem?_map→c6Y,size_toArray→c69,mem_singleton→c7a,map_append→c7d,getElem?_eq_getElem→c7e,mem_cons→c7h,mem_append→c7i,mem_cons_of_mem→c7j,length_append→c7l,mem_append_right→c7o,not_mem_nil→c7p,mem_map→c7q,take_length→c7t,length_cons→c7A,length_reverse→c7B,getD_eq_getElem?_getD→c7C,mem_cons_self→c7D,mem_zipIdx_iff_getElem?→c7F,getElem?_of_mem→c7G,filter_append→c7H,map_cons→c7I,range→c7K,map_map→c7N,length_take→c7P,take_succ_eq_append_getElem→c7V,take_of_length_le→c7W,filter_cons→c7Y,getElem?_replicate→c70,mem_range→c71,take_add_one→c73,append_nil→c74,mem_reverse→c75,length_zipIdx→c76,mem_filter→c78,length_nil→c79,map_nil→c8d,length_drop→c8e,replicate→c8f,getElem?_zipWith→c8j,length_filter_le→c8k,any_eq_false→c8m,getElem?_append_right→c8o,getElem?_append_left→c8q,lookup_cons→c8r,map_inj_right→c8u,map→c8x,find?_eq_none→c8y,length_zip→c8z,reverse_cons→c8B,length_replicate→c8D,take_append_drop→c8E,find?_eq_some_iff_getElem→c8G,ext_getElem→c8I,map_reverse→c8J,eq_nil_of_length_eq_zero→c8M,getElem?_append→c8N,mem_of_mem_take→c8O,filterMap_cons→c8Q,nodup_cons→c8S,of_mem_zip→c8T,zip_eq_zipWith→c8Y,zip_cons_cons→c80,mem_or_eq_of_mem_set→c85,pairwise_iff_getElem→c86,find?_range_eq_some→c88,length_range→c89,pairwise_map→c9a,filter→c9e,map_take→c9g,pairwise_lt_range'→c9i,filter_cons_of_pos→c9j,filter_cons_of_neg→c9k,map_zipWith→c9o,getElem?_set_self→c9p,drop_eq_nil_of_le→c9r,length_set→c9s,forIn_cons→c9u,getElem?_toArray→c9x,mem_append_left→c9z,getElem?_set_ne→c9A,length→c9D,filter_reverse→c9J,zipIdx_map_snd→c9L,mem_filterMap→c9M,sum_cons→c9P,getElem?_set→c9X,sum_nil→c95,zipIdx_cons→c97,getElem_mem→c98,zipWith_map→c99,any_eq_true→d0a
open Nat renaming lt_of_lt_of_le→c6R,le_trans→c6V,le_refl→c7b,lt_of_le_of_lt→c7c,pow_le_pow_right→c7f,ne_of_lt→c7v,gcd→c7w,zero_le→c7L,two_pow_pos→c7S,mul_ne_zero→c7T,ne_of_gt→c7U,lt_irrefl→c7Z,lt_or_ge→c77,gcd_pos_of_pos_right→c8b,mul_le_mul→c8g,eq_zero_or_pos→c8h,lt_trichotomy→c8n,pow_lt_pow_right→c8p,le_add_right→c8s,le_of_lt→c8C,max_le→c8P,div_le_self→c8U,mul_le_mul_left→c8W,le_mul_self→c8X,pow_succ→c81,one_lt_two_pow→c83,mul_left_comm→c87,log2_lt→c9b,pow_add→c9c,le_of_dvd→c9f,mul_pos→c9h,min_le_right→c9l,le_max_right→c9m,gcd_le_right→c9n,le_max_left→c9t,pos_iff_ne_zero→c9E,add_mul→c9K,mul_assoc→c9O,le_of_lt_succ→c9U,le_succ_of_le→c9Y,dvd_add_right→c9Z,le_of_eq→c90,succ_pos→c91,gcd_comm→c92,zero_add→c93,mul_comm→c94
open Rat renaming intCast_mul→c6T,intCast_natCast→c6Z,mul_nonneg→c7m,divInt→c7u,natCast_mul→c7x,mul_eq_zero→c7y,mul_pos→c7J,divInt_eq_div→c7M,intCast_add→c7X,intCast_sub→c8l,num_divInt_den→c8w,mul_le_mul_of_nonneg_right→c8F,mul_le_mul_of_nonneg_left→c8K,le_total→c82,intCast_lt_intCast→c9q,intCast_neg→c9v,le_of_lt→c9w,lt_div_iff→c9C,neg_num→c9G,neg_den→c9H,sub_eq_add_neg→c9N,lt_iff→c9T
open Classical renaming byContradiction→c68,propDecidable→c7z
open Bool renaming false_ne_true→c7k,false_eq_true→c7R,and_eq_true→c8H,not_eq_true→c8L,eq_iff_iff→c8R,true_and→c9d,not_eq_true'→c9W
open Option renaming map_eq_some_iff→c7s,getD_none→c96,map_some→d0c
set_option compiler.extract_closed false
set_option Elab.async false
set_option linter.all false
set_option maxRecDepth 100000
section
namespace L2
open PySem PySem.Spec PyProof.Rows
abbrev Key:=Sum Int Str
def b8X:Key→Value→Bool
 | .inl k,v=>Value.isInt k v
 | .inr x,v=>Value.isStrOf x v
def c3L(w:World):Key→Int
 | .inl k=>hashInt k
 | .inr x=>hashStr w x
theorem A6:∀{k:Key} {v:Value},b8X k v=true→(∃ i t,k=Sum.inl i∧v=Value.int i t)∨(∃ x t,k=Sum.inr x∧v=Value.str x t)
 | .inl i,v,h=>by
  obtain⟨t,e⟩:=Value.isInt_shape (k:=i) (v:=v) h
  exact .inl ⟨i,t,rfl,e⟩
 | .inr x,v,h=>by
  obtain⟨t,e⟩:=Value.isStrOf_shape (x:=x) (v:=v) h
  exact .inr ⟨x,t,rfl,e⟩
theorem c0A(a b:Int):decide ((Sum.inl a:Key)=Sum.inl b)=(a == b):=by
 by_cases e:a=b
 ·subst e;simp
 ·have h:¬ (Sum.inl a:Key)=Sum.inl b:=fun q=>e (Sum.inl.inj q)
  rw[decide_eq_false h]
  exact(beq_eq_false_iff_ne.mpr e).symm
theorem c0x(a b:Str):decide ((Sum.inr a:Key)=Sum.inr b)=decide (a=b):=by
 by_cases e:a=b
 ·subst e;simp
 ·have h:¬ (Sum.inr a:Key)=Sum.inr b:=fun q=>e (Sum.inr.inj q)
  rw[decide_eq_false h,decide_eq_false e]
theorem c0z(a:Int)(b:Str):decide ((Sum.inl a:Key)=Sum.inr b)=false:=decide_eq_false (fun q=>nomatch q)
theorem c0y(a:Str)(b:Int):decide ((Sum.inr a:Key)=Sum.inl b)=false:=decide_eq_false (fun q=>nomatch q)
def b00(prog:Program)(w:World):PySem.KeyKind prog w Key where
 is:=b8X
 hash:=c3L w
 inj:=fun v a b ha hb=>by
  rcases A6 ha with⟨i,t,rfl,rfl⟩|⟨x,t,rfl,rfl⟩
  ·rcases A6 hb with⟨j,u,rfl,e⟩|⟨y,u,rfl,e⟩
   ·injection e with e1 _;rw[e1]
   ·exact nomatch e
  ·rcases A6 hb with⟨j,u,rfl,e⟩|⟨y,u,rfl,e⟩
   ·exact nomatch e
   ·injection e with e1 _;rw[e1]
 byValue:=fun k v h=>by
  rcases A6 h with⟨i,t,rfl,rfl⟩|⟨x,t,rfl,rfl⟩<;>rfl
 pyHash:=fun hv h=>by
  rcases A6 hv with⟨i,t,rfl,rfl⟩|⟨x,t,rfl,rfl⟩
  ·exact wpAny_pyHash_int h
  ·exact wpAny_pyHash_str h
 eqBool:=fun hu hv h=>by
  rcases A6 hu with⟨i,t,rfl,rfl⟩|⟨x,t,rfl,rfl⟩
  ·rcases A6 hv with⟨j,u,rfl,rfl⟩|⟨y,u,rfl,rfl⟩
   ·rw[c0A]at h;exact wpAny_eqBool_int h
   ·rw[c0z]at h;exact SeqAt.EqAt.int_str i t y u _ _ _ _ h
  ·rcases A6 hv with⟨j,u,rfl,rfl⟩|⟨y,u,rfl,rfl⟩
   ·rw[c0y]at h;exact SeqAt.EqAt.str_int x t j u _ _ _ _ h
   ·rw[c0x]at h;exact wpAny_eqBool_str h
 «strs»:=fun k x t v h=>by
  rcases A6 h with⟨i,u,rfl,e⟩|⟨y,u,rfl,e⟩
  ·exact nomatch e
  ·injection e with e1 _
   subst e1
   cases v<;>rfl
end L2
namespace L2
open PySem PySem.Spec PyProof.Rows
inductive V where
 | non|bl (b:Bool)|int (i:Int)|str (x:Str)|byt (b:Array UInt8)|flt (b:UInt64)|ref (a:Addr)|ty (n:String)
 deriving DecidableEq
def u0:V→Value→Prop
 | .non,u=>u=Value.none
 | .bl b,u=>u=Value.bool b
 | .int i,u=>∃ t,u=Value.int i t
 | .str x,u=>∃ t,u=Value.str x t
 | .byt b,u=>∃ t,u=Value.bytes b t
 | .flt b,u=>∃ t,u=Value.float b t
 | .ref a,u=>u=Value.ref a
 | .ty n,u=>u=Value.type n
abbrev p0:List V→List Value→Prop:=Paired u0
theorem p0.length{xs:List V}{us:List Value}(r:p0 xs us):xs.length=us.length:=Paired.length r
theorem p0.get:∀{xs:List V} {us:List Value} {i:Nat} {x:V},p0 xs us→xs[i]? = some x→∃ u,us[i]? = some u∧u0 x u
 | _,_,_,_,.nil,e=>by simp at e
 | _,_,0,_,.cons r _,e=>by simp at e;subst e;exact⟨_,rfl,r⟩
 | _,_,i+1,x,.cons _ t,e=>by
  obtain⟨u,h1,h2⟩:=p0.get (i:=i) (x:=x) t (by simpa using e)
  exact⟨u,by simpa using h1,h2⟩
theorem p0.set{x:V}{u:Value}(r:u0 x u):∀{xs:List V} {us:List Value} (i:Nat),p0 xs us→p0 (xs.set i x) (us.set i u)
 | _,_,_,.nil=>.nil
 | _,_,0,.cons _ t=>.cons r t
 | _,_,i+1,.cons q t=>.cons q (p0.set r i t)
theorem p0.append:∀{xs ys:List V} {us ws:List Value},p0 xs us→p0 ys ws→p0 (xs++ys) (us++ws)
 | _,_,_,_,.nil,s=>s
 | _,_,_,_,.cons r t,s=>.cons r (p0.append t s)
theorem p0.take:∀{xs:List V} {us:List Value} (n:Nat),p0 xs us→p0 (xs.take n) (us.take n)
 | _,_,0,_=>.nil
 | _,_,_+1,.nil=>.nil
 | _,_,n+1,.cons r t=>.cons r (p0.take n t)
theorem p0.drop:∀{xs:List V} {us:List Value} (n:Nat),p0 xs us→p0 (xs.drop n) (us.drop n)
 | _,_,0,r=>r
 | _,_,_+1,.nil=>.nil
 | _,_,n+1,.cons _ t=>p0.drop n t
def c04:Option V→Option Value→Prop
 | some v,some u=>u0 v u
 | none,none=>True
 | _,_=>False
def KV{κ:Type}:List (κ × V)→List (κ × Value)→Prop:=Paired fun(p:κ × V) (q:κ × Value)=>p.1=q.1∧u0 p.2 q.2
def kV:Key→V
 | .inl i=>.int i
 | .inr x=>.str x
inductive HO where
 | lst (xs:List V)
 | tup (xs:List V)
 | dK (kvs:List (Key × V))|dT (kvs:List (List Key × V))
 | set (S:Int→Bool) (n:Nat)
 | ins (C dx:Addr) (fs:List (Str × V))
 | own (x:Addr)
 | xd (fs:List (Str × V))
 | met (f x:Addr)
 | rng (lo hi:Int)
 | frz (o:Obj) (u:HO)
 | tbl (ps:Array Value)
 | ext (φ:Heap→Prop)
abbrev Hp:=Addr→Option HO
def upd(H:Hp)(a:Addr)(o:HO):Hp:=fun b=>if b=a then some o else H b
theorem j7{H:Hp}{a:Addr}{o:HO}:upd H a o a=some o:=by unfold upd;rw[if_pos rfl]
theorem j6{H:Hp}{a b:Addr}{o:HO}(h:b≠a):upd H a o b=H b:=by unfold upd;rw[if_neg h]
theorem a03{H:Hp}{a:Addr}{o u:HO}:upd (upd H a o) a u=upd H a u:=by
 funext b;unfold upd;split<;>rfl
theorem J1{H:Hp}{a b:Addr}{o:HO}(h:H a=some o)(h':H b=none):a≠b:=by
 intro e;subst e;rw[h]at h';cases h'
section
variable (P:Program) (w:World)
def E1(H:Hp)(h:Heap)(a:Addr):HO→Prop
 | .lst xs=>xs.length≤sizeLine∧∃(its:List Value) (n:Nat),p0 xs its∧h.get? a=some { cls:=.type "list",data:=.seq its.toArray n }
 | .tup xs=>xs.length≤sizeLine∧∃ its:List Value,p0 xs its∧IsTup h a its.toArray
 | .dK kvs=>kvs.length≤sizeLine∧(a == sysModules)=false∧∃ vs,KV kvs vs∧h.DictOf (b00 P w) a vs
 | .dT kvs=>kvs.length≤sizeLine∧(a == sysModules)=false∧∃ xs:List (List Key × Addr × Value),
   Paired (fun(p:List Key × V) (q:List Key × Addr × Value)=>p.1=q.1∧H q.2.1=some (.tup (p.1.map kV))∧u0 p.2 q.2.2) kvs xs ∧
   ∃ o es ep,h.get? a=some o∧o.ExactDict∧o.data = .dict es ep∧es.toList=xs.map (entryOfKey (tupleKind (b00 P w)))∧(xs.map (·.1)).Nodup
 | .set S n=>h.SetOf (intKind P w) a S n
 | .ins C dx fs=>H dx=some (.own a)∧fs.length≤1000∧dx≠a∧h.get? a=some (PySem.W.instObj C dx) ∧
   ∃ mA,h.Ns1 dx mA∧(∀ f,c04 (fs.lookup f) (mA f))∧PySem.Within mA (fs.map (·.1))
 | .own _=>∃ o,h.get? a=some o
 | .xd fs=>∃ mA,h.Ns1 a mA∧∀ f,c04 (fs.lookup f) (mA f)
 | .rng lo hi=>∃ t u v,h.get? a=some { cls:=.type "range",data:=.fields #[.int lo t,.int hi u,.int 1 v] }
 | .frz o u=>h.get? a=some o∧E1 H h a u
 | .tbl ps=>h.get? a=some { cls:=.none,data:=.fields ps }
 | .met f x=>h.get? a=some (PySem.W.methodObj (.ref f) (.ref x))
 | .ext φ=>φ h∧(∃ o,h.get? a=some o)∧∀ h1 h2:Heap,φ h1→(∀ o,h1.get? a=some o→h2.get? a=some o)→φ h2
def HOk(H:Hp)(h:Heap):Prop:=∀ a o,H a=some o→E1 P w H h a o
end
section
variable {P:Program} {w:World} {H H':Hp} {h h':Heap} {a:Addr} {o:HO}
theorem E1.lt(x:E1 P w H h a o):a<h.objs.size:=by
 cases o with
 | lst xs=>obtain⟨_,_,_,_,e⟩:=x;exact c6X e
 | tup xs=>obtain⟨_,_,_,p⟩:=x;exact p.lt
 | dK kvs=>obtain⟨_,_,_,_,o,_,_,e,_⟩:=x;exact c6X e
 | dT kvs=>obtain⟨_,_,_,_,o,_,_,e,_⟩:=x;exact c6X e
 | set S n=>obtain⟨o,_,_,_,e,_⟩:=x;exact c6X e
 | ins C dx fs=>obtain⟨_,_,_,e,_⟩:=x;exact c6X e
 | own y=>obtain⟨_,e⟩:=x;exact c6X e
 | xd fs=>obtain⟨_,⟨_,_,_,e,_⟩,_⟩:=x;exact c6X e
 | rng lo hi=>obtain⟨_,_,_,e⟩:=x;exact c6X e
 | frz ob u=>obtain⟨e,_⟩:=x;exact c6X e
 | tbl ps=>exact c6X (show h.get? a=some _ from x)
 | met f y=>exact c6X (show h.get? a=some _ from x)
 | ext φ=>obtain⟨_,⟨_,e⟩,_⟩:=x;exact c6X e
theorem Paired.mapP{α β:Type}{F G:α→β→Prop}:∀{l₁:List α} {l₂:List β},Paired F l₁ l₂→(∀ a b,F a b→G a b)→Paired G l₁ l₂
 | _,_,.nil,_=>.nil
 | _,_,.cons r t,f=>.cons (f _ _ r) (Paired.mapP t f)
theorem E1.stay(x:E1 P w H h a o)(k:∀ b u,(b=a∨H b=some (.own a))→h.get? b=some u→h'.get? b=some u)
  (ho:∀ b,H b=some (.own a)→H' b=some (.own a)) (ht:∀ b xs,H b=some (.tup xs)→H' b=some (.tup xs)):E1 P w H' h' a o:=by
 induction o with
 | lst xs=>obtain⟨z,its,n,r,e⟩:=x;exact⟨z,its,n,r,k _ _ (.inl rfl) e⟩
 | tup xs=>obtain⟨z,its,r,ob,e,c⟩:=x;exact⟨z,its,r,ob,k _ _ (.inl rfl) e,c⟩
 | dK kvs=>obtain⟨z,y,vs,r,ob,es,ep,e,c⟩:=x;exact⟨z,y,vs,r,ob,es,ep,k _ _ (.inl rfl) e,c⟩
 | dT kvs =>
  obtain⟨z,y,xs,r,ob,es,ep,e,c⟩:=x
  exact⟨z,y,xs,Paired.mapP r fun p q z=>⟨z.1,ht _ _ z.2.1,z.2.2⟩,ob,es,ep,k _ _ (.inl rfl) e,c⟩
 | set S n=>obtain⟨ob,es,ep,t,e,c⟩:=x;exact⟨ob,es,ep,t,k _ _ (.inl rfl) e,c⟩
 | ins C dx fs =>
  obtain⟨d,z,ne,e,mA,⟨od,es,ep,e2,c⟩,r⟩:=x
  exact⟨ho _ d,z,ne,k _ _ (.inl rfl) e,mA,⟨od,es,ep,k _ _ (.inr d) e2,c⟩,r⟩
 | own y=>obtain⟨ob,e⟩:=x;exact⟨ob,k _ _ (.inl rfl) e⟩
 | xd fs=>obtain⟨mA,⟨od,es,ep,e,c⟩,r⟩:=x;exact⟨mA,⟨od,es,ep,k _ _ (.inl rfl) e,c⟩,r⟩
 | rng lo hi=>obtain⟨t,u,v,e⟩:=x;exact⟨t,u,v,k _ _ (.inl rfl) e⟩
 | frz ob u ih=>obtain⟨e,q⟩:=x;exact⟨k _ _ (.inl rfl) e,ih q⟩
 | tbl ps =>
  have e:h.get? a=some { cls:=.none,data:=.fields ps }:=x
  show h'.get? a=some { cls:=.none,data:=.fields ps }
  exact k a _ (.inl rfl) e
 | met f y =>
  have e:h.get? a=some (PySem.W.methodObj (.ref f) (.ref y)):=x
  show h'.get? a=some (PySem.W.methodObj (.ref f) (.ref y))
  exact k a _ (.inl rfl) e
 | ext φ=>obtain⟨p,⟨o,e⟩,st⟩:=x;exact⟨st _ _ p fun o q=>k _ _ (.inl rfl) q,⟨o,k _ _ (.inl rfl) e⟩,st⟩
theorem HOk.lt(x:HOk P w H h)(e:H a=some o):a<h.objs.size:=(x a o e).lt
theorem HOk.fresh(x:HOk P w H h)(e:h.objs.size≤a):H a=none:=by
 cases q:H a with
 | none=>rfl
 | some u=>exact absurd (c6R (x.lt q) e) (c7Z _)
theorem HOk.kept(x:HOk P w H h)(k:∀ b u,h.get? b=some u→h'.get? b=some u):HOk P w H h':=fun a o e =>
 (x a o e).stay (fun b u _ q=>k b u q) (fun _ q=>q) fun _ _ q=>q
theorem HOk.laid(x:HOk P w H h)(k:∀ b u,h.get? b=some u→h'.get? b=some u)(hp:h.objs.size≤a)(new:E1 P w (upd H a o) h' a o):HOk P w (upd H a o) h':=fun b u e=>by
 have hn:=x.fresh hp
 by_cases hb:b=a
 ·subst hb;rw[j7]at e;cases e;exact new
 ·rw[j6 hb]at e
  exact(x b u e).stay (fun c v _ q=>k c v q) (fun c q=>by rw[j6 (J1 q hn)];exact q) fun c xs q=>by rw[j6 (J1 q hn)];exact q
end
def Rd(H:Hp)(a:Addr)(u:HO):Prop:=H a=some u ∨ ∃ o,H a=some (.frz o u)
theorem Rd.of{H:Hp}{a:Addr}{u:HO}(h:H a=some u):Rd H a u:=.inl h
theorem Rd.ok{P:Program}{w:World}{H:Hp}{h:Heap}{a:Addr}{u:HO}(r:Rd H a u)(x:HOk P w H h):E1 P w H h a u:=by
 rcases r with r|⟨o,r⟩
 ·exact x a u r
 ·obtain⟨_,q⟩:=x a _ r
  exact q
def Mut:Option HO→Prop
 | some (.lst _)=>True
 | some (.dK _)=>True
 | some (.dT _)=>True
 | some (.set _ _)=>True
 | some (.ins _ _ _)=>True
 | some (.ext _)=>True
 | _=>False
section
variable {P:Program} {w:World} {H:Hp} {h h':Heap} {x e:Addr} {o':HO}
theorem HOk.write(ok:HOk P w H h)(mu:Mut (H x))(he:e=x∨H e=some (.own x))(k:∀ b u,b≠e→h.get? b=some u→h'.get? b=some u)(heo:∃ u,h'.get? e=some u)
  (new:E1 P w (upd H x o') h' x o'):HOk P w (upd H x o') h':=fun b u q=>by
 have nown:∀ c y,H c=some (.own y)→c≠x:=fun c y r z=>by subst z;rw[r]at mu;exact mu
 have ntup:∀ c xs,H c=some (.tup xs)→c≠x:=fun c xs r z=>by subst z;rw[r]at mu;exact mu
 by_cases hb:b=x
 ·subst hb;rw[j7]at q;cases q;exact new
 ·rw[j6 hb]at q
  by_cases hbe:b=e
  ·have q':H b=some (.own x):=by
    rcases he with z|z
    ·exact absurd (hbe.trans z) hb
    ·rw[hbe];exact z
   rw[q]at q';cases q'
   obtain⟨v,hv⟩:=heo
   exact⟨v,by rw[hbe];exact hv⟩
  ·refine(ok b u q).stay (fun c v hc r=>k c v ?_ r) (fun c r=>by rw[j6 (nown c b r)];exact r) fun c xs r=>by rw[j6 (ntup c xs r)];exact r
   rcases hc with rfl|hc
   ·exact hbe
   ·rintro rfl
    rcases he with z|z
    ·exact nown c b hc z
    ·rw[hc]at z;cases z;exact hb rfl
end
structure Un(fs ex:List Addr)(H H':Hp)(h h':Heap):Prop where
 keep:∀ b o,h.get? b=some o→H b=none→b∉fs→b∉ex→h'.get? b=some o
 slot:∀ b o,h.get? b=some o→H b=none→b∈fs→b∉ex→∃ sl,h'.get? b=some { o with slots:=sl }
 free:∀ b o,h.get? b=some o→H b=none→b∉ex→H' b=none
 there:∀ b o,h.get? b=some o→b∉ex→∃ o',h'.get? b=some o'
 tups:∀ b xs,H b=some (.tup xs)→H' b=some (.tup xs)
 frzs:∀ b o u,H b=some (.frz o u)→H' b=some (.frz o u)
 tbls:∀ b ps,H b=some (.tbl ps)→∃ more,H' b=some (.tbl (ps++more))
section
variable {fs fs' ex ex':List Addr} {H H1 H2:Hp} {h h1 h2 h':Heap} {a x e:Addr} {o:HO}
theorem Un.any(u:Un fs ex H H1 h h1){b:Addr}{ob:Obj}(q:h.get? b=some ob)(n:H b=none)(hx:b∉ex):∃ sl,h1.get? b=some { ob with slots:=sl }:=by
 by_cases hb:b∈fs
 ·exact u.slot b ob q n hb hx
 ·exact⟨ob.slots,u.keep b ob q n hb hx⟩
theorem Un.trans(a:Un fs ex H H1 h h1)(b:Un fs ex H1 H2 h1 h2):Un fs ex H H2 h h2 where
 keep:=fun c ob q n hc hx=>b.keep c ob (a.keep c ob q n hc hx) (a.free c ob q n hx) hc hx
 slot:=fun c ob q n hc hx=>by
  obtain⟨sl,e1⟩:=a.slot c ob q n hc hx
  obtain⟨sl',e2⟩:=b.slot c _ e1 (a.free c ob q n hx) hc hx
  exact⟨sl',e2⟩
 free:=fun c ob q n hx=>by
  obtain⟨o',e1⟩:=a.there c ob q hx
  exact b.free c o' e1 (a.free c ob q n hx) hx
 there:=fun c ob q hx=>by
  obtain⟨o',e1⟩:=a.there c ob q hx
  exact b.there c o' e1 hx
 tups:=fun c xs q=>b.tups c xs (a.tups c xs q)
 frzs:=fun c ob xs q=>b.frzs c ob xs (a.frzs c ob xs q)
 tbls:=fun c ps q=>by
  obtain⟨m1,e1⟩:=a.tbls c ps q
  obtain⟨m2,e2⟩:=b.tbls c _ e1
  exact⟨m1++m2,by rw[e2,Array.append_assoc]⟩
theorem Un.kept(k:∀ b u,h.get? b=some u→h'.get? b=some u):Un fs ex H H h h' :=
 ⟨fun b ob q _ _ _=>k b ob q,fun b ob q _ _ _=>⟨ob.slots,k b ob q⟩,fun _ _ _ n _=>n,fun b ob q _=>⟨ob,k b ob q⟩,fun _ _ q=>q,fun _ _ _ q=>q,fun _ ps q=>⟨#[],by rw[q];simp⟩⟩
theorem Un.refl:Un fs ex H H h h:=Un.kept fun _ _ q=>q
theorem Un.laid(k:∀ b u,h.get? b=some u→h'.get? b=some u)(hp:h.objs.size≤a)(hn:H a=none):Un fs ex H (upd H a o) h h' where
 keep:=fun b u q _ _ _=>k b u q
 slot:=fun b u q _ _ _=>⟨u.slots,k b u q⟩
 free:=fun b u q n _=>by rw[j6 (c7v (c6R (c6X q) hp))];exact n
 there:=fun b u q _=>⟨u,k b u q⟩
 tups:=fun b xs q=>by rw[j6 (J1 q hn)];exact q
 frzs:=fun b u xs q=>by rw[j6 (J1 q hn)];exact q
 tbls:=fun b ps q=>⟨#[],by rw[j6 (J1 q hn),q];simp⟩
theorem Un.write(mu:Mut (H x))(he:e=x∨H e=some (.own x))(k:∀ b u,b≠e→h.get? b=some u→h'.get? b=some u)(heo:∃ u,h'.get? e=some u):Un fs ex H (upd H x o) h h':=by
 have hx:∀ b,H b=none→b≠x:=fun b n z=>by subst z;rw[n]at mu;exact mu
 have hb:∀ b,H b=none→b≠e:=fun b n z=>by
  subst z
  rcases he with r|r
  ·exact hx b n r
  ·rw[n]at r;cases r
 have hm:∀ b u,H b=some u→¬ Mut (some u)→b≠x:=fun b u q nm z=>by subst z;rw[q]at mu;exact nm mu
 refine⟨fun b u q n _ _=>k b u (hb b n) q,fun b u q n _ _=>⟨u.slots,k b u (hb b n) q⟩,fun b u q n _=>by rw[j6 (hx b n)];exact n,fun b u q _=>?_,
  fun b xs q=>by rw[j6 (hm b _ q fun z=>z)];exact q,fun b u xs q=>by rw[j6 (hm b _ q fun z=>z)];exact q,fun b ps q=>⟨#[],by rw[j6 (hm b _ q fun z=>z),q];simp⟩⟩
 by_cases hbe:b=e
 ·subst hbe;exact heo
 ·exact⟨u,k b u hbe q⟩
theorem Un.mono(u:Un fs ex H H1 h h1)(hs:∀ b∈fs,b∈fs')(hx:∀ b∈ex,b∈ex'):Un fs' ex' H H1 h h1 :=
 ⟨fun b ob q n hb he=>u.keep b ob q n (fun z=>hb (hs b z)) fun z=>he (hx b z),fun _ _ q n _ he=>u.any q n fun z=>he (hx _ z),fun b ob q n he=>u.free b ob q n fun z=>he (hx b z),fun b ob q he=>u.there b ob q fun z=>he (hx b z),u.tups,u.frzs,u.tbls⟩
end
def trk(h:Heap)(H:Hp):List Addr:=(c7K h.objs.size).filter fun a=>(H a).isSome
def a6V(h:Heap)(H:Hp):Heap:=PySem.W.hideAll h (trk h H)
theorem b2a(h:Heap)(H:Hp):(a6V h H).objs.size=h.objs.size:=PySem.W.hideAll_size _ _
theorem b4M{h:Heap}{H:Hp}{b:Addr}{o:Obj}(e:h.get? b=some o)(n:H b=none):(a6V h H).get? b=some o :=
 PySem.W.hideAll_get _ e fun hm=>by
  have q:(H b).isSome=true:=(c78.mp hm).2
  rw[n]at q;simp at q
theorem b7D{h:Heap}{H:Hp}{b:Addr}{o:Obj}(e:(a6V h H).get? b=some o):h.get? b=some o∧H b=none:=by
 have e':h.get? b=some o:=PySem.W.of_hideAll (trk h H) e
 refine⟨e',?_⟩
 cases q:H b with
 | none=>rfl
 | some x =>
  have hm:b∈trk h H:=c78.mpr ⟨c71.mpr (c6X e'),by simp[q]⟩
  have z:(a6V h H).get? b=none:=PySem.W.hideAll_none (trk h H) hm
  rw[z]at e;cases e
def b76(g h:Heap)(L:Addr):List (Addr × Obj):=(c7K h.objs.size).filterMap fun a=>if a=L∨(g.get? a).isSome=true then none else(h.get? a).map fun o=>(a,o)
def E8(g h:Heap)(L d:Addr):List (Addr × Obj):=(b76 g h L).filter fun p=>decide (p.1≠d)
end L2
namespace L2
open PySem PySem.Spec PyProof.Rows
structure Mod(K:c6M)(mg:Str→Option Value)(base:Heap):Prop where
 kin:K.In base
 glob:base.Ns mainGlobals mg
 blt:∃ mb,base.Ns builtinsNs mb∧∀ x:Str,x ≠ "__name__" → mb x=bootBuiltins x
 nolimit:base.NoLimit
structure Cx where
 prog:Program
 w:World
 K:c6M
 mg:Str→Option Value
 base:Heap
 A:Around
 N:List Str
 s₀:Shared
 H₀:Hp
 env:Env
 outer:List Env
 stack:List Env
 ex:List Addr
 fn:Str→Bool
 calm:Bool
 pn:List (Addr × Obj)
 xe:Value→Shared→Prop
def frs(l:List Env):List Addr:=l.filterMap (·.frame)
abbrev Cx.fs(X:Cx):List Addr:=frs X.outer
def Vis(sc:Scope)(x:Str):Prop:=sc.names.lookup x=some .local∨sc.names.lookup x=some .cell∨sc.names.lookup x=some .free
def Loc(sc:Scope)(x:Str):Prop:=sc.names.lookup x=some .local∨sc.names.lookup x=some .cell
def c3W(env:Env)(h:Heap)(m:Str→Option Value)(x:Str)(u:Value):Prop :=
 (env.kindOf x=some .local∧m x=some u)∨((env.kindOf x=some .cell∨env.kindOf x=some .free)∧∃ c,env.cells.lookup x=some c∧h.IsCell c (some u))
structure Cx.Ok(X:Cx):Prop where
 mod:Mod X.K X.mg X.base
 kind:X.env.scope.kind = .function
 glob:X.env.globals=mainGlobals
 blt:X.env.builtins=builtinsNs
 above:X.s₀.heap.objs.size≤X.env.locals
 inj:∀ x y c,X.env.cells.lookup x=some c→X.env.cells.lookup y=some c→x=y
 has:∀ x,(X.env.kindOf x=some .cell∨X.env.kindOf x=some .free)→∃ c,X.env.cells.lookup x=some c
 cab:∀ x c,X.fn x=true→X.env.cells.lookup x=some c→X.s₀.heap.objs.size≤c
 hd:X.calm=true→X.A.handled=none
 frames:X.A.frames=some X.stack
 stk:X.stack=X.outer∨(X.stack=X.env :: X.outer∧X.env.frame=some X.env.locals)
 exf:∀ b∈X.ex,b≠X.env.locals∧∀ x c,X.env.cells.lookup x=some c→c≠b
 bs:∀ b o,X.base.get? b=some o→X.s₀.heap.get? b=some o∧X.H₀ b=none
 bsz:X.base.objs.size≤X.s₀.heap.objs.size
 noex:∀ b o,X.base.get? b=some o→b∉X.ex
 exfs:∀ b∈X.ex,b∉X.fs
 funs:X.s₀.heap.FunFrames X.base X.outer
 frf:∀ b∈X.fs,X.H₀ b=none
structure Inv(X:Cx)(pins:List (Addr × Obj))(σ:List (Option V))(H:Hp)(s:Shared):Prop where
 ok:X.Ok
 os:s.os=X.s₀.os
 bare:AllBare s.gens
 base:Un X.fs X.ex X.H₀ H X.s₀.heap s.heap
 loc:∃ m,s.heap.Ns X.env.locals m∧∀(i:Nat) (x:Str) (v:V),X.N[i]? = some x→σ[i]? = some (some v)→Vis X.env.scope x→∃ u,u0 v u∧c3W X.env s.heap m x u
 cell:∀ x c,X.env.cells.lookup x=some c→∃ v,s.heap.IsCell c v
 free:H X.env.locals=none
 freeC:∀ x c,X.env.cells.lookup x=some c→H c=none
 pin:∀ p∈X.pn++pins,s.heap.get? p.1=some p.2∧H p.1=none∧p.1≠X.env.locals∧p.1∉X.fs∧∀ v,p.2.data ≠ .cell v
 hok:HOk X.prog X.w H s.heap
 len:σ.length=X.N.length
section
variable {X:Cx} {pins:List (Addr × Obj)} {σ:List (Option V)} {H H':Hp} {s:Shared} {h':Heap}
theorem Cx.Ok.nofr(ok:X.Ok){b:Addr}{o:Obj}(e:X.base.get? b=some o):b∉X.fs:=fun hb=>by
 have:=(ok.funs.mem hb).1
 rw[e]at this;cases this
theorem Inv.bs(I:Inv X pins σ H s):∀ b o,X.base.get? b=some o→s.heap.get? b=some o∧H b=none:=fun b o e =>
 ⟨I.base.keep b o (I.ok.bs b o e).1 (I.ok.bs b o e).2 (I.ok.nofr e) (I.ok.noex b o e),I.base.free b o (I.ok.bs b o e).1 (I.ok.bs b o e).2 (I.ok.noex b o e)⟩
theorem Inv.bk(I:Inv X pins σ H s):∀ b o,X.base.get? b=some o→s.heap.get? b=some o:=fun b o e=>(I.bs b o e).1
theorem Inv.mod(I:Inv X pins σ H s):Mod X.K X.mg X.base:=I.ok.mod
theorem Inv.kIn(I:Inv X pins σ H s):X.K.In s.heap:=I.ok.mod.kin.keeps I.bk
theorem Inv.nolimit(I:Inv X pins σ H s):s.heap.NoLimit:=I.ok.mod.nolimit.keeps I.bk
theorem Inv.fr(I:Inv X pins σ H s):∃ m,Fr X.base X.env.locals s.heap m :=
 let ⟨m,hn,_⟩:=I.loc
 ⟨m,hn,I.bk,c6V I.ok.bsz I.ok.above⟩
theorem Inv.lt(I:Inv X pins σ H s):X.env.locals<s.heap.objs.size:=let ⟨_,hn,_⟩:=I.loc;hn.lt
theorem Inv.sz(I:Inv X pins σ H s):X.s₀.heap.objs.size≤s.heap.objs.size:=c6V I.ok.above (c8C I.lt)
theorem Inv.nofs(I:Inv X pins σ H s){a:Addr}(h:s.heap.objs.size≤a):a∉X.fs:=fun hb=>by
 obtain⟨_,o,ho,_⟩:=I.ok.funs.mem hb
 exact absurd (c6R (c6X ho) (c6V I.sz h)) (c7Z _)
theorem Inv.cne(I:Inv X pins σ H s):∀ x c,X.env.cells.lookup x=some c→c≠X.env.locals:=fun x c e z=>by
 obtain⟨v,o,ho,hd⟩:=I.cell x c e
 obtain⟨m,⟨o',es,ep,ho',hd',_⟩,_⟩:=I.loc
 rw[z,ho']at ho;cases ho;rw[hd']at hd;cases hd
theorem Inv.funs(I:Inv X pins σ H s):s.heap.FunFrames X.base X.outer:=by
 have all:∀(l:List Env),(∀ b∈frs l,b∈X.fs)→X.s₀.heap.FunFrames X.base l→s.heap.FunFrames X.base l:=by
  intro l
  induction l with
  | nil=>intro _ _;trivial
  | cons env r ih =>
   intro hs hl
   obtain⟨hk,⟨L,o,hf,hn,ho,hd⟩,hr⟩:=hl
   have hL:L∈X.fs:=hs L (by unfold frs;rw[c8Q,hf];exact c7D)
   obtain⟨sl,e⟩:=I.base.slot L o ho (I.ok.frf L hL) hL fun z=>I.ok.exfs L z hL
   exact⟨hk,⟨L,_,hf,hn,e,hd⟩,ih (fun b hb=>hs b (by unfold frs;rw[c8Q,hf];exact c7j _ hb)) hr⟩
 exact all X.outer (fun _ hb=>hb) I.ok.funs
theorem Inv.stack(I:Inv X pins σ H s):s.heap.FunFrames X.base X.stack:=by
 rcases I.ok.stk with e|⟨e,hf⟩
 ·rw[e];exact I.funs
 ·rw[e]
  obtain⟨m,hn,_⟩:=I.loc
  refine .cons (by rw[I.ok.kind];decide) hf hn ?_ I.funs
  exact c9y (c6V I.ok.bsz I.ok.above)
theorem Inv.stkSub(I:Inv X pins σ H s):∀ b∈frs X.stack,b∈X.env.locals :: X.fs:=fun b hb=>by
 rcases I.ok.stk with e|⟨e,hf⟩
 ·rw[e]at hb;exact c7j _ hb
 ·rw[e]at hb
  unfold frs at hb
  rw[c8Q,hf]at hb
  exact hb
theorem Inv.stkFree(I:Inv X pins σ H s):∀ b∈frs X.stack,H b=none:=fun b hb=>by
 rcases c7h.mp (I.stkSub b hb)with e|hb
 ·rw[e];exact I.free
 ·obtain⟨_,o,ho,_⟩:=I.ok.funs.mem hb
  exact I.base.free b o ho (I.ok.frf b hb) fun z=>I.ok.exfs b z hb
theorem Inv.step{g':Array GenState}{t':Nat}{d':Drawn}{ch:List Addr}(I:Inv X pins σ H s)
  (hch:∀ b∈ch,(b∈X.ex∨X.s₀.heap.objs.size≤b)∧b≠X.env.locals∧(∀ x c,X.env.cells.lookup x=some c→c≠b)∧∀ p∈X.pn++pins,p.1≠b)
  (keep:∀ b o,b≠X.env.locals→b∉X.fs→b∉ch→s.heap.get? b=some o→H b=none→h'.get? b=some o)
  (slot:∀ b o,b≠X.env.locals→b∈X.fs→b∉ch→s.heap.get? b=some o→H b=none→∃ sl,h'.get? b=some { o with slots:=sl }) (free:∀ b o,b∉ch→s.heap.get? b=some o→H b=none→H' b=none)
  (there:∀ b o,b∉ch→s.heap.get? b=some o→∃ o',h'.get? b=some o')
  (tups:∀ b xs,H b=some (.tup xs)→H' b=some (.tup xs)) (frzs:∀ b o u,H b=some (.frz o u)→H' b=some (.frz o u)) (tbls:∀ b ps,H b=some (.tbl ps)→∃ more,H' b=some (.tbl (ps++more)))
  (ns:∀ m,s.heap.Ns X.env.locals m→h'.Ns X.env.locals m) (hok:HOk X.prog X.w H' h') (hg:AllBare g') :
  Inv X pins σ H' { s with heap:=h',gens:=g',drawn:=d',toks:=t' }:=by
 have neL:∀ b o,X.s₀.heap.get? b=some o→b≠X.env.locals:=fun b o e=>c7v (c6R (c6X e) I.ok.above)
 have neC:∀ b o,X.s₀.heap.get? b=some o→b∉X.ex→b∉ch:=fun b o e hx hb=>by
  rcases(hch b hb).1 with z|z
  ·exact hx z
  ·exact absurd (c6R (c6X e) z) (c7Z _)
 have cellK:∀ x c,X.env.cells.lookup x=some c→∀ v,s.heap.IsCell c v→h'.IsCell c v:=fun x c e v zz=>by
  obtain⟨o,ho,hd⟩:=zz
  have nch:c∉ch:=fun z=>(hch c z).2.2.1 x c e rfl
  by_cases hc:c∈X.fs
  ·obtain⟨sl,q⟩:=slot c o (I.cne x c e) hc nch ho (I.freeC x c e)
   exact⟨_,q,hd⟩
  ·exact⟨o,keep c o (I.cne x c e) hc nch ho (I.freeC x c e),hd⟩
 refine⟨I.ok,I.os,hg,⟨fun b o e n hb hx=>?_,fun b o e n hb hx=>?_,fun b o e n hx=>?_,fun b o e hx=>?_,fun b xs e=>tups b xs (I.base.tups b xs e),fun b o xs e=>frzs b o xs (I.base.frzs b o xs e),fun b ps e=>?_⟩,?_,fun x c e=>?_,?_,fun x c e=>?_,fun p hp=>?_,hok,I.len⟩
 ·exact keep b o (neL b o e) hb (neC b o e hx) (I.base.keep b o e n hb hx) (I.base.free b o e n hx)
 ·obtain⟨sl,e1⟩:=I.base.slot b o e n hb hx
  obtain⟨sl',e2⟩:=slot b _ (neL b o e) hb (neC b o e hx) e1 (I.base.free b o e n hx)
  exact⟨sl',e2⟩
 ·obtain⟨o',e1⟩:=I.base.there b o e hx
  exact free b o' (neC b o e hx) e1 (I.base.free b o e n hx)
 ·obtain⟨o',e1⟩:=I.base.there b o e hx
  exact there b o' (neC b o e hx) e1
 ·obtain⟨m1,e1⟩:=I.base.tbls b ps e
  obtain⟨m2,e2⟩:=tbls b _ e1
  exact⟨m1++m2,by rw[e2,Array.append_assoc]⟩
 ·obtain⟨m,hn,hl⟩:=I.loc
  refine⟨m,ns m hn,fun i x v e1 e2 e3=>?_⟩
  obtain⟨u,r,l⟩:=hl i x v e1 e2 e3
  refine⟨u,r,?_⟩
  rcases l with l|⟨k,c,e,z⟩
  ·exact .inl l
  ·exact .inr ⟨k,c,e,cellK x c e _ z⟩
 ·obtain⟨v,z⟩:=I.cell x c e
  exact⟨v,cellK x c e v z⟩
 ·obtain⟨m,⟨o,_,_,ho,_⟩,_⟩:=I.loc
  exact free _ o (fun z=>(hch _ z).2.1 rfl) ho I.free
 ·obtain⟨v,o,ho,hd⟩:=I.cell x c e
  exact free c o (fun z=>(hch c z).2.2.1 x c e rfl) ho (I.freeC x c e)
 ·obtain⟨e,n,ne,nf,d⟩:=I.pin p hp
  have nch:p.1∉ch:=fun z=>(hch p.1 z).2.2.2 p hp rfl
  exact⟨keep p.1 p.2 ne nf nch e n,free p.1 p.2 nch e n,ne,nf,d⟩
theorem Inv.un{t':Nat}(I:Inv X pins σ H s)(u:Un X.fs [] H H' s.heap h')(hok:HOk X.prog X.w H' h'):Inv X pins σ H' { s with heap:=h',toks:=t' }:=by
 obtain⟨m,⟨o,es,ep,ho,r⟩,_⟩:=id I.loc
 obtain⟨sl,hL⟩:=u.any ho I.free (by simp)
 exact I.step (g':=s.gens) (d':=s.drawn) (ch:=[]) (fun _ z=>nomatch z) (fun b o _ hb _ e n=>u.keep b o e n hb (by simp)) (fun b o _ hb _ e n=>u.slot b o e n hb (by simp)) (fun b o _ e n=>u.free b o e n (by simp)) (fun b o _ e=>u.there b o e (by simp)) u.tups u.frzs u.tbls (fun m' hm=>by
  obtain⟨o',es',ep',ho',r'⟩:=hm
  rw[ho]at ho';cases ho'
  exact⟨_,es',ep',hL,r'⟩) hok I.bare
theorem Inv.call{g':Array GenState}{t':Nat}{d':Drawn}{ch:List Addr}(I:Inv X pins σ H s)(u:Un (frs X.stack) ch H H' s.heap h')(hok:HOk X.prog X.w H' h')(hg:AllBare g')
  (hch:∀ b∈ch,(b∈X.ex∨X.s₀.heap.objs.size≤b)∧b≠X.env.locals∧(∀ x c,X.env.cells.lookup x=some c→c≠b)∧∀ p∈X.pn++pins,p.1≠b) :
  Inv X pins σ H' { s with heap:=h',gens:=g',drawn:=d',toks:=t' }:=by
 obtain⟨m,⟨o,es,ep,ho,r⟩,_⟩:=id I.loc
 obtain⟨sl,hL⟩:=u.any ho I.free fun z=>(hch _ z).2.1 rfl
 exact I.step (ch:=ch) hch (fun b o hL hb hc e n=>u.keep b o e n (fun z=>(c7h.mp (I.stkSub b z)).elim hL hb) hc) (fun b o _ _ hc e n=>u.any e n hc) (fun b o hc e n=>u.free b o e n hc) (fun b o hc e=>u.there b o e hc) u.tups u.frzs u.tbls (fun m' hm=>by
  obtain⟨o',es',ep',ho',r'⟩:=hm
  rw[ho]at ho';cases ho'
  exact⟨_,es',ep',hL,r'⟩) hok hg
theorem Inv.turned{t':Nat}{it:Addr}(I:Inv X pins σ H s)(k:∀ b o,b≠it→s.heap.get? b=some o→h'.get? b=some o)(hn:H it=none)(hL:it≠X.env.locals)
  (h1:it∈X.ex∨X.s₀.heap.objs.size≤it) (h2:∀ x c,X.env.cells.lookup x=some c→c≠it) (h3:∀ p∈X.pn++pins,p.1≠it):Inv X pins σ H { s with heap:=h',toks:=t' }:=by
 have nit:∀ b u,H b=some u→b≠it:=fun b u e z=>by rw[z,hn]at e;cases e
 refine I.step (g':=s.gens) (d':=s.drawn) (ch:=[it]) (fun b hb=>?_) (fun b o _ _ hc e _=>k b o (fun z=>hc (by simp[z])) e) (fun b o _ _ hc e _=>⟨o.slots,k b o (fun z=>hc (by simp[z])) e⟩) (fun _ _ _ _ n=>n)
  (fun b o hc e=>⟨o,k b o (fun z=>hc (by simp[z])) e⟩) (fun _ _ e=>e) (fun _ _ _ e=>e) (fun b ps e=>⟨#[],by rw[e];simp⟩) (fun m hm=>?_) (fun b u e=>?_) I.bare
 ·have e:b=it:=by simpa using hb
  subst e
  exact⟨h1,hL,h2,h3⟩
 ·obtain⟨o,es,ep,ho,r⟩:=hm
  exact⟨o,es,ep,k _ o (Ne.symm hL) ho,r⟩
 ·refine(I.hok b u e).stay (fun c v hc q=>k c v ?_ q) (fun _ q=>q) fun _ _ q=>q
  rcases hc with z|z
  ·rw[z];exact nit b u e
  ·exact nit c _ z
theorem Inv.tok(I:Inv X pins σ H s)(t:Nat):Inv X pins σ H { s with toks:=t }:=I.un (h':=s.heap) (t':=t) Un.refl I.hok
theorem Inv.kept{t':Nat}(I:Inv X pins σ H s)(k:∀ b u,s.heap.get? b=some u→h'.get? b=some u):Inv X pins σ H { s with heap:=h',toks:=t' }:=I.un (Un.kept k) (I.hok.kept k)
theorem Inv.laid{a:Addr}{o:HO}{t':Nat}(I:Inv X pins σ H s)(k:∀ b u,s.heap.get? b=some u→h'.get? b=some u)(hp:s.heap.objs.size≤a)(new:E1 X.prog X.w (upd H a o) h' a o) :
  Inv X pins σ (upd H a o) { s with heap:=h',toks:=t' }:=I.un (Un.laid k hp (I.hok.fresh hp)) (I.hok.laid k hp new)
theorem Inv.write{x e:Addr}{o:HO}{t':Nat}(I:Inv X pins σ H s)(mu:Mut (H x))(he:e=x∨H e=some (.own x))(k:∀ b u,b≠e→s.heap.get? b=some u→h'.get? b=some u)(heo:∃ u,h'.get? e=some u)
  (new:E1 X.prog X.w (upd H x o) h' x o):Inv X pins σ (upd H x o) { s with heap:=h',toks:=t' }:=I.un (Un.write mu he k heo) (I.hok.write mu he k heo new)
theorem Inv.pins_of{pins':List (Addr × Obj)}(I:Inv X pins σ H s)(h:∀ p∈pins',s.heap.get? p.1=some p.2∧H p.1=none∧p.1≠X.env.locals∧p.1∉X.fs∧∀ v,p.2.data ≠ .cell v):Inv X pins' σ H s :=
 ⟨I.ok,I.os,I.bare,I.base,I.loc,I.cell,I.free,I.freeC,fun p hp=>(c7i.mp hp).elim (fun z=>I.pin p (c9z _ z)) (h p),I.hok,I.len⟩
theorem a8r{N:List Str}(hN:N.Nodup){i j:Nat}{x:Str}(a:N[i]? = some x)(b:N[j]? = some x):i=j:=by
 obtain⟨h1,e1⟩:=c6P.mp a
 obtain⟨h2,e2⟩:=c6P.mp b
 exact(List.getElem_inj hN).mp (e1.trans e2.symm)
theorem a5s{M:Model}{A:Around}{E:Value→Shared→Prop}{i:Nat}{x:Str}{v:V}{u:Value}{Q:Unit→Shared→Prop}(I:Inv X pins σ H s)(hN:X.N.Nodup)(hi:X.N[i]? = some x)(hx:Loc X.env.scope x)(r:u0 v u)
  (h:∀ s',Inv X pins (σ.set i (some v)) H s'→(∃ a,Heap.SameBut a s.heap s'.heap∧(a=X.env.locals∨X.env.cells.lookup x=some a))→Q () s') (hf:X.fn x=true∨X.env.scope.names.lookup x=some .local:=by first|exact .inl rfl|exact .inr rfl|assumption):wpAny M A (storeName X.env x u) Q E s:=by
 obtain⟨m,hn,hl⟩:=id I.loc
 have hcls:(X.env.scope.kind == .class || (X.env.scope.kind == .module && X.env.locals != X.env.globals))=false:=by rw[I.ok.kind];rfl
 have hiσ:i<σ.length:=by rw[I.len];exact(c6P.mp hi).1
 have cne:=I.cne
 have tracked:∀{a:Addr} {h':Heap},(∃ o,s.heap.get? a=some o∧H a=none)→Heap.SameBut a s.heap h'→HOk X.prog X.w H h':=fun{a h'} ha hs b ob e=>by
  obtain⟨_,_,hfree⟩:=ha
  refine(I.hok b ob e).stay (fun c w' hc q=>(hs.2 c ?_).trans q) (fun _ q=>q) fun _ _ q=>q
  rintro rfl
  rcases hc with rfl|hc
  ·rw[hfree]at e;cases e
  ·rw[hfree]at hc;cases hc
 rcases hx with hk|hk
 ·refine wpAny_storeName_local hk hn (fun h' hn' hs=>?_) hcls
  obtain⟨oL,_,_,hoL,_⟩:=id hn
  refine h _ ⟨I.ok,I.os,I.bare,⟨fun b o e n hb hx=>?_,fun b o e n hb hx=>?_,I.base.free,fun b o e hx=>?_,I.base.tups,I.base.frzs,I.base.tbls⟩,⟨_,hn',fun j y v' e1 e2 e3=>?_⟩,fun y c e=>?_,I.free,I.freeC,fun p hp=>?_,tracked ⟨oL,hoL,I.free⟩ hs,by simpa using I.len⟩ ⟨_,hs,.inl rfl⟩
  ·exact(hs.2 b (c7v (c6R (c6X e) I.ok.above))).trans (I.base.keep b o e n hb hx)
  ·obtain⟨sl,e1⟩:=I.base.slot b o e n hb hx
   exact⟨sl,(hs.2 b (c7v (c6R (c6X e) I.ok.above))).trans e1⟩
  ·obtain⟨o',e1⟩:=I.base.there b o e hx
   exact⟨o',(hs.2 b (c7v (c6R (c6X e) I.ok.above))).trans e1⟩
  ·by_cases hj:j=i
   ·subst hj
    rw[hi]at e1;cases e1
    rw[c9p hiσ]at e2
    cases e2
    exact⟨u,r,.inl ⟨hk,by simp⟩⟩
   ·rw[c9A (Ne.symm hj)]at e2
    obtain⟨u',r',q⟩:=hl j y v' e1 e2 e3
    refine⟨u',r',?_⟩
    rcases q with⟨k,e⟩|⟨k,c,e,z⟩
    ·refine .inl ⟨k,?_⟩
     have:y≠x:=fun e=>hj (a8r hN e1 (e▸hi))
     simp[this,e]
    ·exact .inr ⟨k,c,e,z.sameBut hs (cne y c e)⟩
  ·obtain⟨w',z⟩:=I.cell y c e
   exact⟨w',z.sameBut hs (cne y c e)⟩
  ·obtain⟨e,n,ne,nf,d⟩:=I.pin p hp
   exact⟨(hs.2 p.1 ne).trans e,n,ne,nf,d⟩
 ·have hfn:X.fn x=true:=by
   rcases hf with z|z
   ·exact z
   ·rw[z]at hk;cases hk
  obtain⟨c,hc⟩:=I.ok.has x (.inl hk)
  obtain⟨w',z⟩:=I.cell x c hc
  refine wpAny_storeName_cell I.ok.kind hk hc z (fun h' hc' hs=>?_)
  obtain⟨oc,hoc,hocd⟩:=id z
  refine h { s with heap:=h' } ⟨I.ok,I.os,I.bare,⟨fun b o e n hb hx=>?_,fun b o e n hb hx=>?_,I.base.free,fun b o e hx=>?_,I.base.tups,I.base.frzs,I.base.tbls⟩,⟨m,hn.sameBut hs (Ne.symm (cne x c hc)),fun j y v' e1 e2 e3=>?_⟩,fun y c' e=>?_,I.free,I.freeC,fun p hp=>?_,tracked ⟨oc,hoc,I.freeC x c hc⟩ hs,by simpa using I.len⟩ ⟨c,hs,.inr hc⟩
  ·exact(hs.2 b (c7v (c6R (c6X e) (I.ok.cab x c hfn hc)))).trans (I.base.keep b o e n hb hx)
  ·obtain⟨sl,e1⟩:=I.base.slot b o e n hb hx
   exact⟨sl,(hs.2 b (c7v (c6R (c6X e) (I.ok.cab x c hfn hc)))).trans e1⟩
  ·obtain⟨o',e1⟩:=I.base.there b o e hx
   exact⟨o',(hs.2 b (c7v (c6R (c6X e) (I.ok.cab x c hfn hc)))).trans e1⟩
  ·by_cases hj:j=i
   ·subst hj
    rw[hi]at e1;cases e1
    rw[c9p hiσ]at e2
    cases e2
    exact⟨u,r,.inr ⟨.inl hk,c,hc,hc'⟩⟩
   ·rw[c9A (Ne.symm hj)]at e2
    obtain⟨u',r',q⟩:=hl j y v' e1 e2 e3
    refine⟨u',r',?_⟩
    rcases q with q|⟨k,c',e,z'⟩
    ·exact .inl q
    ·refine .inr ⟨k,c',e,z'.sameBut hs ?_⟩
     rintro rfl
     exact hj (a8r hN e1 (I.ok.inj _ _ _ e hc▸hi))
  ·by_cases hcc:c'=c
   ·subst hcc;exact⟨_,hc'⟩
   ·obtain⟨w2,z2⟩:=I.cell y c' e
    exact⟨w2,z2.sameBut hs hcc⟩
  ·obtain⟨e,n,ne,nf,d⟩:=I.pin p hp
   refine⟨(hs.2 p.1 ?_).trans e,n,ne,nf,d⟩
   intro q
   rw[q,hoc]at e
   have q':oc=p.2:=Option.some.inj e
   exact d w' (by rw[← q'];exact hocd)
theorem a04{M:Model}{A:Around}{E:Value→Shared→Prop}{i:Nat}{x:Str}{v:V}{u:Value}{Q:Unit→Shared→Prop}(I:Inv X pins σ H s)(hN:X.N.Nodup)(hi:X.N[i]? = some x)(hx:Loc X.env.scope x)(r:u0 v u)
  (h:∀ s',Inv X pins (σ.set i (some v)) H s'→Q () s') (hf:X.fn x=true∨X.env.scope.names.lookup x=some .local:=by first|exact .inl rfl|exact .inr rfl|assumption):wpAny M A (storeName X.env x u) Q E s :=
 a5s I hN hi hx r (fun s' I' _=>h s' I') hf
theorem Inv.call'{s':Shared}{ch:List Addr}(I:Inv X pins σ H s)(ho:s'.os=s.os)(u:Un (frs X.stack) ch H H' s.heap s'.heap)(hok:HOk X.prog X.w H' s'.heap)(hg:AllBare s'.gens)
  (hch:∀ b∈ch,(b∈X.ex∨X.s₀.heap.objs.size≤b)∧b≠X.env.locals∧(∀ x c,X.env.cells.lookup x=some c→c≠b)∧∀ p∈X.pn++pins,p.1≠b):Inv X pins σ H' s':=by
 obtain⟨h',g',d',t',o'⟩:=s'
 have e:o'=s.os:=ho
 subst e
 exact I.call (g':=g') (t':=t') (d':=d') u hok hg hch
end
abbrev XK:=Value→Option Addr→Hp→Prop
abbrev St:=List (Option V)
abbrev VK:=V→Hp→Prop
abbrev TE:=St→Hp→VK→Prop
abbrev TT:=St→Hp→(Bool→Hp→Prop)→Prop
abbrev TA:=St→Hp→(List V→Hp→Prop)→Prop
structure a8U where
 nx:St→Hp→Prop
 rt:VK
 bk:St→Hp→Prop:=fun _ _=>False
 ct:St→Hp→Prop:=fun _ _=>False
abbrev TS:=a8U→St→Hp→Prop
def EP(X:Cx)(pins:List (Addr × Obj))(σ:St)(Q:VK)(u:Value)(s':Shared):Prop:=∃ v H',Inv X pins σ H' s'∧u0 v u∧Q v H'
def TP(X:Cx)(pins:List (Addr × Obj))(σ:St)(Q:Bool→Hp→Prop)(b:Bool)(s':Shared):Prop:=∃ H',Inv X pins σ H' s'∧Q b H'
def AP(X:Cx)(pins:List (Addr × Obj))(σ:St)(Q:List V→Hp→Prop)(us:List Value)(s':Shared):Prop:=∃ vs H',Inv X pins σ H' s'∧p0 vs us∧Q vs H'
def SP(X:Cx)(pins:List (Addr × Obj))(D:a8U)(f:Flow)(s':Shared):Prop :=
 match f with
 | .next=>∃ σ' H',Inv X pins σ' H' s'∧D.nx σ' H'
 | .brk=>∃ σ' H',Inv X pins σ' H' s'∧D.bk σ' H'
 | .cont=>∃ σ' H',Inv X pins σ' H' s'∧D.ct σ' H'
 | .ret u=>∃ v σ' H',Inv X pins σ' H' s'∧u0 v u∧D.rt v H'
def PE(X:Cx)(e:Expr)(t:TE):Prop :=
 ∀(pins:List (Addr × Obj)) (s:Shared) (σ:St) (H:Hp) (Q:VK),Inv X pins σ H s→t σ H Q→wpAny (model X.prog X.w) X.A (eval e X.env) (EP X pins σ Q) X.xe s
def PT(X:Cx)(e:Expr)(t:TT):Prop :=
 ∀(pins:List (Addr × Obj)) (s:Shared) (σ:St) (H:Hp) (Q:Bool→Hp→Prop),Inv X pins σ H s→t σ H Q→wpAny (model X.prog X.w) X.A (isTrue e X.env (eval e X.env)) (TP X pins σ Q) X.xe s
def PW(X:Cx)(e:Expr)(t:TT):Prop :=
 ∀(whole:Sem Value) (pins:List (Addr × Obj)) (s:Shared) (σ:St) (H:Hp) (Q:Bool→Hp→Prop),Inv X pins σ H s→t σ H Q→wpAny (model X.prog X.w) X.A (isTrue e X.env whole) (TP X pins σ Q) X.xe s
theorem PW.pt{X:Cx}{e:Expr}{t:TT}(h:PW X e t):PT X e t:=h _
def PA(X:Cx)(es:List Expr)(t:TA):Prop :=
 ∀(pos:Pos) (pins:List (Addr × Obj)) (s:Shared) (σ:St) (H:Hp) (Q:List V→Hp→Prop),Inv X pins σ H s→t σ H Q→wpAny (model X.prog X.w) X.A (spliced (backTo pos (starEach es X.env))) (AP X pins σ Q) X.xe s
def PS(X:Cx)(st:Stmt)(t:TS):Prop :=
 ∀(pins:List (Addr × Obj)) (s:Shared) (σ:St) (H:Hp) (D:a8U),Inv X pins σ H s→t D σ H→wpAny (model X.prog X.w) X.A (exec st X.env) (SP X pins D) X.xe s
def PSs(X:Cx)(st:List Stmt)(t:TS):Prop :=
 ∀(pins:List (Addr × Obj)) (s:Shared) (σ:St) (H:Hp) (D:a8U),Inv X pins σ H s→t D σ H→wpAny (model X.prog X.w) X.A (execs st X.env) (SP X pins D) X.xe s
theorem thn{α:Type}{t:Sem α}{Q Q':α→Shared→Prop}{M:Model}{A:Around}{E:Value→Shared→Prop}{s:Shared}(h:wpAny M A t Q E s)(hQ:∀ a s,Q a s→Q' a s):wpAny M A t Q' E s:=wpAny_mono h hQ fun _ _ x=>x
end L2
namespace L2
open PySem PySem.Spec PyProof.Rows
section
variable {X:Cx}
def c1G(i:Nat):TE:=fun σ H Q=>∃ v,σ[i]? = some (some v)∧Q v H
def tC(v:V):TE:=fun _ H Q=>Q v H
theorem b4c{i:Nat}{x:Str}{pos:Pos}(hN:X.N[i]? = some x)(hv:Vis X.env.scope x)(hd:(x == ("__debug__" : Str))=false:=by decide)(hcd:(x == ("__classdict__" : Str))=false:=by decide):PE X (.Name x pos) (c1G i):=by
 intro pins s σ H Q I h
 obtain⟨v,e,h⟩:=h
 obtain⟨m,hn,hl⟩:=I.loc
 obtain⟨u,r,l⟩:=hl i x v hN e hv
 have fin:EP X pins σ Q u s:=⟨v,H,I,r,h⟩
 rcases l with⟨hk,hm⟩|⟨hk,c,hc,hcell⟩
 ·exact wpAny_Name (wpAny_loadName_local I.ok.kind hk hn hm fin) hd
 ·rcases hk with hk|hk
  ·exact wpAny_Name (wpAny_loadName_cell I.ok.kind hk hc hcell fin) hd
  ·exact wpAny_Name (wpAny_loadName_free I.ok.kind hk hc hcell fin hcd) hd
theorem c0f{i j pos}:PE X (.Constant (.int i) j pos) (tC (.int i)):=fun _ _ _ H _ I h=>wpAny_Constant_int ⟨.int i,H,I.tok _,⟨_,rfl⟩,h⟩
theorem c2f{b j pos}:PE X (.Constant (.bool b) j pos) (tC (.bl b)):=fun _ _ _ H _ I h=>Constant_bool ⟨.bl b,H,I,rfl,h⟩
theorem c0e{j pos}:PE X (.Constant .none j pos) (tC .non):=fun _ _ _ H _ I h=>Constant_none ⟨.non,H,I,rfl,h⟩
theorem c0b{x j pos}:PE X (.Constant (.str x) j pos) (tC (.str x)):=fun _ _ _ H _ I h=>Calls.Constant_str ⟨.str x,H,I.tok _,⟨_,rfl⟩,h⟩
def Gl(X:Cx)(x:Str):Prop:=X.env.kindOf x=some .globalImplicit
theorem b02{E:Value→Shared→Prop}{pins:List (Addr × Obj)}{s:Shared}{σ:St}{H:Hp}{x:Str}{u:Value}{pos:Pos}{Q:Value→Shared→Prop}(I:Inv X pins σ H s)(hg:Gl X x)(hm:X.mg x=some u)(h:Q u s)
  (hd:(x == ("__debug__" : Str))=false:=by decide):wpAny (model X.prog X.w) X.A (eval (.Name x pos) X.env) Q E s :=
 Calls.Name_function_global I.ok.kind hg (Calls.loadGlobal_global (by rw[I.ok.glob];exact I.mod.glob.keeps I.bk) hm h) hd
theorem Q0{E:Value→Shared→Prop}{pins:List (Addr × Obj)}{s:Shared}{σ:St}{H:Hp}{x:Str}{u:Value}{pos:Pos}{Q:Value→Shared→Prop}(I:Inv X pins σ H s)(hg:Gl X x)(hm:X.mg x=none)(hv:bootBuiltins x=some u)(h:Q u s)
  (hn:x ≠ "__name__" := by decide) (hd:(x == ("__debug__" : Str))=false:=by decide):wpAny (model X.prog X.w) X.A (eval (.Name x pos) X.env) Q E s:=by
 obtain⟨mb,h1,h2⟩:=I.mod.blt
 exact Calls.Name_function_global I.ok.kind hg (Calls.loadGlobal_builtin (by rw[I.ok.glob];exact I.mod.glob.keeps I.bk) hm (by rw[I.ok.blt];exact h1.keeps I.bk) ((h2 x hn).trans hv) h) hd
theorem b7l{x:Str}{v:V}{u:Value}{pos:Pos}(hg:Gl X x)(hm:X.mg x=some u)(r:u0 v u)(hd:(x == ("__debug__" : Str))=false:=by decide):PE X (.Name x pos) (tC v) :=
 fun _ _ _ H _ I h=>b02 I hg hm ⟨v,H,I,r,h⟩ hd
theorem b7p{x:Str}{v:V}{u:Value}{pos:Pos}(hg:Gl X x)(hm:X.mg x=none)(hv:bootBuiltins x=some u)(r:u0 v u)(hn:x ≠ "__name__" := by decide)(hd:(x == ("__debug__" : Str))=false:=by decide):PE X (.Name x pos) (tC v) :=
 fun _ _ _ H _ I h=>Q0 I hg hm hv ⟨v,H,I,r,h⟩ hn hd
variable {a b:Expr} {ta tb:TE} {pos:Pos}
theorem u0.none_iff{x:V}{v:Value}(r:u0 x v):(v == Value.none)=decide (x = .non):=by
 cases x with
 | non=>cases r;rfl
 | bl _=>cases r;rfl
 | int _=>obtain⟨t,rfl⟩:=r;rfl
 | str _=>obtain⟨t,rfl⟩:=r;rfl
 | byt _=>obtain⟨t,rfl⟩:=r;rfl
 | flt _=>obtain⟨t,rfl⟩:=r;rfl
 | ref _=>cases r;rfl
 | ty _=>cases r;rfl
def tB(t:TE):TT:=fun σ H Q=>t σ H fun x H1=>∃ c,x = .bl c∧Q c H1
theorem b9Z{e:Expr}{t:TE}(h:PE X e t)(he:∀ whole,isTrue e X.env whole=(do let v ← whole;standAt e.pos;holding [v] (truthy v)):=by intro _;rfl):PT X e (tB t):=by
 intro pins s σ H Q I hw
 refine isTrue_plain (thn (h pins s σ H _ I hw) fun v s1 ⟨x,H1,I1,r1,q1⟩=>?_) (he _)
 obtain⟨d,rfl,q⟩:=q1
 cases r1
 exact wpAny_truthy_bool ⟨H1,I1,q⟩
variable {tA tB':TT} {E8:List Expr}
def c3A(t u:TT):TT:=fun σ H Q=>t σ H fun c H1=>if c=true then u σ H1 Q else Q false H1
def tOr(t u:TT):TT:=fun σ H Q=>t σ H fun c H1=>if c=true then Q true H1 else u σ H1 Q
def c3u(t:TT):TT:=fun σ H Q=>t σ H fun c H1=>Q (!c) H1
theorem b6Y(ha:PT X a tA):PW X (.BoolOp .And [a] pos) tA:=by
 intro wh pins s σ H Q I h
 refine isTrue_and (thn (ha pins s σ H Q I h) fun c s1 e=>?_)
 cases c with
 | true=>exact isTrue_and_nil e
 | false=>exact e
theorem b9W(ha:PT X a tA):PW X (.BoolOp .Or [a] pos) tA:=by
 intro wh pins s σ H Q I h
 refine isTrue_or (thn (ha pins s σ H Q I h) fun c s1 e=>?_)
 cases c with
 | false=>exact isTrue_or_nil e
 | true=>exact e
theorem b9X(ha:PT X a tA)(hb:PW X (.BoolOp .And (b :: E8) pos) tB'):PW X (.BoolOp .And (a :: b :: E8) pos) (c3A tA tB'):=by
 intro wh pins s σ H Q I h
 refine isTrue_and (thn (ha pins s σ H _ I h) fun c s1 zz=>?_)
 obtain⟨H1,I1,q1⟩:=zz
 cases c with
 | true=>exact hb wh pins s1 σ H1 Q I1 q1
 | false=>exact⟨H1,I1,q1⟩
theorem c1Y(ha:PT X a tA)(hb:PW X (.BoolOp .Or (b :: E8) pos) tB'):PW X (.BoolOp .Or (a :: b :: E8) pos) (tOr tA tB'):=by
 intro wh pins s σ H Q I h
 refine isTrue_or (thn (ha pins s σ H _ I h) fun c s1 zz=>?_)
 obtain⟨H1,I1,q1⟩:=zz
 cases c with
 | true=>exact⟨H1,I1,q1⟩
 | false=>exact hb wh pins s1 σ H1 Q I1 q1
theorem b90(ha:PT X a tA):PT X (.UnaryOp .Not a pos) (c3u tA):=by
 intro pins s σ H Q I h
 exact isTrue_not (ha pins s σ H (fun c H1=>Q (!c) H1) I h)
def c1Q(ta tb:TE):TE:=fun σ H Q=>ta σ H fun x H1=>∃ c,x = .bl c∧if c=true then tb σ H1 Q else Q (.bl false) H1
def c3t(ta tb:TE):TE:=fun σ H Q=>ta σ H fun x H1=>∃ c,x = .bl c∧if c=true then Q (.bl true) H1 else tb σ H1 Q
def c1J(ta:TE):TE:=fun σ H Q=>ta σ H fun x H1=>∃ c,x = .bl c∧Q (.bl (!c)) H1
theorem c0c{op}{t:TE}(h:PE X a t):PE X (.BoolOp op [a] pos) t:=fun pins s σ H Q I hw=>BoolOp_one (h pins s σ H Q I hw)
theorem c0h(ha:PE X a ta)(hb:PE X (.BoolOp .And (b :: E8) pos) tb):PE X (.BoolOp .And (a :: b :: E8) pos) (c1Q ta tb):=by
 intro pins s σ H Q I h
 refine BoolOp_and (thn (ha pins s σ H _ I h) fun v s1 zz=>?_)
 obtain⟨x,H1,I1,r1,q1⟩:=zz
 obtain⟨c,rfl,q1⟩:=q1
 cases r1
 refine wpAny_truthy_bool ?_
 cases c with
 | true=>exact hb pins s1 σ H1 Q I1 q1
 | false=>exact⟨.bl false,H1,I1,rfl,q1⟩
theorem c2c(ha:PE X a ta)(hb:PE X (.BoolOp .Or (b :: E8) pos) tb):PE X (.BoolOp .Or (a :: b :: E8) pos) (c3t ta tb):=by
 intro pins s σ H Q I h
 refine BoolOp_or (thn (ha pins s σ H _ I h) fun v s1 zz=>?_)
 obtain⟨x,H1,I1,r1,q1⟩:=zz
 obtain⟨c,rfl,q1⟩:=q1
 cases r1
 refine wpAny_truthy_bool ?_
 cases c with
 | false=>exact hb pins s1 σ H1 Q I1 q1
 | true=>exact⟨.bl true,H1,I1,rfl,q1⟩
theorem c0d(ha:PE X a ta):PE X (.UnaryOp .Not a pos) (c1J ta):=by
 intro pins s σ H Q I h
 refine UnaryOp_ (thn (ha pins s σ H _ I h) fun v s1 zz=>?_)
 obtain⟨x,H1,I1,r1,q1⟩:=zz
 obtain⟨c,rfl,q1⟩:=q1
 cases r1
 exact not_of (wpAny_truthy_bool ⟨.bl (!c),H1,I1,rfl,q1⟩)
def tIf(t:TT)(ta tb:TE):TE:=fun σ H Q=>t σ H fun c H1=>if c=true then ta σ H1 Q else tb σ H1 Q
theorem b4f{c:Expr}(hc:PT X c tA)(ha:PE X a ta)(hb:PE X b tb):PE X (.IfExp c a b pos) (tIf tA ta tb):=by
 intro pins s σ H Q I h
 refine wpAny_IfExp (thn (hc pins s σ H _ I h) fun d s1 zz=>?_)
 obtain⟨H1,I1,q1⟩:=zz
 cases d with
 | true=>exact ha pins s1 σ H1 Q I1 q1
 | false=>exact hb pins s1 σ H1 Q I1 q1
end
end L2
namespace L2
open PySem PySem.Spec PyProof.Rows
def SqL(K:c6M)(H:Hp)(a:Addr)(xs:List V):Prop :=
 Rd H a (.lst xs) ∨
  ∃(o:Obj) (its:Array Value) (n:Nat),K.lookup a=some o∧o.cls = .type "list" ∧ o.dict=none∧o.data = .seq its n∧its.size≤sizeLine∧p0 xs its.toList
def SqT(K:c6M)(H:Hp)(a:Addr)(xs:List V):Prop :=
 Rd H a (.tup xs) ∨
  ∃(o:Obj) (its:Array Value) (n:Nat),K.lookup a=some o∧o.cls = .type "tuple" ∧ o.data = .seq its n∧its.size≤sizeLine∧p0 xs its.toList
def c3V:Value→Option V
 | .none=>some .non
 | .bool b=>some (.bl b)
 | .int i _=>some (.int i)
 | .str x _=>some (.str x)
 | .bytes b _=>some (.byt b)
 | .float b _=>some (.flt b)
 | .ref a=>some (.ref a)
 | .type n=>some (.ty n)
 | _=>none
theorem u0.abs{x:V}{u:Value}(r:u0 x u):c3V u=some x:=by
 cases x with
 | non=>cases r;rfl
 | bl _=>cases r;rfl
 | int _=>obtain⟨t,rfl⟩:=r;rfl
 | str _=>obtain⟨t,rfl⟩:=r;rfl
 | byt _=>obtain⟨t,rfl⟩:=r;rfl
 | flt _=>obtain⟨t,rfl⟩:=r;rfl
 | ref _=>cases r;rfl
 | ty _=>cases r;rfl
theorem u0.inj{x y:V}{u:Value}(r:u0 x u)(q:u0 y u):x=y:=Option.some.inj (r.abs.symm.trans q.abs)
theorem p0.inj:∀{xs ys:List V} {us:List Value},p0 xs us→p0 ys us→xs=ys
 | _,_,_,.nil,.nil=>rfl
 | _,_,_,.cons r t,.cons r' t'=>by rw[r.inj r',p0.inj t t']
section
variable {X:Cx} {pins:List (Addr × Obj)} {σ:St} {H:Hp} {s:Shared} {a:Addr} {xs ys:List V}
theorem SqL.of{K:c6M}(h:H a=some (.lst xs)):SqL K H a xs:=.inl (.inl h)
theorem SqT.of{K:c6M}(h:H a=some (.tup xs)):SqT K H a xs:=.inl (.inl h)
theorem Inv.list(I:Inv X pins σ H s)(h:SqL X.K H a xs):∃ its:List Value,p0 xs its∧PlainL s.heap a its.toArray∧xs.length≤sizeLine:=by
 rcases h with h|⟨o,its,n,hk,hc,hd,hs,hz,r⟩
 ·obtain⟨z,its,n,r,e⟩:=h.ok I.hok
  exact⟨its,r,⟨_,n,e,rfl,rfl,rfl⟩,z⟩
 ·refine⟨its.toList,r,⟨o,n,I.kIn a o hk,hc,hd,by simpa using hs⟩,?_⟩
  have e:=r.length
  simp only[Array.length_toList]at e
  omega
theorem Inv.tuple(I:Inv X pins σ H s)(h:SqT X.K H a xs):∃ its:List Value,p0 xs its∧IsTup s.heap a its.toArray∧xs.length≤sizeLine:=by
 rcases h with h|⟨o,its,n,hk,hc,hs,hz,r⟩
 ·obtain⟨z,its,r,p⟩:=h.ok I.hok
  exact⟨its,r,p,z⟩
 ·refine⟨its.toList,r,⟨o,I.kIn a o hk,hc,n,by simpa using hs⟩,?_⟩
  have e:=r.length
  simp only[Array.length_toList]at e
  omega
theorem Inv.list_inj(I:Inv X pins σ H s)(h:SqL X.K H a xs)(h':SqL X.K H a ys):xs=ys:=by
 obtain⟨its,r,⟨o,n,e,_,_,d⟩,_⟩:=I.list h
 obtain⟨its',r',⟨o',n',e',_,_,d'⟩,_⟩:=I.list h'
 rw[e]at e';cases e'
 rw[d]at d'
 injection d' with d1 _
 have:its=its':=by simpa using congrArg Array.toList d1
 subst this
 exact r.inj r'
theorem Inv.tuple_inj(I:Inv X pins σ H s)(h:SqT X.K H a xs)(h':SqT X.K H a ys):xs=ys:=by
 obtain⟨its,r,⟨o,e,_,n,d⟩,_⟩:=I.tuple h
 obtain⟨its',r',⟨o',e',_,n',d'⟩,_⟩:=I.tuple h'
 rw[e]at e';cases e'
 rw[d]at d'
 injection d' with d1 _
 have:its=its':=by simpa using congrArg Array.toList d1
 subst this
 exact r.inj r'
end
abbrev Cx.wish(X:Cx)(E:Value→Shared→Prop):Cx:={ X with xe:=E }
abbrev Cx.nox(X:Cx):Cx:=X.wish fun _ _=>False
theorem Cx.Ok.wish{X:Cx}(ok:X.Ok)(E:Value→Shared→Prop):(X.wish E).Ok :=
 ⟨ok.mod,ok.kind,ok.glob,ok.blt,ok.above,ok.inj,ok.has,ok.cab,ok.hd,ok.frames,ok.stk,ok.exf,ok.bs,ok.bsz,ok.noex,ok.exfs,ok.funs,ok.frf⟩
theorem Cx.Ok.unwish{X:Cx}{E:Value→Shared→Prop}(ok:(X.wish E).Ok):X.Ok :=
 ⟨ok.mod,ok.kind,ok.glob,ok.blt,ok.above,ok.inj,ok.has,ok.cab,ok.hd,ok.frames,ok.stk,ok.exf,ok.bs,ok.bsz,ok.noex,ok.exfs,ok.funs,ok.frf⟩
section
variable {X:Cx} {pins:List (Addr × Obj)} {σ:St} {H:Hp} {s:Shared} {E:Value→Shared→Prop}
theorem Inv.wish(I:Inv X pins σ H s)(E:Value→Shared→Prop):Inv (X.wish E) pins σ H s:=⟨I.ok.wish E,I.os,I.bare,I.base,I.loc,I.cell,I.free,I.freeC,I.pin,I.hok,I.len⟩
theorem Inv.unwish(I:Inv (X.wish E) pins σ H s):Inv X pins σ H s:=⟨I.ok.unwish,I.os,I.bare,I.base,I.loc,I.cell,I.free,I.freeC,I.pin,I.hok,I.len⟩
theorem SP.unwish{D:a8U}{f:Flow}{s':Shared}(h:SP (X.wish E) pins D f s'):SP X pins D f s':=by
 cases f with
 | next=>obtain⟨σ',H',I,q⟩:=h;exact⟨σ',H',I.unwish,q⟩
 | brk=>obtain⟨σ',H',I,q⟩:=h;exact⟨σ',H',I.unwish,q⟩
 | cont=>obtain⟨σ',H',I,q⟩:=h;exact⟨σ',H',I.unwish,q⟩
 | ret u=>obtain⟨v,σ',H',I,r,q⟩:=h;exact⟨v,σ',H',I.unwish,r,q⟩
theorem PE.nox{e:Expr}{t:TE}(h:PE X.nox e t):PE X e t:=fun pins s σ H Q I hw =>
 wpAny_mono (h pins s σ H Q (I.wish _) hw) (fun _ _ ⟨v,H',I',r,q⟩=>⟨v,H',I'.unwish,r,q⟩) fun _ _ z=>False.elim z
theorem PT.nox{e:Expr}{t:TT}(h:PT X.nox e t):PT X e t:=fun pins s σ H Q I hw =>
 wpAny_mono (h pins s σ H Q (I.wish _) hw) (fun _ _ ⟨H',I',q⟩=>⟨H',I'.unwish,q⟩) fun _ _ z=>False.elim z
theorem PSs.nox{st:List Stmt}{t:TS}(h:PSs X.nox st t):PSs X st t:=fun pins s σ H D I hw =>
 wpAny_mono (h pins s σ H D (I.wish _) hw) (fun _ _ q=>q.unwish) fun _ _ z=>False.elim z
end
section
variable {X:Cx} {st:Stmt} {E8:List Stmt} {t u:TS} {e:Expr} {te:TE} {pos:Pos}
def c1K:TS:=fun D σ H=>D.nx σ H
def c3q(t u:TS):TS:=fun D σ H=>t { D with nx:=u D } σ H
theorem b69:PSs X [] c1K:=fun _ _ σ H _ I h=>wpAny_execs_nil ⟨σ,H,I,h⟩
theorem a8b(h1:PS X st t)(h2:PSs X E8 u):PSs X (st :: E8) (c3q t u):=by
 intro pins s σ H D I h
 refine wpAny_execs_cons (thn (h1 pins s σ H { D with nx:=u D } I h) fun f s1 q=>?_)
 cases f with
 | next =>
  obtain⟨σ',H',I',q⟩:=q
  exact h2 pins s1 σ' H' D I' q
 | ret v=>exact q
 | brk=>exact q
 | cont=>exact q
theorem b68(h1:PS X st t):PSs X [st] t:=by
 intro pins s σ H D I h
 refine wpAny_execs_cons (thn (h1 pins s σ H D I h) fun f s1 q=>?_)
 cases f with
 | next=>exact wpAny_execs_nil q
 | ret v=>exact q
 | brk=>exact q
 | cont=>exact q
theorem Inv.quiet{pins:List (Addr × Obj)}{σ:St}{H:Hp}{s:Shared}(I:Inv X pins σ H s):interactive X.env=false:=by simp[interactive,I.ok.kind]
def c1N(te:TE):TS:=fun D σ H=>te σ H fun _ H1=>D.nx σ H1
theorem b7b(he:PE X e te)(hs:swapsWith e none pos.line X.env=pure false:=by rfl):PS X (.Expr e pos) (c1N te):=by
 intro pins s σ H D I h
 exact wpAny_Expr_any (thn (he pins s σ H _ I h) fun v s1 ⟨x,H1,I1,r1,q1⟩=>⟨σ,H1,I1,q1⟩) I.quiet hs
def c3r(te:TE):TS:=fun D σ H=>te σ H D.rt
theorem b92(he:PE X e te):PS X (.Return (some e) pos) (c3r te):=by
 intro pins s σ H D I h
 exact wpAny_Return_some (thn (he pins s σ H _ I h) fun v s1 ⟨x,H1,I1,r1,q1⟩=>⟨x,σ,H1,I1,r1,q1⟩)
def c3x(c:TT)(t u:TS):TS:=fun D σ H=>c σ H fun b H1=>if b=true then t D σ H1 else u D σ H1
theorem c1Z{c:Expr}{a b:List Stmt}{tc:TT}(hc:PT X c tc)(ha:PSs X a t)(hb:PSs X b u):PS X (.If c a b pos) (c3x tc t u):=by
 intro pins s σ H D I h
 refine wpAny_If (thn (hc pins s σ H _ I h) fun d s1 zz=>?_)
 obtain⟨H1,I1,q1⟩:=zz
 cases d with
 | true=>exact ha pins s1 σ H1 D I1 q1
 | false=>exact hb pins s1 σ H1 D I1 q1
def b9F:TS:=fun _ _ _=>False
theorem b3W:PS X st b9F:=fun _ _ _ _ _ _ h=>h.elim
end
abbrev TG:=V→St→Hp→(St→Hp→Prop)→Prop
abbrev TGs:=List V→St→Hp→(St→Hp→Prop)→Prop
def PG(X:Cx)(target:Expr)(t:TG):Prop :=
 ∀(pins:List (Addr × Obj)) (s:Shared) (σ:St) (H:Hp) (v:V) (u:Value) (Q:St→Hp→Prop),Inv X pins σ H s→u0 v u→t v σ H Q →
  wpAny (model X.prog X.w) X.A (assign target X.env u) (fun _ s'=>∃ σ' H',Inv X pins σ' H' s'∧Q σ' H') X.xe s
def PGs(X:Cx)(ts:List Expr)(t:TGs):Prop :=
 ∀(pins:List (Addr × Obj)) (s:Shared) (σ:St) (H:Hp) (vs:List V) (us:List Value) (Q:St→Hp→Prop),Inv X pins σ H s→p0 vs us→t vs σ H Q →
  wpAny (model X.prog X.w) X.A (assignInOrder ((assignEach ts X.env).map (·.2)) us) (fun _ s'=>∃ σ' H',Inv X pins σ' H' s'∧Q σ' H') X.xe s
abbrev c02:=V→V→V→Hp→(Hp→Prop)→Prop
def c3f(X:Cx)(t:c02):Prop :=
 ∀(pins:List (Addr × Obj)) (s:Shared) (σ:St) (H:Hp) (o i v:V) (ov iv u:Value) (Q:Hp→Prop),Inv X pins σ H s→u0 o ov→u0 i iv→u0 v u→t o i v H Q →
  wpAny (model X.prog X.w) X.A (setItem ov iv u) (fun _ s'=>∃ H',Inv X pins σ H' s'∧Q H') X.xe s
section
variable {X:Cx} {pos:Pos}
def b4S(i:Nat):TG:=fun v σ H Q=>Q (σ.set i (some v)) H
theorem b7j{i:Nat}{x:Str}(hN:X.N.Nodup)(hi:X.N[i]? = some x)(hx:Loc X.env.scope x)(hf:X.fn x=true∨X.env.scope.names.lookup x=some .local:=by first|exact .inl rfl|exact .inr rfl|assumption):PG X (.Name x pos) (b4S i):=by
 intro pins s σ H v u Q I r h
 exact wpAny_assign_Name (a04 I hN hi hx r (fun s' I'=>⟨_,H,I',h⟩) hf)
def c3R:TGs:=fun vs σ H Q=>vs=[]∧Q σ H
def c2C(t:TG)(u:TGs):TGs:=fun vs σ H Q=>∃ v r,vs=v :: r∧t v σ H fun σ' H'=>u r σ' H' Q
theorem b7h:PGs X [] c3R:=by
 intro pins s σ H vs us Q I r h
 obtain⟨e,h⟩:=h
 subst e
 cases r
 exact assignInOrder_nil ⟨σ,H,I,h⟩
theorem b4b{e:Expr}{es:List Expr}{t:TG}{u:TGs}(h1:PG X e t)(h2:PGs X es u)
  (hs:(assignEach (e :: es) X.env).map (·.2)=assign e X.env :: (assignEach es X.env).map (·.2):=by rfl):PGs X (e :: es) (c2C t u):=by
 intro pins s σ H vs us Q I r h
 obtain⟨v,vr,e1,h⟩:=h
 subst e1
 cases r with
 | cons r rr =>
  rw[hs]
  refine assignInOrder_cons (thn (h1 pins s σ H _ _ _ I r h) fun _ s1 zz=>?_)
  obtain⟨σ1,H1,I1,q1⟩:=zz
  exact h2 pins s1 σ1 H1 _ _ Q I1 rr q1
def c3P(K:c6M)(n:Nat)(t:TGs):TG:=fun v σ H Q=>∃ a xs,v = .ref a∧SqT K H a xs∧xs.length=n∧t xs σ H Q
theorem b98{es:List Expr}{k:Nat}{t:TGs}{n:Nat}(hc:X.calm=true)(h:PGs X es t)
  (hn:(assignEach es X.env).length=n:=by rfl) (hst:(assignEach es X.env).findIdx? (·.1)=none:=by rfl):PG X (.Tuple es k pos) (c3P X.K n t):=by
 intro pins s σ H v u Q I r hw
 obtain⟨a,xs,e1,hq,hl,hw⟩:=hw
 subst e1
 cases r
 obtain⟨its,rv,ht,hz⟩:=I.tuple hq
 refine assign_Tuple_tuple (I.ok.hd hc) ht (by simp[hn,← hl,rv.length]) hst fun h' hx=>?_
 have I1:Inv X pins σ H { s with heap:=h' }:=I.kept (t':=s.toks) fun b o e=>hx b o (c7v (c6X e)) e
 exact h pins _ σ H xs _ Q I1 (by simpa using rv) hw
def c3Q(to ti:TE)(t:c02):TG:=fun v σ H Q=>to σ H fun o H1=>ti σ H1 fun i H2=>t o i v H2 fun H3=>Q σ H3
theorem b99{o i:Expr}{to ti:TE}{t:c02}(ho:PE X o to)(hi:PE X i ti)(hs:c3f X t)
  (ha:∀ v,assign (.Subscript o i pos) X.env v=(do
   let ov ← holding [v] (eval o X.env)
   let iv ← holding [v,ov] (eval i X.env)
   standAt pos
   holding [v,ov,iv] (setItem ov iv v)
   release [v,ov,iv] []):=by intro _;rfl):PG X (.Subscript o i pos) (c3Q to ti t):=by
 intro pins s σ H v u Q I r h
 rw[ha]
 refine c6L (wpAny_holding (thn (ho pins s σ H _ I h) fun ov s1 zz=>?_))
 obtain⟨x,H1,I1,r1,q1⟩:=zz
 refine c6L (wpAny_holding (thn (hi pins s1 σ H1 _ I1 q1) fun iv s2 zz=>?_))
 obtain⟨y,H2,I2,r2,q2⟩:=zz
 refine c6L (wpAny_standAt (c6L (wpAny_holding (thn (hs pins s2 σ H2 x y v ov iv u _ I2 r1 r2 r q2) fun _ s3 zz=>?_))))
 obtain⟨H3,I3,q3⟩:=zz
 exact wpAny_release ⟨σ,H3,I3,q3⟩
def b9G(te:TE)(g:TG):TS:=fun D σ H=>te σ H fun x H1=>g x σ H1 D.nx
theorem b95{tg e:Expr}{te:TE}{g:TG}(he:PE X e te)(hg:PG X tg g)(hs:swapsWithSole [tg] e pos.line X.env=pure false:=by rfl)(hw:swappedStores [tg] e X.env=pure none:=by rfl)
  (h1:(assignEach [tg] X.env).map (·.2)=[assign tg X.env]:=by rfl):PS X (.Assign [tg] e pos) (b9G te g):=by
 intro pins s σ H D I h
 refine wpAny_Assign_stores (thn (he pins s σ H _ I h) fun v s1 ⟨x,H1,I1,r1,q1⟩=>?_) hs hw
 rw[h1]
 exact thn (hg pins s1 σ H1 x v _ I1 r1 q1) fun _ s2 q=>q
theorem b91{i:Nat}{x:Str}{e:Expr}{te:TE}{pos':Pos}(hN:X.N.Nodup)(hi:X.N[i]? = some x)(hx:Loc X.env.scope x)(he:PE X e te)(hs:swapsWith e (some (.Name x pos')) pos.line X.env=pure false:=by rfl)(hf:X.fn x=true∨X.env.scope.names.lookup x=some .local:=by first|exact .inl rfl|exact .inr rfl|assumption) :
  PS X (.Assign [.Name x pos'] e pos) (b9G te (b4S i)):=by
 intro pins s σ H D I h
 refine wpAny_Assign_Name (thn (he pins s σ H _ I h) fun v s1 ⟨y,H1,I1,r1,q1⟩=>?_) hs
 exact a04 I1 hN hi hx r1 (fun s2 I2=>⟨_,H1,I2,q1⟩) hf
def c3s(i j:Nat)(ta:TA):TS:=fun D σ H=>ta σ H fun vs H1=>∃ v w,vs=[v,w]∧D.nx ((σ.set i (some v)).set j (some w)) H1
theorem b93{i j:Nat}{x y:Str}{a b:Expr}{ta:TA}{px py pt:Pos}{kt k2 pt2}(hc:X.calm=true)(hN:X.N.Nodup)(hi:X.N[i]? = some x)(hj:X.N[j]? = some y)(hij:i≠j)
  (hx:X.env.scope.names.lookup x=some .local) (hy:X.env.scope.names.lookup y=some .local) (ha:PA X [a,b] ta)
  (hw:swappedStores [.Tuple [.Name x px,.Name y py] kt pt] (.Tuple [a,b] k2 pt2) X.env=pure (some [x,y]))
  (hs:swapsWithSole [.Tuple [.Name x px,.Name y py] kt pt] (.Tuple [a,b] k2 pt2) pos.line X.env=pure false:=by rfl) :
  PS X (.Assign [.Tuple [.Name x px,.Name y py] kt pt] (.Tuple [a,b] k2 pt2) pos) (c3s i j ta):=by
 intro pins s σ H D I h
 rw[exec_Assign_arm]
 refine c6L (wpAny_standAt ?_)
 rw[hs]
 refine c6L (c6U ?_)
 rw[if_neg (by decide)]
 refine c6L (Tuple_ (thn (ha _ pins s σ H _ I h) fun us s1 zz=>?_))
 obtain⟨vs,H1,I1,r1,q1⟩:=zz
 obtain⟨v,w,e1,q1⟩:=q1
 subst e1
 obtain⟨u1,u2,rfl,rv,rw'⟩:∃ u1 u2,us=[u1,u2]∧u0 v u1∧u0 w u2:=by
  cases r1 with
  | cons p q =>
   cases q with
   | cons p' q' =>
    cases q'
    exact⟨_,_,rfl,p,p'⟩
 refine wpAny_newObj_type ?_ (by show 2≤sizeLine;decide)
 have I2:Inv X pins σ H1 { s1 with heap:=s1.heap.push { cls:=.type "tuple",data:=.seq [u1,u2].toArray } }:=I1.kept (t':=s1.toks) fun b o e=>c6O _ e
 rw[hw]
 refine c6L (c6U ?_)
 show wpAny (model X.prog X.w) X.A (do rule "assign.swapped-stores";let items ← unpackItems (.ref s1.heap.objs.size) 2 none;assignInOrder [fun v=>bindName X.env y v,fun v=>bindName X.env x v] items.reverse;pure Flow.next) _ _ _
 refine c6L (wpAny_rule (c6L (unpackItems_tuple (items:=#[u1,u2]) (I.ok.hd hc) (IsTup.new s1.heap _) fun h' hx'=>?_)))
 have I3:=I2.kept (h':=h') (t':=s1.toks) fun b o e=>hx' b o (c7v (c6X e)) e
 show wpAny _ _ (assignInOrder [fun v=>bindName X.env y v,fun v=>bindName X.env x v] [u2,u1] >>= fun _=>pure Flow.next) _ _ _
 refine c6L (assignInOrder_cons (wpAny_bindName (a04 I3 hN hj (.inl hy) rw' (fun s2 I4=>?_) (.inr hy))))
 refine assignInOrder_cons (wpAny_bindName (a04 I4 hN hi (.inl hx) rv (fun s3 I5=>assignInOrder_nil (c6U ?_)) (.inr hx)))
 rw[List.set_comm _ _ (Ne.symm hij)]at I5
 exact⟨_,H1,I5,q1⟩
end
section
variable {X:Cx} {pos:Pos}
def b9E(c:TT)(tb:TS):TS:=fun D σ H=>∃ W:Nat→St→Hp→Prop,(∃ m,W m σ H)∧∀ m σ H,W m σ H →
 c σ H fun b H1=>if b=true then ∃ N:St→Hp→Prop,(∀ σ' H',N σ' H'→∃ m',m'<m∧W m' σ' H')∧tb { D with nx:=N,ct:=N,bk:=D.nx } σ H1 else D.nx σ H1
theorem b3V{c:Expr}{body:List Stmt}{tc:TT}{tb:TS}(hp:PassesOwn (model X.prog X.w) X.A X.env X.xe)(hc:PT X c tc)(hb:PSs X body tb):PS X (.While c body [] pos) (b9E tc tb):=by
 intro pins s σ H D I h
 obtain⟨W,⟨m0,w0⟩,turn⟩:=h
 refine wpAny_While (codeAny_whileLoop (fun n s'=>∃ σ' H',Inv X pins σ' H' s'∧W n σ' H') ?_ m0 ⟨σ,H,I,w0⟩)
 rintro n s1 ⟨σ1,H1,I1,w1⟩
 refine wpAny_passesOwn hp (thn (hc pins s1 σ1 H1 _ I1 (turn n σ1 H1 w1)) fun b s2 zz=>?_)
 obtain⟨H2,I2,q2⟩:=zz
 cases b with
 | true =>
  obtain⟨N,hN,q2⟩:=q2
  rw[if_pos rfl]
  refine wpAny_passesOwn hp (thn (hb pins s2 σ1 H2 _ I2 q2) fun f s3 q3=>?_)
  cases f with
  | next =>
   obtain⟨σ3,H3,I3,n3⟩:=q3
   obtain⟨m',hm,w3⟩:=hN σ3 H3 n3
   exact⟨m',hm,σ3,H3,I3,w3⟩
  | cont =>
   obtain⟨σ3,H3,I3,n3⟩:=q3
   obtain⟨m',hm,w3⟩:=hN σ3 H3 n3
   exact⟨m',hm,σ3,H3,I3,w3⟩
  | brk=>exact q3
  | ret v=>exact q3
 | false =>
  rw[if_neg c7k]
  exact wpAny_execs_nil ⟨σ1,H2,I2,q2⟩
end
structure It where
 go:Nat→Hp→Prop
 yld:Nat→Hp→V→Hp→Prop
 stop:Nat→Hp→Prop
def a00(X:Cx)(pins:List (Addr × Obj))(H:Hp)(b:Addr):Prop :=
 H b=none∧b≠X.env.locals∧b∉X.fs∧(b∈X.ex∨X.s₀.heap.objs.size≤b)∧(∀ x c,X.env.cells.lookup x=some c→c≠b)∧∀ p∈X.pn++pins,p.1≠b
theorem Inv.fpOk{X:Cx}{pins:List (Addr × Obj)}{σ:St}{H H':Hp}{s:Shared}{b:Addr}(I:Inv X pins σ H s)(hb:s.heap.objs.size≤b)(hn:H' b=none):a00 X pins H' b:=by
 refine⟨hn,c7U (c6R I.lt hb),I.nofs hb,.inr (c6V I.sz hb),fun x c e z=>?_,fun p hp z=>?_⟩
 ·obtain⟨v,q⟩:=I.cell x c e
  exact absurd (c6R q.lt (by rw[z];exact hb)) (c7Z _)
 ·exact absurd (c6R (c6X (I.pin p hp).1) (by rw[z];exact hb)) (c7Z _)
structure a8Q(P:Program)(w:World)(K:c6M)(tg:Expr)(J:It)(fp:List Addr)(it:Addr)(tn:Nat→Heap→Prop):Prop where
 mem:it∈fp
 obj:∀ i h,tn i h→∀ b∈fp,∃ o,h.get? b=some o∧∀ v,o.data ≠ .cell v
 keep:∀ i h h',tn i h→(∀ b∈fp,∀ o,h.get? b=some o→h'.get? b=some o)→tn i h'
 item:∀(X:Cx),X.prog=P→X.w=w→X.K=K→X.calm=true→∀(i:Nat) (pins:List (Addr × Obj)) (s:Shared) (σ:St) (H:Hp) (E:Value→Shared→Prop),Inv X pins σ H s→(∀ b∈fp,a00 X pins H b)→tn i s.heap→J.go i H →
  wpAny (model P w) X.A (pyNext (.ref it)) (fun r s1=>∃ u,r=some u ∧
   wpAny (model P w) X.A (letOwnedTupleGo tg (.ref it) u) (fun _ s2=>∃ x H',Inv X pins σ H' s2∧u0 x u∧J.yld i H x H'∧tn (i+1) s2.heap∧∀ b∈fp,H' b=none) E s1) E s
 done:∀(X:Cx),X.prog=P→X.w=w→X.K=K→X.calm=true→∀(i:Nat) (pins:List (Addr × Obj)) (s:Shared) (σ:St) (H:Hp) (E:Value→Shared→Prop),Inv X pins σ H s→(∀ b∈fp,a00 X pins H b)→tn i s.heap→J.stop i H →
  wpAny (model P w) X.A (pyNext (.ref it)) (fun r s1=>r=none∧Inv X pins σ H s1) E s
 self:∀(A:Around) (i:Nat) (s:Shared) (Q:Value→Shared→Prop) (E:Value→Shared→Prop),tn i s.heap→Q (.ref it) s→wpAny (model P w) A (pyIter (.ref it)) Q E s
abbrev TI:=St→Hp→(It→Hp→Prop)→Prop
def PIE(X:Cx)(pins:List (Addr × Obj))(σ:St)(tg:Expr)(R:It→Hp→Prop)(itv:Value)(s2:Shared):Prop :=
 ∃(it:Addr) (fp:List Addr) (tn:Nat→Heap→Prop) (J:It) (H':Hp),itv = .ref it∧Inv X pins σ H' s2∧a8Q X.prog X.w X.K tg J fp it tn∧tn 0 s2.heap∧(∀ b∈fp,a00 X pins H' b)∧R J H'
def PI(X:Cx)(tg iter:Expr)(wi:TI):Prop :=
 ∀(pins:List (Addr × Obj)) (s:Shared) (σ:St) (H:Hp) (R:It→Hp→Prop),Inv X pins σ H s→wi σ H R →
  wpAny (model X.prog X.w) X.A (eval iter X.env) (fun v s1=>wpAny (model X.prog X.w) X.A (pyIter v) (PIE X pins σ tg R) X.xe s1) X.xe s
theorem b1b{M:Model}{A:Around}{E:Value→Shared→Prop}{s:Shared}{tg:Expr}{it:Addr}{u:Value}{o:Obj}{n:String}{vs:Array Value}{Q:Unit→Shared→Prop}(ho:s.heap.get? it=some o)(hc:o.cls = .type n)(hd:o.data = .fields vs)
  (hn:["enumerate","zip","dict_itemiterator","dict_reverseitemiterator","odict_iterator","itertools.zip_longest","itertools.pairwise"].contains n=false) (hQ:Q () s):wpAny M A (letOwnedTupleGo tg (.ref it) u) Q E s:=by
 unfold letOwnedTupleGo
 cases tg<;>first
  | exact c6U hQ
  | (cases u<;>first
    | exact c6U hQ
    | (refine c6L (wpAny_load ho ?_);rw[hc,hd];show wpAny M A (if (["enumerate","zip","dict_itemiterator","dict_reverseitemiterator","odict_iterator","itertools.zip_longest","itertools.pairwise"].contains n && vs[0]? == some (rawInt _))=true then _ else _) Q E s;rw[if_neg (by intro h;rw[hn,Bool.false_and]at h;cases h)];exact c6U hQ))
def Itl(K:c6M)(a:Addr):It :=
 ⟨fun i H=>∃ xs x,SqL K H a xs∧xs[i]? = some x,fun i H x H'=>H'=H∧∀ xs,SqL K H a xs→xs[i]? = some x,fun i H=>∃ xs,SqL K H a xs∧xs.length≤i⟩
def Itt(K:c6M)(a:Addr):It :=
 ⟨fun i H=>∃ xs x,SqT K H a xs∧xs[i]? = some x,fun i H x H'=>H'=H∧∀ xs,SqT K H a xs→xs[i]? = some x,fun i H=>∃ xs,SqT K H a xs∧xs.length≤i⟩
def Itr(lo:Int)(n:Nat):It:=⟨fun i _=>i<n,fun i H x H'=>H'=H∧x = .int (lo+i),fun i _=>n≤i⟩
theorem b1A{P:Program}{w:World}{K:c6M}{tg:Expr}(a it:Addr):a8Q P w K tg (Itl K a) [it] it (fun i h=>h.IsListIter it a i) where
 mem:=by simp
 obj:=fun i h st b hb=>by
  have e:b=it:=by simpa using hb
  subst e
  obtain⟨o,e,c,d⟩:=st
  exact⟨o,e,fun v z=>by rw[d]at z;cases z⟩
 keep:=fun i h h' st k=>st.at fun o e=>k it (by simp) o e
 item:=by
  intro X hP hw hK hc i pins s σ H E I hf st hg
  subst hP hw hK
  obtain⟨xs,x,hq,hx⟩:=hg
  obtain⟨its,rv,p,hz⟩:=I.list hq
  obtain⟨u,hu,ru⟩:=rv.get hx
  obtain⟨f0,f1,f2,f3,f4,f5⟩:=hf it (by simp)
  refine wpAny_pyNext_list_item st p.isList (x:=u) (by simpa using hu) fun h' st' sb=>?_
  have I1:Inv X pins σ H { s with heap:=h' }:=I.turned (t':=s.toks) (fun b o hb e=>(sb.2 b hb).trans e) f0 f1 f3 f4 f5
  obtain⟨o,e,c,d⟩:=id st'
  exact⟨u,rfl,b1b (s:={ s with heap:=h' }) e c d (by decide) ⟨x,H,I1,ru,⟨rfl,fun ys hy=>by rw[I.list_inj hy hq];exact hx⟩,st',fun b hb=>(hf b hb).1⟩⟩
 done:=by
  intro X hP hw hK hc i pins s σ H E I hf st hg
  subst hP hw hK
  obtain⟨xs,hq,hx⟩:=hg
  obtain⟨its,rv,p,hz⟩:=I.list hq
  obtain⟨f0,f1,f2,f3,f4,f5⟩:=hf it (by simp)
  have hl:=rv.length
  exact wpAny_pyNext_list_end (I.ok.hd hc) st p.isList (by simp;omega) fun h' eb=>⟨rfl,I.turned (t':=s.toks) (fun b o hb e=>eb b o hb e) f0 f1 f3 f4 f5⟩
 self:=fun _ _ _ _ _ st h=>wpAny_pyIter_listiter st h
theorem a8Y{P:Program}{w:World}{K:c6M}{tg:Expr}(a it:Addr):a8Q P w K tg (Itt K a) [it] it (fun i h=>h.IsTupleIter it a i) where
 mem:=by simp
 obj:=fun i h st b hb=>by
  have e:b=it:=by simpa using hb
  subst e
  obtain⟨o,e,c,d⟩:=st
  exact⟨o,e,fun v z=>by rw[d]at z;cases z⟩
 keep:=fun i h h' st k=>st.at fun o e=>k it (by simp) o e
 item:=by
  intro X hP hw hK hc i pins s σ H E I hf st hg
  subst hP hw hK
  obtain⟨xs,x,hq,hx⟩:=hg
  obtain⟨its,rv,p,hz⟩:=I.tuple hq
  obtain⟨u,hu,ru⟩:=rv.get hx
  obtain⟨f0,f1,f2,f3,f4,f5⟩:=hf it (by simp)
  refine wpAny_pyNext_tuple_item st (show s.heap.IsTuple a its.toArray from p) (x:=u) (by simpa using hu) fun h' st' sb=>?_
  have I1:Inv X pins σ H { s with heap:=h' }:=I.turned (t':=s.toks) (fun b o hb e=>(sb.2 b hb).trans e) f0 f1 f3 f4 f5
  obtain⟨o,e,c,d⟩:=id st'
  exact⟨u,rfl,b1b (s:={ s with heap:=h' }) e c d (by decide) ⟨x,H,I1,ru,⟨rfl,fun ys hy=>by rw[I.tuple_inj hy hq];exact hx⟩,st',fun b hb=>(hf b hb).1⟩⟩
 done:=by
  intro X hP hw hK hc i pins s σ H E I hf st hg
  subst hP hw hK
  obtain⟨xs,hq,hx⟩:=hg
  obtain⟨its,rv,p,hz⟩:=I.tuple hq
  obtain⟨f0,f1,f2,f3,f4,f5⟩:=hf it (by simp)
  have hl:=rv.length
  exact wpAny_pyNext_tuple_end (I.ok.hd hc) st (show s.heap.IsTuple a its.toArray from p) (by simp;omega) fun h' eb=>⟨rfl,I.turned (t':=s.toks) (fun b o hb e=>eb b o hb e) f0 f1 f3 f4 f5⟩
 self:=fun _ _ _ _ _ st h=>wpAny_pyIter_tupleiter st h
theorem a8Z{P:Program}{w:World}{K:c6M}{tg:Expr}(it:Addr)(lo:Int)(n:Nat):a8Q P w K tg (Itr lo n) [it] it (fun i h=>IsRangeIter h it (lo+(i:Nat)*1) ((n:Int) - (i:Nat)) 1) where
 mem:=by simp
 obj:=fun i h st b hb=>by
  have e:b=it:=by simpa using hb
  subst e
  exact⟨_,st,fun v z=>by
   have z':Data.fields _=Data.cell v:=z
   cases z'⟩
 keep:=fun i h h' st k=>k it (by simp) _ st
 item:=by
  intro X hP hw hK hc i pins s σ H E I hf st hg
  subst hP hw hK
  obtain⟨f0,f1,f2,f3,f4,f5⟩:=hf it (by simp)
  have W:=Walks.range (prog:=X.prog) (w:=X.w) (I.ok.hd hc) it lo 1 n
  refine W.item i s _ _ hg st fun v h' tk hv st' kk=>?_
  obtain⟨t,rfl⟩:=hv
  have I1:Inv X pins σ H { s with heap:=h',toks:=tk }:=I.turned (fun b o hb e=>kk b o (by simpa using hb) e) f0 f1 f3 f4 f5
  refine⟨_,rfl,b1b (s:={ s with heap:=h',toks:=tk }) (n := "range_iterator") st' rfl rfl (by decide) ⟨.int (lo+i),H,I1,⟨t,?_⟩,⟨rfl,rfl⟩,st',fun b hb=>(hf b hb).1⟩⟩
  rw[d0b]
 done:=by
  intro X hP hw hK hc i pins s σ H E I hf st hg
  subst hP hw hK
  obtain⟨f0,f1,f2,f3,f4,f5⟩:=hf it (by simp)
  exact wpAny_pyNext_range_end (I.ok.hd hc) st (by have:n≤i:=hg;omega) fun h' eb=>⟨rfl,I.turned (t':=s.toks) (fun b o hb e=>eb b o hb e) f0 f1 f3 f4 f5⟩
 self:=fun _ _ _ _ _ st h=>wpAny_pyIter_rangeiter st h
end L2
namespace L2
open PySem PySem.Spec PyProof.Rows
section
variable {X:Cx} {tg:Expr}
theorem b3S{pins:List (Addr × Obj)}{σ:St}{H:Hp}{s:Shared}{R:It→Hp→Prop}{E:Value→Shared→Prop}{lo hi:Int}{t u v:Tok}{tk:Nat}(I:Inv X pins σ H s)(h1:-(2 ^ 62)≤lo)(h2:lo<2 ^ 62)(h3:-(2 ^ 62)≤hi)(h4:hi<2 ^ 62)
  (q:R (Itr lo (hi - lo).toNat) H):wpAny (model X.prog X.w) X.A (pyIter (.ref s.heap.objs.size)) (PIE X pins σ tg R) E { s with heap:=s.heap.push { cls:=.type "range",data:=.fields #[.int lo t,.int hi u,.int 1 v] },toks:=tk }:=by
 refine wpAny_pyIter_range (IsRange.new ..) (small_one h1 h2 h3 h4) ?_
 have I1:Inv X pins σ H { s with heap:=s.heap.push { cls:=.type "range",data:=.fields #[.int lo t,.int hi u,.int 1 v] },toks:=tk }:=I.kept fun b o e=>c6O _ e
 refine⟨(s.heap.push { cls:=.type "range",data:=.fields #[.int lo t,.int hi u,.int 1 v] }).objs.size,[(s.heap.push { cls:=.type "range",data:=.fields #[.int lo t,.int hi u,.int 1 v] }).objs.size],_,_,H,rfl,
  I1.kept (t':=tk) fun b o e=>c6O _ e,a8Z _ lo (hi - lo).toNat,?_,fun b hb=>?_,q⟩
 ·have e1:lo+((0:Nat):Int)*1=lo:=by simp
  have e2:(((hi - lo).toNat:Nat):Int) - ((0:Nat):Int)=Builtin.Range.rangeSize lo hi 1:=by rw[rangeSize_one];split<;>omega
  show IsRangeIter _ _ (lo+((0:Nat):Int)*1) ((((hi - lo).toNat:Nat):Int) - ((0:Nat):Int)) 1
  rw[e1,e2]
  exact c6W _ rfl
 ·have e:b=(s.heap.push { cls:=.type "range",data:=.fields #[.int lo t,.int hi u,.int 1 v] }).objs.size:=by simpa using hb
  subst e
  exact I1.fpOk (c7b _) (I1.hok.fresh (c7b _))
def c2x(ta:TA):TI:=fun σ H R=>ta σ H fun vs H1=>∃ j:Int,vs=[.int j]∧-(2 ^ 62)≤j∧j<2 ^ 62∧R (Itr 0 j.toNat) H1
theorem b1Q{a:Expr}{ta:TA}{p pos:Pos}(hg:Gl X "range")(hm:X.mg "range" = none)(ha:PA X [a] ta)(hs:starEach [a] X.env=[(false,eval a X.env)]:=by rfl):PI X tg (.Call (.Name "range" p) [a] [] pos) (c2x ta):=by
 intro pins s σ H R I h
 refine Call_ (Q0 I hg hm boot_range (PyProof.Rows.callWith_type1 (thn (ha pos pins s σ H _ I h) fun us s1 ⟨vs,H1,I1,r1,q1⟩=>?_) hs rfl))
 obtain⟨j,e,q1,q2,q⟩:=q1
 subst e
 cases r1 with
 | cons r rr =>
  cases rr
  obtain⟨t,rfl⟩:=r
  exact call_range_1 (b3S I1 (by omega) (by omega) q1 q2 (by simpa using q))
def c3y(wi:TI)(g:TG)(tb:TS):TS:=fun D σ H=>wi σ H fun J H1=>∃ W:Nat→Nat→St→Hp→Prop,(∃ m,W 0 m σ H1)∧∀ i m σ H,W i m σ H →
 (J.stop i H∧D.nx σ H)∨(J.go i H∧∃ N:St→Hp→Prop,(∀ σ' H',N σ' H'→∃ m',m'<m∧W (i+1) m' σ' H')∧∀ x H',J.yld i H x H'→g x σ H' fun σ2 H2=>tb { D with nx:=N,ct:=N,bk:=D.nx } σ2 H2)
def a6B(fp:List Addr)(h:Heap):List (Addr × Obj):=fp.filterMap fun b=>(h.get? b).map fun o=>(b,o)
theorem J2{fp:List Addr}{h:Heap}{b:Addr}{o:Obj}(hb:b∈fp)(e:h.get? b=some o):(b,o)∈a6B fp h:=c9M.mpr ⟨b,hb,by rw[e];rfl⟩
theorem b1R{fp:List Addr}{h:Heap}{p:Addr × Obj}(hp:p∈a6B fp h):p.1∈fp∧h.get? p.1=some p.2:=by
 obtain⟨b,hb,e⟩:=c9M.mp hp
 cases q:h.get? b with
 | none=>rw[q]at e;cases e
 | some o =>
  rw[q]at e
  have e':(b,o)=p:=Option.some.inj e
  subst e'
  exact⟨hb,q⟩
theorem Inv.pinned{pins:List (Addr × Obj)}{σ:St}{H:Hp}{s:Shared}{fp:List Addr}(I:Inv X pins σ H s)(hf:∀ b∈fp,a00 X pins H b)(ho:∀ b∈fp,∃ o,s.heap.get? b=some o∧∀ v,o.data ≠ .cell v):Inv X (pins++a6B fp s.heap) σ H s :=
 I.pins_of fun p hp=>(c7i.mp hp).elim (fun z=>I.pin p (c7o _ z)) fun z=>by
  obtain⟨hb,e⟩:=b1R z
  obtain⟨f0,f1,f2,_⟩:=hf p.1 hb
  obtain⟨o,e',d⟩:=ho p.1 hb
  rw[e]at e';cases e'
  exact⟨e,f0,f1,f2,d⟩
theorem Inv.unpinned{pins pl:List (Addr × Obj)}{σ:St}{H:Hp}{s:Shared}(I:Inv X (pins++pl) σ H s):Inv X pins σ H s:=I.pins_of fun p hp=>I.pin p (c7o _ (c9z _ hp))
theorem b94{iter:Expr}{body:List Stmt}{wi:TI}{g:TG}{tb:TS}{pos:Pos}(hp:PassesOwn (model X.prog X.w) X.A X.env X.xe)(hc:X.calm=true)(hi:PI X tg iter wi)(hg:PG X tg g)(hb:PSs X body tb)
  (hs:∀ x,foldedSetIterable iter X.env x=pure x:=by intro _;rfl):PS X (.For tg iter body [] pos) (c3y wi g tb):=by
 intro pins s σ H D I h
 refine wpAny_For (thn (hi pins s σ H _ I h) fun v s1 h1=>thn h1 fun itv s2 h2=>?_) hs
 obtain⟨it,fp,tn,J,H2,e,I2,T,st2,f2,W,⟨m0,w0⟩,turn⟩:=h2
 subst e
 have stat:∀{H':Hp},(∀ b∈fp,H' b=none)→∀ b∈fp,a00 X pins H' b:=fun hn b hb=>⟨hn b hb,(f2 b hb).2⟩
 refine codeAny_forLoop_any (fun n s'=>∃ i σ' H',Inv X pins σ' H' s'∧tn i s'.heap∧(∀ b∈fp,H' b=none)∧W i n σ' H') ?_ m0 ⟨0,σ,H2,I2,st2,fun b hb=>(f2 b hb).1,w0⟩
 rintro n s3 ⟨i,σ3,H3,I3,st3,fr3,w3⟩
 rcases turn i n σ3 H3 w3 with⟨stop,qn⟩|⟨go,N,hN,step⟩
 ·refine wpAny_passesOwn hp (thn (T.done X rfl rfl rfl hc i pins s3 σ3 H3 X.xe I3 (stat fr3) st3 stop) fun r s4 zz=>?_)
  obtain⟨hr,I4⟩:=zz
  subst hr
  exact wpAny_execs_nil ⟨σ3,H3,I4,qn⟩
 ·refine wpAny_passesOwn hp (thn (T.item X rfl rfl rfl hc i pins s3 σ3 H3 X.xe I3 (stat fr3) st3 go) fun r s4 zz=>?_)
  obtain⟨u,hr,h4⟩:=zz
  subst hr
  refine wpAny_passesOwn hp (thn h4 fun _ s5 zz=>?_)
  obtain⟨x,H5,I5,r5,y5,st5,fr5⟩:=zz
  have I5':=I5.pinned (stat fr5) (T.obj _ _ st5)
  refine wpAny_passesOwn hp (thn (hg _ s5 σ3 H5 x u _ I5' r5 (step x H5 y5)) fun _ s6 zz=>?_)
  obtain⟨σ6,H6,I6,q6⟩:=zz
  refine wpAny_passesOwn hp (thn (hb _ s6 σ6 H6 _ I6 q6) fun f s7 q7=>?_)
  have again:∀{σ7:St} {H7:Hp},Inv X (pins++a6B fp s5.heap) σ7 H7 s7→N σ7 H7→∃ m,m<n∧∃ i σ' H',Inv X pins σ' H' s7∧tn i s7.heap∧(∀ b∈fp,H' b=none)∧W i m σ' H':=fun{σ7 H7} I7 n7=>by
   obtain⟨m',hm,w7⟩:=hN σ7 H7 n7
   refine⟨m',hm,i+1,σ7,H7,I7.unpinned,T.keep _ _ _ st5 fun b hb o e=>(I7.pin (b,o) (c7o _ (c7o _ (J2 hb e)))).1,fun b hb=>?_,w7⟩
   obtain⟨o,e,d⟩:=T.obj _ _ st5 b hb
   exact(I7.pin (b,o) (c7o _ (c7o _ (J2 hb e)))).2.1
  cases f with
  | next=>obtain⟨σ7,H7,I7,n7⟩:=q7;exact again I7 n7
  | cont=>obtain⟨σ7,H7,I7,n7⟩:=q7;exact again I7 n7
  | brk=>obtain⟨σ7,H7,I7,q7⟩:=q7;exact⟨σ7,H7,I7.unpinned,q7⟩
  | ret v=>obtain⟨x7,σ7,H7,I7,r7,q7⟩:=q7;exact⟨x7,σ7,H7,I7.unpinned,r7,q7⟩
end
end L2
namespace L2
open PySem PySem.Spec PyProof.Rows
abbrev R2:=V→V→Hp→VK→Prop
def OpR(X:Cx)(f:Value→Value→Sem Value)(r:R2):Prop :=
 ∀(pins:List (Addr × Obj)) (s:Shared) (σ:St) (H:Hp) (x y:V) (v u:Value) (Q:VK),Inv X pins σ H s→u0 x v→u0 y u→r x y H Q →
  wpAny (model X.prog X.w) X.A (f v u) (EP X pins σ Q) X.xe s
def UnR(X:Cx)(f:Value→Sem Value)(r:V→Hp→VK→Prop):Prop :=
 ∀(pins:List (Addr × Obj)) (s:Shared) (σ:St) (H:Hp) (x:V) (v:Value) (Q:VK),Inv X pins σ H s→u0 x v→r x H Q →
  wpAny (model X.prog X.w) X.A (f v) (EP X pins σ Q) X.xe s
def D2(X:Cx)(f:Value)(r:List V→Hp→VK→Prop):Prop :=
 ∀(pins:List (Addr × Obj)) (s:Shared) (σ:St) (H:Hp) (xs:List V) (us:List Value) (Q:VK),Inv X pins σ H s→p0 xs us→r xs H Q →
  wpAny (model X.prog X.w) X.A (call f us) (EP X pins σ Q) X.xe s
def tOp(r:R2)(ta tb:TE):TE:=fun σ H Q=>ta σ H fun x H1=>tb σ H1 fun y H2=>r x y H2 Q
def tUn(r:V→Hp→VK→Prop)(ta:TE):TE:=fun σ H Q=>ta σ H fun x H1=>r x H1 Q
def rI(C:Int→Int→Prop)(g:Int→Int→V):R2:=fun x y H Q=>∃ i j,x = .int i∧y = .int j∧C i j∧Q (g i j) H
def rI0(g:Int→Int→V):R2:=fun x y H Q=>∃ i j,x = .int i∧y = .int j∧Q (g i j) H
def rU(g:Int→V):V→Hp→VK→Prop:=fun x H Q=>∃ i,x = .int i∧Q (g i) H
section
variable {X:Cx} {a b c:Expr} {ta tb tc:TE} {pos:Pos}
theorem c0Y(ha:PE X a ta)(hb:PE X b tb){pins:List (Addr × Obj)}{s:Shared}{σ:St}{H:Hp}{R:V→V→Hp→Prop}(I:Inv X pins σ H s)
  (h:ta σ H fun x H1=>tb σ H1 fun y H2=>R x y H2) {Q:Value→Shared→Prop} {f:Value→Value→Sem Value}
  (hf:∀ v u s2 x y H2,Inv X pins σ H2 s2→u0 x v→u0 y u→R x y H2→wpAny (model X.prog X.w) X.A (f v u) Q X.xe s2) :
  wpAny (model X.prog X.w) X.A (eval a X.env) (fun v s₁=>wpAny (model X.prog X.w) X.A (eval b X.env) (fun u s₂=>wpAny (model X.prog X.w) X.A (f v u) Q X.xe s₂) X.xe s₁) X.xe s:=by
 refine thn (ha pins s σ H _ I h) fun v s1 zz=>?_
 obtain⟨x,H1,I1,r1,q1⟩:=zz
 refine thn (hb pins s1 σ H1 _ I1 q1) fun u s2 zz=>?_
 obtain⟨y,H2,I2,r2,q2⟩:=zz
 exact hf v u s2 x y H2 I2 r1 r2 q2
theorem b8V{op:Operator}{r:R2}(ho:OpR X (binaryOp op) r)(ha:PE X a ta)(hb:PE X b tb):PE X (.BinOp a op b pos) (tOp r ta tb):=by
 intro pins s σ H Q I h
 exact wpAny_BinOp (c0Y ha hb I h fun v u s2 x y H2 I2 rx ry q=>ho pins s2 σ H2 x y v u Q I2 rx ry q)
theorem c2b{op:UnaryOp}{r:V→Hp→VK→Prop}(ho:UnR X (unaryOp op) r)(ha:PE X a ta):PE X (.UnaryOp op a pos) (tUn r ta):=by
 intro pins s σ H Q I h
 exact UnaryOp_ (thn (ha pins s σ H _ I h) fun v s1 ⟨x,H1,I1,r1,q1⟩=>ho pins s1 σ H1 x v Q I1 r1 q1)
theorem opI{f:Value→Value→Sem Value}{C:Int→Int→Prop}{g:Int→Int→Int}
  (rule:∀(i j:Int) (t u:Tok) (s:Shared) (Q:Value→Shared→Prop) (E:Value→Shared→Prop),C i j→Q (.int (g i j) s.toks) { s with toks:=s.toks+1 }→wpAny (model X.prog X.w) X.A (f (.int i t) (.int j u)) Q E s) :
  OpR X f (rI C fun i j=>.int (g i j)):=by
 intro pins s σ H x y v u Q I rx ry h
 obtain⟨i,j,rfl,rfl,hc,q⟩:=h
 obtain⟨t,rfl⟩:=rx
 obtain⟨t',rfl⟩:=ry
 exact rule i j t t' s _ _ hc ⟨.int (g i j),H,I.tok _,⟨_,rfl⟩,q⟩
theorem c2l{f:Value→Value→Sem Value}{g:Int→Int→Int}
  (rule:∀(i j:Int) (t u:Tok) (s:Shared) (Q:Value→Shared→Prop) (E:Value→Shared→Prop),Q (.int (g i j) s.toks) { s with toks:=s.toks+1 }→wpAny (model X.prog X.w) X.A (f (.int i t) (.int j u)) Q E s) :
  OpR X f (rI0 fun i j=>.int (g i j)):=by
 intro pins s σ H x y v u Q I rx ry h
 obtain⟨i,j,rfl,rfl,q⟩:=h
 obtain⟨t,rfl⟩:=rx
 obtain⟨t',rfl⟩:=ry
 exact rule i j t t' s _ _ ⟨.int (g i j),H,I.tok _,⟨_,rfl⟩,q⟩
theorem c0m{f:Value→Value→Sem Value}{g:Int→Int→Bool}
  (rule:∀(i j:Int) (t u:Tok) (s:Shared) (Q:Value→Shared→Prop) (E:Value→Shared→Prop),Q (.bool (g i j)) s→wpAny (model X.prog X.w) X.A (f (.int i t) (.int j u)) Q E s) :
  OpR X f (rI0 fun i j=>.bl (g i j)):=by
 intro pins s σ H x y v u Q I rx ry h
 obtain⟨i,j,rfl,rfl,q⟩:=h
 obtain⟨t,rfl⟩:=rx
 obtain⟨t',rfl⟩:=ry
 exact rule i j t t' s _ _ ⟨.bl (g i j),H,I,rfl,q⟩
def a8V(i j:Int):Prop:=0≤j∧j≤1000000∧i.natAbs<2 ^ 64
theorem c0l:OpR X (binaryOp .Add) (rI0 fun i j=>.int (i+j)):=c2l fun _ _ _ _ _ _ _ q=>add_int q
theorem c0i:OpR X (binaryOp .Sub) (rI0 fun i j=>.int (i - j)):=c2l fun _ _ _ _ _ _ _ q=>sub_int q
theorem c0k:OpR X (binaryOp .Mod) (rI (fun _ j=>0<j) fun i j=>.int (i % j)):=opI fun i j _ _ _ _ _ hc q=>by
 have h1:(0:Int)<j:=hc
 exact mod_int' (by omega) (by rw[Int.fmod_eq_emod_of_nonneg i (by omega)];exact q)
theorem c0j:OpR X (binaryOp .Pow) (rI a8V fun i j=>.int (i ^ j.toNat)):=opI fun _ _ _ _ _ _ _ hc q=>pow_int_small hc.1 hc.2.1 hc.2.2 q
theorem unI{f:Value→Sem Value}{g:Int→Int}
  (rule:∀(i:Int) (t:Tok) (s:Shared) (Q:Value→Shared→Prop) (E:Value→Shared→Prop),Q (.int (g i) s.toks) { s with toks:=s.toks+1 }→wpAny (model X.prog X.w) X.A (f (.int i t)) Q E s) :
  UnR X f (rU fun i=>.int (g i)):=by
 intro pins s σ H x v Q I rx h
 obtain⟨i,rfl,q⟩:=h
 obtain⟨t,rfl⟩:=rx
 exact rule i t s _ _ ⟨.int (g i),H,I.tok _,⟨_,rfl⟩,q⟩
theorem b9D:UnR X (unaryOp .USub) (rU fun i=>.int (-i)):=unI fun _ _ _ _ _ q=>neg_int q
end
def c1S:V→V→Bool
 | .non,.non=>true|.non,.int _=>true|.int _,.non=>true|.non,.bl _=>true|.bl _,.non=>true|.non,.str _=>true|.str _,.non=>true
 | .int _,.int _=>true|.bl _,.bl _=>true|.str _,.str _=>true|.byt _,.byt _=>true
 | .int _,.str _=>true|.str _,.int _=>true|.bl _,.str _=>true|.str _,.bl _=>true
 | _,_=>false
def rEq:R2:=fun x y H Q=>c1S x y=true∧Q (.bl (decide (x=y))) H
def rNe:R2:=fun x y H Q=>c1S x y=true∧Q (.bl (!decide (x=y))) H
theorem b1k{i j:Int}:decide (V.int i=V.int j)=(i == j):=by
 rw[c8R]
 simp
theorem a9T{i j:Bool}:decide (V.bl i=V.bl j)=(i == j):=by
 rw[c8R]
 simp
theorem b1j{i j:Str}:decide (V.str i=V.str j)=(i == j):=by
 rw[c8R]
 simp
theorem b1l{i j:Array UInt8}:decide (V.byt i=V.byt j)=(i.toList == j.toList):=by
 rw[c8R]
 cases i
 cases j
 simp
section
variable {X:Cx} {a b c:Expr} {ta tb tc:TE} {pos:Pos}
theorem u8{pins:List (Addr × Obj)}{σ:St}{H:Hp}{s:Shared}{Q:VK}{k k':Bool}(I:Inv X pins σ H s)(q:Q (.bl k) H)(e:k=k'):EP X pins σ Q (.bool k') s:=by
 subst e
 exact⟨.bl k,H,I,rfl,q⟩
theorem b8W:OpR X (compareOp .Eq) rEq:=by
 intro pins s σ H x y v u Q I rx ry h
 obtain⟨hs,q⟩:=h
 cases x with
 | non =>
  cases rx
  cases y with
  | non=>cases ry;exact PySem.EqNone.eq_none_none (u8 I q (by simp))
  | bl j=>cases ry;exact PySem.EqNone.eq_none_bool (u8 I q (by simp))
  | int j=>obtain⟨t',rfl⟩:=ry;exact PySem.EqNone.eq_none_int (u8 I q (by simp))
  | str j=>obtain⟨t',rfl⟩:=ry;exact PySem.EqNone.eq_none_str (u8 I q (by simp))
  | _=>exact absurd (show false=true from hs) c7k
 | bl i =>
  cases rx
  cases y with
  | non=>cases ry;exact PySem.EqNone.eq_bool_none (u8 I q (by simp))
  | bl j=>cases ry;exact eq_bool (u8 I q a9T)
  | str j=>obtain⟨t',rfl⟩:=ry;exact PySem.EqMixed.eq_bool_str (u8 I q (by simp))
  | _=>exact absurd (show false=true from hs) c7k
 | int i =>
  obtain⟨t,rfl⟩:=rx
  cases y with
  | non=>cases ry;exact PySem.EqNone.eq_int_none (u8 I q (by simp))
  | int j=>obtain⟨t',rfl⟩:=ry;exact eq_int (u8 I q b1k)
  | str j=>obtain⟨t',rfl⟩:=ry;exact PySem.EqMixed.eq_int_str (u8 I q (by simp))
  | _=>exact absurd (show false=true from hs) c7k
 | str i =>
  obtain⟨t,rfl⟩:=rx
  cases y with
  | non=>cases ry;exact PySem.EqNone.eq_str_none (u8 I q (by simp))
  | bl j=>cases ry;exact PySem.EqMixed.eq_str_bool (u8 I q (by simp))
  | int j=>obtain⟨t',rfl⟩:=ry;exact PySem.EqMixed.eq_str_int (u8 I q (by simp))
  | str j=>obtain⟨t',rfl⟩:=ry;exact eq_str (u8 I q b1j)
  | _=>exact absurd (show false=true from hs) c7k
 | byt i =>
  obtain⟨t,rfl⟩:=rx
  cases y with
  | byt j=>obtain⟨t',rfl⟩:=ry;exact PySem.W.eq_bytes (u8 I q b1l)
  | _=>exact absurd (show false=true from hs) c7k
 | _=>cases y<;>exact absurd (show false=true from hs) c7k
theorem b4i:OpR X (compareOp .NotEq) rNe:=by
 intro pins s σ H x y v u Q I rx ry h
 obtain⟨hs,q⟩:=h
 cases x with
 | non =>
  cases rx
  cases y with
  | non=>cases ry;exact PySem.EqNone.ne_none_none (u8 I q (by simp))
  | bl j=>cases ry;exact PySem.EqNone.ne_none_bool (u8 I q (by simp))
  | int j=>obtain⟨t',rfl⟩:=ry;exact PySem.EqNone.ne_none_int (u8 I q (by simp))
  | str j=>obtain⟨t',rfl⟩:=ry;exact PySem.EqNone.ne_none_str (u8 I q (by simp))
  | _=>exact absurd (show false=true from hs) c7k
 | bl i =>
  cases rx
  cases y with
  | non=>cases ry;exact PySem.EqNone.ne_bool_none (u8 I q (by simp))
  | bl j=>cases ry;exact ne_bool (u8 I q (congrArg not a9T))
  | str j=>obtain⟨t',rfl⟩:=ry;exact PySem.EqMixed.ne_bool_str (u8 I q (by simp))
  | _=>exact absurd (show false=true from hs) c7k
 | int i =>
  obtain⟨t,rfl⟩:=rx
  cases y with
  | non=>cases ry;exact PySem.EqNone.ne_int_none (u8 I q (by simp))
  | int j=>obtain⟨t',rfl⟩:=ry;exact ne_int (u8 I q (congrArg not b1k))
  | str j=>obtain⟨t',rfl⟩:=ry;exact PySem.EqMixed.ne_int_str (u8 I q (by simp))
  | _=>exact absurd (show false=true from hs) c7k
 | str i =>
  obtain⟨t,rfl⟩:=rx
  cases y with
  | non=>cases ry;exact PySem.EqNone.ne_str_none (u8 I q (by simp))
  | bl j=>cases ry;exact PySem.EqMixed.ne_str_bool (u8 I q (by simp))
  | int j=>obtain⟨t',rfl⟩:=ry;exact PySem.EqMixed.ne_str_int (u8 I q (by simp))
  | str j=>obtain⟨t',rfl⟩:=ry;exact ne_str (u8 I q (congrArg not b1j))
  | _=>exact absurd (show false=true from hs) c7k
 | byt i =>
  obtain⟨t,rfl⟩:=rx
  cases y with
  | byt j=>obtain⟨t',rfl⟩:=ry;exact PySem.W.ne_bytes (u8 I q (congrArg not b1l))
  | _=>exact absurd (show false=true from hs) c7k
 | _=>cases y<;>exact absurd (show false=true from hs) c7k
theorem c2i:OpR X (compareOp .Lt) (rI0 fun i j=>.bl (decide (i<j))):=c0m fun _ _ _ _ _ _ _ q=>lt_int q
theorem c2j:OpR X (compareOp .LtE) (rI0 fun i j=>.bl (decide (i≤j))):=c0m fun _ _ _ _ _ _ _ q=>le_int q
theorem c2k:OpR X (compareOp .Gt) (rI0 fun i j=>.bl (decide (j<i))):=c0m fun _ _ _ _ _ _ _ q=>gt_int q
theorem OpR.or{f:Value→Value→Sem Value}{r r':R2}(h:OpR X f r)(h':OpR X f r'):OpR X f (fun x y H Q=>r x y H Q∨r' x y H Q):=by
 intro pins s σ H x y v u Q I rx ry q
 rcases q with q|q
 ·exact h pins s σ H x y v u Q I rx ry q
 ·exact h' pins s σ H x y v u Q I rx ry q
theorem b4s(b:Expr){op:CmpOp}(h:op ≠ .In:=by decide)(h2:op ≠ .NotIn:=by decide):behindInMarks op b=false:=by
 have e1:(op == CmpOp.In)=false:=by cases op<;>first|rfl|exact absurd rfl h
 have e2:(op == CmpOp.NotIn)=false:=by cases op<;>first|rfl|exact absurd rfl h2
 cases b<;>simp[behindInMarks,e1,e2]
theorem b7n{op:CmpOp}{r:R2}(ho:OpR X (compareOp op) r)(ha:PE X a ta)(hb:PE X b tb)(hm:behindInMarks op b=false):PE X (.Compare a [op] [b] pos) (tOp r ta tb):=by
 intro pins s σ H Q I h
 exact wpAny_Compare1 (c0Y ha hb I h fun v u s2 x y H2 I2 rx ry q=>ho pins s2 σ H2 x y v u Q I2 rx ry q) hm
def c1H(t:TE):TT:=fun σ H Q=>t σ H fun x H'=>∃ k,x = .bl k∧Q k H'
theorem b6Z{op:CmpOp}{r:R2}(ho:OpR X (compareOp op) r)(ha:PE X a ta)(hb:PE X b tb)(hm:behindInMarks op b=false):PT X (.Compare a [op] [b] pos) (c1H (tOp r ta tb)):=by
 intro pins s σ H Q I h
 refine wpAny_isTrue_Compare1 (thn (ha pins s σ H _ I h) fun v s1 ⟨x,H1,I1,r1,q1⟩=>thn (hb pins s1 σ H1 _ I1 q1) fun u s2 ⟨y,H2,I2,r2,q2⟩ =>
  thn (ho pins s2 σ H2 x y v u _ I2 r1 r2 q2) fun c s3 ⟨z,H3,I3,r3,k,e,q3⟩=>?_) hm
 subst e
 cases r3
 exact wpAny_truthy_bool ⟨H3,I3,q3⟩
theorem a6S:(sizeLine:Nat)<2 ^ 63:=by rw[sizeLine_eq];decide
theorem a2i{x:V}{us:List Value}(r:p0 [x] us):∃ u,us=[u]∧u0 x u:=by
 cases r with
 | cons r1 r2=>cases r2;exact⟨_,rfl,r1⟩
theorem b3n{x y:V}{us:List Value}(r:p0 [x,y] us):∃ u w',us=[u,w']∧u0 x u∧u0 y w':=by
 cases r with
 | cons r1 r2 =>
  cases r2 with
  | cons r3 r4=>cases r4;exact⟨_,_,rfl,r1,r3⟩
theorem b5u:D2 X (.builtin "abs") (fun xs H Q=>∃ i,xs=[.int i]∧Q (.int (if i<0 then -i else i)) H):=by
 intro pins s σ H xs us Q I r h
 obtain⟨i,rfl,q⟩:=h
 obtain⟨u,rfl,t,rfl⟩:=a2i r
 exact call_abs_int fun u tk=>⟨.int (if i<0 then -i else i),H,I.tok _,⟨_,rfl⟩,q⟩
theorem b2h(hc:X.calm=true):D2 X (.builtin "max") (fun xs H Q=>∃ i j,xs=[.int i,.int j]∧Q (.int (if j > i then j else i)) H):=by
 intro pins s σ H xs us Q I r h
 obtain⟨i,j,rfl,q⟩:=h
 obtain⟨u,w',rfl,⟨t,rfl⟩,⟨t',rfl⟩⟩:=b3n r
 refine max_two_ints (I.ok.hd hc) fun h' tk k=>⟨_,H,I.kept k,?_,q⟩
 by_cases hj:j > i
 ·rw[if_pos hj,if_pos hj];exact⟨_,rfl⟩
 ·rw[if_neg hj,if_neg hj];exact⟨_,rfl⟩
end
end L2
namespace L2
open PySem PySem.Spec PyProof.Rows
structure c05(h:Heap)(x dx C:Addr)(mA:Str→Option Value):Prop where
 obj:h.get? x=some (PySem.W.instObj C dx)
 ns:h.Ns1 dx mA
 ne:dx≠x
theorem b1V{h:Heap}{dx:Addr}{mA:Str→Option Value}(n:h.Ns1 dx mA):∃ od,h.get? dx=some od∧∀ name,PySem.W.lookIn name od=some (mA name):=by
 obtain⟨o,es,ep,ho,hd,hk,_,hm⟩:=n
 refine⟨o,ho,fun name=>?_⟩
 have e:=hm name
 unfold nsFind findBy at e
 rw[← Array.find?_toList]at e
 unfold PySem.W.lookIn
 rw[hd]
 dsimp only
 split
 ·rename_i y q
  rw[q]at e
  exact congrArg some e
 ·rename_i q
  rw[q]at e
  have a:es.toList.any (·.refKey)=false:=by
   rw[c8m]
   intro y hy
   obtain⟨z,t,hkey⟩:=hk y (Array.mem_toList_iff.mp hy)
   simp[DictEntry.refKey,hkey]
  have a':¬ es.toList.any (·.refKey)=true:=by rw[a];exact c7k
  rw[if_neg a']
  exact congrArg some e
theorem c05.look{h:Heap}{x dx C:Addr}{mA:Str→Option Value}(I:c05 h x dx C mA):∃ od,PySem.W.InstAt h x (PySem.W.instObj C dx) C (some od)∧∀ name,PySem.W.lookIn name od=some (mA name) :=
 let ⟨od,ho,hl⟩:=b1V I.ns
 ⟨od,⟨I.obj,rfl,rfl,ho⟩,hl⟩
section
variable {prog:Program} {w:World} {A:Around} {E:Value→Shared→Prop} {s:Shared} {K:c6M} {x dx C f:Addr} {mA:Str→Option Value} {name:Str} {v:Value}
end
section
variable {P:Program} {w:World} {H H':Hp} {h h':Heap} {a C dx:Addr} {fs fs':List (Str × V)}
theorem b7M(hok:HOk P w H h)(e:H a=some (.ins C dx fs)):∃ mA,c05 h a dx C mA∧(∀ f,c04 (fs.lookup f) (mA f))∧PySem.Within mA (fs.map (·.1))∧fs.length≤1000∧H dx=some (.own a):=by
 obtain⟨d,z,ne,ob,mA,n,r,q⟩:=(show E1 P w H h a (.ins C dx fs)from hok a _ e)
 exact⟨mA,⟨ob,n,ne⟩,r,q,z,d⟩
end
structure Cls(K:c6M)(C:Addr):Prop where
 pg:PySem.W.plainGet K C Str.empty=true
 hd:PySem.W.hasDictIn K C=true
 po:PySem.W.plainOver K C=true
 sa:PySem.W.findIn K (.ref C) "__setattr__" = some (some (.builtin "object.__setattr__"))
theorem Cls.get{K:c6M}{C:Addr}(c:Cls K C)(f:Str):PySem.W.plainGet K C f=true:=c.pg
section
variable {X:Cx} {pins:List (Addr × Obj)} {σ:St} {H:Hp} {s:Shared} {a C dx:Addr} {fs:List (Str × V)} {f:Str} {v:V} {A:Around} {E:Value→Shared→Prop}
end
section
variable {X:Cx} {o e value:Expr} {f:Str} {pos pos' tpos:Pos} {ta tv:TE}
end
section
variable {X:Cx} {pins:List (Addr × Obj)} {σ:St} {H:Hp} {s:Shared} {A:Around} {E:Value→Shared→Prop} {Q:Value→Shared→Prop} {c:Value} {b:Bool}
inductive a2y (K:c6M) (H:Hp):V→Value→Prop where
 | non:a2y K H .non (.type "NoneType")
 | bl (x:Bool):a2y K H (.bl x) (.type "bool")
 | int (i:Int):a2y K H (.int i) (.type "int")
 | str (x:Str):a2y K H (.str x) (.type "str")
 | flt (x:UInt64):a2y K H (.flt x) (.type "float")
 | lst {a:Addr} {xs:List V} (e:H a=some (.lst xs)):a2y K H (.ref a) (.type "list")
 | frz {a:Addr} {o:Obj} {xs:List V} (e:H a=some (.frz o (.lst xs))):a2y K H (.ref a) (.type "list")
 | tup {a:Addr} {xs:List V} (e:H a=some (.tup xs)):a2y K H (.ref a) (.type "tuple")
 | dK {a:Addr} {kvs:List (Key × V)} (e:H a=some (.dK kvs)):a2y K H (.ref a) (.type "dict")
 | dT {a:Addr} {kvs:List (List Key × V)} (e:H a=some (.dT kvs)):a2y K H (.ref a) (.type "dict")
 | ins {a C dx:Addr} {fs:List (Str × V)} (e:H a=some (.ins C dx fs)) (cl:Cls K C) (ha:PySem.W.findIn K (.ref C) "__class__" = some (some (.builtin "object.__class__")))
   (hn:PySem.W.specialIn K (.builtin "object.__class__") "__get__" = some (some (.builtin "getset_descriptor.__get__"))) (htk:PySem.W.takesIn K (.builtin "object.__class__")=some true)
   (hm:PySem.W.mroIn K C (.type "object")=some true):a2y K H (.ref a) (.ref C)
theorem Q8{x:V}{u t:Value}(I:Inv X pins σ H s)(rx:u0 x u)(ty:a2y X.K H x t)(e:PySem.W.kitOne X.K t c=some b)(h:∀ tk,Q (.bool b) { s with toks:=tk }) :
  wpAny (model X.prog X.w) A (call (.builtin "isinstance") [u,c]) Q E s:=by
 cases ty with
 | non=>cases(show u=Value.none from rx);exact PySem.W.kia_one PySem.W.kitx_none I.kIn True.intro e (fun z=>nomatch z) h
 | bl y=>cases(show u=Value.bool y from rx);exact PySem.W.kia_one PySem.W.kitx_bool I.kIn True.intro e (fun z=>nomatch z) h
 | int i=>obtain⟨t,q⟩:=(show ∃ t,u=Value.int i t from rx);cases q;exact PySem.W.kia_one PySem.W.kitx_int I.kIn True.intro e (fun z=>nomatch z) h
 | str y=>obtain⟨t,q⟩:=(show ∃ t,u=Value.str y t from rx);cases q;exact PySem.W.kia_one PySem.W.kitx_str I.kIn True.intro e (fun z=>nomatch z) h
 | flt y=>obtain⟨t,q⟩:=(show ∃ t,u=Value.float y t from rx);cases q;exact PySem.W.kia_one PySem.W.kitx_float I.kIn True.intro e (fun z=>nomatch z) h
 | @lst a xs ea =>
  cases(show u=Value.ref a from rx)
  obtain⟨_,_,n,_,h1⟩:=(show E1 X.prog X.w H s.heap a (.lst xs)from I.hok a _ ea)
  exact PySem.W.kia_one PySem.W.kitx_list I.kIn ⟨_,h1,rfl⟩ e (fun z=>nomatch z) h
 | @frz a ob xs ea =>
  cases(show u=Value.ref a from rx)
  obtain⟨_,_,_,n,_,h1⟩:=(show E1 X.prog X.w H s.heap a (.frz ob (.lst xs))from I.hok a _ ea)
  exact PySem.W.kia_one PySem.W.kitx_list I.kIn ⟨_,h1,rfl⟩ e (fun z=>nomatch z) h
 | @tup a xs ea =>
  cases(show u=Value.ref a from rx)
  obtain⟨_,_,_,p⟩:=(show E1 X.prog X.w H s.heap a (.tup xs)from I.hok a _ ea)
  obtain⟨o,h1,h2,_⟩:=p
  exact PySem.W.kia_one PySem.W.kitx_tuple I.kIn ⟨o,h1,h2⟩ e (fun z=>nomatch z) h
 | @dK a kvs ea =>
  cases(show u=Value.ref a from rx)
  obtain⟨_,_,vs,_,p⟩:=(show E1 X.prog X.w H s.heap a (.dK kvs)from I.hok a _ ea)
  obtain⟨o,es,ep,h1,h2,_⟩:=p
  exact PySem.W.kia_one PySem.W.kitx_dict I.kIn ⟨o,h1,h2.1⟩ e (fun z=>nomatch z) h
 | @dT a kvs ea =>
  cases(show u=Value.ref a from rx)
  obtain⟨_,_,xs,_,o,es,ep,h1,h2,_⟩:=(show E1 X.prog X.w H s.heap a (.dT kvs)from I.hok a _ ea)
  exact PySem.W.kia_one PySem.W.kitx_dict I.kIn ⟨o,h1,h2.1⟩ e (fun z=>nomatch z) h
 | @ins a C dx fs ea cl ha hn htk hm =>
  cases(show u=Value.ref a from rx)
  obtain⟨mA,O,_⟩:=b7M I.hok ea
  obtain⟨od,J,_⟩:=O.look
  exact PySem.W.kia_one (PySem.W.kitx_own (cl.get _) cl.hd ha hn htk hm) I.kIn J e (fun z=>nomatch z) h
end
end L2
namespace L2
open PySem PySem.Spec PyProof.Rows
structure K4(k:Nat)(A:Around):Prop where
 hd:A.handled=none
 dp:A.depth+3*k+5<recursionLimit
 un:A.units+16*k+200<cLine
theorem K4.mono{j k:Nat}{A:Around}(r:K4 k A)(h:j≤k):K4 j A:=⟨r.hd,by have:=r.dp;omega,by have:=r.un;omega⟩
theorem K4.deeper{k:Nat}{A:Around}(r:K4 (k+1) A)(env:Env):K4 k (A.deeper env) :=
 ⟨r.hd,by have:=r.dp;show A.depth+1+3*k+5<_;omega,by have:=r.un;show A.units+3+16*k+200<_;omega⟩
theorem K4.in1{k:Nat}{A:Around}(r:K4 (k+1) A):K4 k A.in1 :=
 ⟨r.hd,by have:=r.dp;show A.depth+3*k+5<_;omega,by have:=r.un;show A.units+1+16*k+200<_;omega⟩
theorem K4.depth{k:Nat}{A:Around}(r:K4 k A):A.depth<recursionLimit:=by have:=r.dp;omega
theorem K4.units{k:Nat}{A:Around}(r:K4 k A):A.units+64<cLine:=by have:=r.un;omega
def c3v:TA:=fun _ H Q=>Q [] H
def c1O(ta:TE)(tr:TA):TA:=fun σ H Q=>ta σ H fun x H1=>tr σ H1 fun xs H2=>Q (x :: xs) H2
section
variable {X:Cx} {e:Expr} {es:List Expr} {te:TE} {t:TA} {pos:Pos}
theorem a9A:PA X [] c3v:=fun _ _ _ _ H Q I h=>Calls.spliced_nil ⟨[],H,I,.nil,h⟩
theorem a6F(ha:PE X e te)(hr:PA X es t)(hs:starEach (e :: es) X.env=(false,eval e X.env) :: starEach es X.env:=by rfl):PA X (e :: es) (c1O te t):=by
 intro pos pins s σ H Q I h
 rw[hs]
 show wpAny _ _ (spliced ((false,eval e X.env) :: backTo pos (starEach es X.env))) _ _ s
 refine Calls.spliced_cons (thn (ha pins s σ H _ I h) fun u s1 zz=>?_)
 obtain⟨x,H1,I1,r1,q1⟩:=zz
 exact thn (hr pos pins s1 σ H1 _ I1 q1) fun us s2 ⟨xs,H2,I2,r2,q2⟩=>⟨x :: xs,H2,I2,.cons r1 r2,q2⟩
def c3p(t:TA):TE:=fun σ H Q=>t σ H fun xs H1=>xs.length≤sizeLine∧∀ p,H1 p=none→Q (.ref p) (upd H1 p (.tup xs))
def c3w(t:TA):TE:=fun σ H Q=>t σ H fun xs H1=>xs.length≤sizeLine∧∀ p,H1 p=none→Q (.ref p) (upd H1 p (.lst xs))
theorem c0a{x1}(h:PA X es t):PE X (.Tuple es x1 pos) (c3p t):=by
 intro pins s σ H Q I hq
 refine wpAny_Tuple_spliced (thn (h pos pins s σ H _ I hq) fun us s1 ⟨xs,H1,I1,r,z,q⟩=>⟨by rw[← r.length];exact z,?_⟩)
 have hf:H1 s1.heap.objs.size=none:=I1.hok.fresh (c7b _)
 refine⟨.ref s1.heap.objs.size,upd H1 s1.heap.objs.size (.tup xs),I1.laid (t':=s1.toks) (fun b u e=>c6O _ e) (c7b _) ?_,rfl,q _ hf⟩
 exact⟨z,us,r,⟨_,c6W _ rfl,rfl,_,rfl⟩⟩
theorem b4e(h:PA X es t):PE X (.List es pos) (c3w t):=by
 intro pins s σ H Q I hq
 refine wpAny_List_spliced (thn (h pos pins s σ H _ I hq) fun us s1 ⟨xs,H1,I1,r,z,q⟩=>⟨by rw[← r.length];exact z,?_⟩)
 have hf:H1 s1.heap.objs.size=none:=I1.hok.fresh (c7b _)
 refine⟨.ref s1.heap.objs.size,upd H1 s1.heap.objs.size (.lst xs),I1.laid (t':=s1.toks) (fun b u e=>c6O _ e) (c7b _) ?_,rfl,q _ hf⟩
 exact⟨z,us,0,r,c6W _ rfl⟩
end
abbrev Sp:=List V→Hp→VK→XK→Prop
abbrev CXT:=List Env→Hp→Shared→XK→Value→Shared→Prop
structure a92(P:Program)(w:World)(K:c6M)(mg:Str→Option Value)(base:Heap)(A:Around)(outer:List Env)(s:Shared)(H:Hp):Prop where
 frames:A.frames=some outer
 mod:Mod K mg base
 bs:∀ b o,base.get? b=some o→s.heap.get? b=some o∧H b=none
 bsz:base.objs.size≤s.heap.objs.size
 funs:s.heap.FunFrames base outer
 frf:∀ b∈frs outer,H b=none
 hok:HOk P w H s.heap
 bare:AllBare s.gens
def CE(outer:List Env)(P:Program)(w:World)(H:Hp)(s:Shared)(Q:VK)(u:Value)(s':Shared):Prop :=
 ∃ v H',s'.os=s.os∧AllBare s'.gens∧Un (frs outer) [] H H' s.heap s'.heap∧HOk P w H' s'.heap∧u0 v u∧Q v H'
def CR(CX:CXT)(outer:List Env)(P:Program)(w:World)(H:Hp)(s:Shared)(Q:VK)(E:XK)(r:Result)(s':Shared):Prop :=
 match r with
 | .ok (.ret u)=>CE outer P w H s Q u s'
 | .ok _=>False
 | .error e=>CX outer H s E e s'
structure V4(P:Program)(w:World)(K:c6M)(mg:Str→Option Value)(base:Heap)(CX:CXT)(k:Nat)(f:Addr)(fd:FuncData)(ps:List Str)(sp:Sp):Prop where
 len:∀ vs H Q E,sp vs H Q E→vs.length=ps.length
 run:∀(A:Around) (outer:List Env) (s:Shared) (H:Hp) (args:Args) (us:List Value) (vs:List V) (Q:VK) (E:XK),K4 k A→a92 P w K mg base A outer s H→BindsTo s fd args (ps.zip us)→p0 vs us→sp vs H Q E →
  codeAny (model P w) A (.call (.ref f) args) (CR CX outer P w H s Q E) s
theorem V4.mono{P:Program}{w:World}{K:c6M}{mg:Str→Option Value}{base:Heap}{CX:CXT}{j k:Nat}{f:Addr}{fd:FuncData}{ps:List Str}{sp:Sp}(F:V4 P w K mg base CX j f fd ps sp)(h:j≤k) :
  V4 P w K mg base CX k f fd ps sp:=⟨F.len,fun A outer s H args us vs Q E hr=>F.run A outer s H args us vs Q E (hr.mono h)⟩
theorem V4.imp{P:Program}{w:World}{K:c6M}{mg:Str→Option Value}{base:Heap}{CX:CXT}{k:Nat}{f:Addr}{fd:FuncData}{ps:List Str}{sp sp':Sp}(F:V4 P w K mg base CX k f fd ps sp)
  (h:∀ vs H Q E,sp' vs H Q E→sp vs H Q E):V4 P w K mg base CX k f fd ps sp' :=
 ⟨fun vs H Q E q=>F.len vs H Q E (h _ _ _ _ q),fun A outer s H args us vs Q E hr he hb hv hs=>F.run A outer s H args us vs Q E hr he hb hv (h _ _ _ _ hs)⟩
theorem a92.in1{P:Program}{w:World}{K:c6M}{mg:Str→Option Value}{base:Heap}{A:Around}{outer:List Env}{s:Shared}{H:Hp}(e:a92 P w K mg base A outer s H) :
  a92 P w K mg base A.in1 outer s H:=⟨e.frames,e.mod,e.bs,e.bsz,e.funs,e.frf,e.hok,e.bare⟩
section
variable {X:Cx} {pins:List (Addr × Obj)} {σ:St} {H:Hp} {s s':Shared}
theorem Inv.env0(I:Inv X pins σ H s):a92 X.prog X.w X.K X.mg X.base X.A X.stack s H :=
 ⟨I.ok.frames,I.ok.mod,I.bs,c6V I.ok.bsz I.sz,I.stack,I.stkFree,I.hok,I.bare⟩
theorem Inv.after{Q:VK}{u:Value}(I:Inv X pins σ H s)(h:CE X.stack X.prog X.w H s Q u s'):EP X pins σ Q u s':=by
 obtain⟨v,H',os,bare,un,hok,r,q⟩:=h
 obtain⟨hh,g,d,t,os'⟩:=s'
 obtain rfl:os'=s.os:=os
 exact⟨v,H',I.call (h':=hh) (g':=g) (d':=d) (t':=t) (ch:=[]) un hok bare (fun b z=>absurd z (by simp)),r,q⟩
end
def c1P(sp:Sp)(dvs:List V)(E:XK)(t:TA):TE:=fun σ H Q=>t σ H fun vs H1=>sp (vs++dvs) H1 Q E
def a4c(K:c6M)(fd:FuncData)(ps:List Str)(ds:List Value):Prop :=
 ∀(s:Shared) (us:List Value),K.In s.heap→(us++ds).length=ps.length→BindsTo s fd ⟨us,[]⟩ (ps.zip (us++ds))
theorem a4c.all{K:c6M}{fd:FuncData}{ps:List Str}(h:∀ us:List Value,us.length=ps.length→bindArgs fd ⟨us,[]⟩=pure (ps.zip us)):a4c K fd ps []:=fun s us _ hl=>by
 rw[c74]at hl ⊢
 exact .of_eq (h us hl)
def a7c(CX:CXT)(X:Cx)(E:XK):Prop:=∀(pins:List (Addr × Obj)) (σ:St) (H:Hp) (s:Shared) (e:Value) (s':Shared),Inv X pins σ H s→CX X.stack H s E e s'→X.xe e s'
section
variable {X:Cx} {CX:CXT} {k:Nat} {f C:Addr} {fd:FuncData} {ps:List Str} {sp:Sp} {dvs:List V} {ds:List Value} {E:XK} {x m:Str} {p pos apos:Pos} {e o:Expr} {es:List Expr} {ta:TE} {t:TA}
theorem b9S{pins:List (Addr × Obj)}{σ:St}{H:Hp}{s:Shared}{Q:VK}{us:List Value}{vs:List V}(F:V4 X.prog X.w X.K X.mg X.base CX k f fd ps sp)(hr:K4 k X.A)(hb:a4c X.K fd ps ds)(hd:p0 dvs ds)(hx:a7c CX X E)
  (I:Inv X pins σ H s) (r:p0 vs us) (h:sp (vs++dvs) H Q E):wpAny (model X.prog X.w) X.A (call (.ref f) us) (EP X pins σ Q) X.xe s:=by
 have r2:p0 (vs++dvs) (us++ds):=r.append hd
 have hl:(us++ds).length=ps.length:=by rw[← r2.length];exact F.len _ _ _ _ h
 refine wpAny_call (codeAny_mono (F.run X.A X.stack s H ⟨us,[]⟩ (us++ds) (vs++dvs) Q E hr I.env0 (hb s us I.kIn hl) r2 h) fun r s' hq=>?_)
 cases r with
 | error e=>exact hx pins σ H s e s' I hq
 | ok fl =>
  cases fl with
  | ret u=>exact I.after hq
  | next=>exact False.elim hq
  | brk=>exact False.elim hq
  | cont=>exact False.elim hq
theorem b7o(F:V4 X.prog X.w X.K X.mg X.base CX k f fd ps sp)(hr:K4 k X.A)(hg:Gl X x)(hm:X.mg x=some (.ref f))(hk:PySem.W.keepIn X.K (.ref f)=true)(hb:a4c X.K fd ps ds)(hd:p0 dvs ds)(hx:a7c CX X E)
  (ha:PA X (e :: es) t) (hdb:(x == ("__debug__" : Str))=false:=by decide) (he:starEach (e :: es) X.env=(false,eval e X.env) :: starEach es X.env:=by rfl) (hpl:(backTo pos (starEach es X.env)).any (·.1)=false:=by rfl) :
  PE X (.Call (.Name x p) (e :: es) [] pos) (c1P sp dvs E t):=by
 intro pins s σ H Q I h
 refine wpAny_Call_Name_kw (b02 I hg hm ?_ hdb)
 refine PySem.W.callWith_K (h₀:=X.base) I.ok.mod.kin hk (thn (ha pos pins s σ H _ I h) fun us s1 ⟨vs,H1,I1,r,q⟩=>⟨I1.kIn,?_⟩) he hpl
 exact b9S F hr hb hd hx I1 r q
end
section
variable {X:Cx} {CX:CXT} {k:Nat} {f C:Addr} {fd:FuncData} {ps ks:List Str} {sp:Sp} {E:XK} {x m:Str} {p pos apos kpos:Pos} {e o:Expr} {es:List Expr} {kws:List Keyword} {te ta:TE} {t tk:TA} {nm:Option Str}
variable {g:List Value→List Value→List Value} {gV:List V→List V→List V}
end
structure g6(N P:List Str)(sc:Scope):Prop where
 kind:sc.kind = .function
 co:sc.isCoroutine=false
 gen:sc.isGenerator=false
 nd:N.Nodup
 pre:N.take P.length=P
 par:∀ x∈P,sc.names.lookup x=some .local∨sc.names.lookup x=some .cell
 nofree:∀ y∈sc.names,y.2 ≠ .free
theorem a5M{kindOf:Str→Option NameKind}{x:Str}:∀{binds:List (Str × Value)} {m:Str→Option Value},(∀ v,(x,v)∉binds)→bindL kindOf binds m x=m x
 | [],_,_=>rfl
 | (n,v) :: r,m,h=>by
  unfold bindL
  rw[a5M fun w hw=>h w (c7j _ hw)]
  split
  ·have:x≠n:=by rintro rfl;exact h v c7D
   simp[this]
  ·rfl
theorem a5O{kindOf:Str→Option NameKind}{x:Str}:∀{binds:List (Str × Value)} {m:Str→Option Value},(∀ v,(x,v)∉binds)→bindC kindOf binds m x=m x
 | [],_,_=>rfl
 | (n,v) :: r,m,h=>by
  unfold bindC
  rw[a5O fun w hw=>h w (c7j _ hw)]
  split
  ·rfl
  ·have:x≠n:=by rintro rfl;exact h v c7D
   simp[this]
theorem a5N{kindOf:Str→Option NameKind}{x:Str}{v:Value}:∀{P:List Str} {vs:List Value} {i:Nat} {m:Str→Option Value},P.Nodup→P[i]? = some x→vs[i]? = some v→kindOf x=some .local →
  bindL kindOf (P.zip vs) m x=some v
 | [],_,_,_,_,h,_,_=>by simp at h
 | _ :: _,[],_,_,_,_,h,_=>by simp at h
 | p :: P,w :: vs,0,m,nd,h1,h2,hk=>by
  simp at h1 h2;subst h1;subst h2
  show bindL kindOf ((p,w) :: P.zip vs) m p=_
  unfold bindL
  rw[a5M fun v hv=>(c8S.mp nd).1 (c8T hv).1,if_pos hk]
  simp
 | p :: P,w :: vs,i+1,m,nd,h1,h2,hk=>by
  show bindL kindOf ((p,w) :: P.zip vs) m x=_
  unfold bindL
  exact a5N (i:=i) (c8S.mp nd).2 (by simpa using h1) (by simpa using h2) hk
theorem a5P{kindOf:Str→Option NameKind}{x:Str}{v:Value}:∀{P:List Str} {vs:List Value} {i:Nat} {m:Str→Option Value},P.Nodup→P[i]? = some x→vs[i]? = some v→kindOf x≠some .local →
  bindC kindOf (P.zip vs) m x=some v
 | [],_,_,_,_,h,_,_=>by simp at h
 | _ :: _,[],_,_,_,_,h,_=>by simp at h
 | p :: P,w :: vs,0,m,nd,h1,h2,hk=>by
  simp at h1 h2;subst h1;subst h2
  show bindC kindOf ((p,w) :: P.zip vs) m p=_
  unfold bindC
  rw[a5O fun v hv=>(c8S.mp nd).1 (c8T hv).1,if_neg hk]
  simp
 | p :: P,w :: vs,i+1,m,nd,h1,h2,hk=>by
  show bindC kindOf ((p,w) :: P.zip vs) m x=_
  unfold bindC
  exact a5P (i:=i) (c8S.mp nd).2 (by simpa using h1) (by simpa using h2) hk
def start(N:List Str)(vs:List V):St:=vs.map some++c8f (N.length - vs.length) none
def a9V(CX:CXT)(P:Program)(w:World)(K:c6M)(mg:Str→Option Value)(base:Heap)(N:List Str)(qual:Str)(scope:Scope)(f:Addr)(cd:Value)(A:Around)(outer:List Env)(s:Shared)(H:Hp)(E:XK):Cx where
 prog:=P
 w:=w
 K:=K
 mg:=mg
 base:=base
 A:=A.deeper (envOfC qual scope s.heap.objs.size f cd)
 N:=N
 s₀:=s
 H₀:=H
 env:=envOfC qual scope s.heap.objs.size f cd
 outer:=outer
 stack:=envOfC qual scope s.heap.objs.size f cd :: outer
 ex:=[]
 calm:=true
 fn:=fun _=>true
 pn:=[]
 xe:=fun e s'=>wpAny (model P w) (A.deeper (envOfC qual scope s.heap.objs.size f cd)) (leaving (envOfC qual scope s.heap.objs.size f cd) e) (fun _ s''=>CX outer H s E e s'') (fun e' s''=>CX outer H s E e' s'') s'
theorem a8J{sc:Scope}{n:Nat}{x:Str}(h:sc.names.lookup x=some .cell):∃ c,(cellsFrom n sc.names []).lookup x=some c:=by
 have q:=PySem.W.cellsFrom_some sc.names n [] (.inl h)
 exact Option.isSome_iff_exists.mp q
theorem b1Z{CX:CXT}{P:Program}{w:World}{K:c6M}{mg:Str→Option Value}{base:Heap}{N ps:List Str}{qual:Str}{scope:Scope}{f:Addr}{cd:Value}{A:Around}{outer:List Env}{s s1:Shared}{H:Hp}{E:XK}{us:List Value}{vs:List V}
  (S:g6 N ps scope) (hd:A.handled=none) (e0:a92 P w K mg base A outer s H) (hl:vs.length=ps.length) (r:p0 vs us)
  (x:InCallC s s.heap.objs.size (bindL (envOfC qual scope s.heap.objs.size f cd).kindOf (ps.zip us) fun _=>none) (cellsFrom (s.heap.objs.size+1) scope.names []) (bindC (envOfC qual scope s.heap.objs.size f cd).kindOf (ps.zip us) fun _=>none) s1) :
  Inv (a9V CX P w K mg base N qual scope f cd A outer s H E) [] (start N vs) H s1:=by
 have hpl:ps.length≤N.length:=by have:=congrArg c9D S.pre;rw[c7P]at this;omega
 obtain⟨h1,tk,rfl,hk⟩:=x.done
 have noA:∀ b:Addr,b∉(a9V CX P w K mg base N qual scope f cd A outer s H E).ex:=fun b z=>absurd (show b∈([]:List Addr)from z) (by simp)
 refine⟨⟨e0.mod,S.kind,rfl,rfl,c7b _,fun y z c h1 h2=>?_,fun y hy=>?_,fun y c _ h=>?_,fun _=>hd,Around.frames_deeper e0.frames,.inr ⟨rfl,rfl⟩,fun b z=>absurd z (noA b),e0.bs,e0.bsz,fun b _ _=>noA b,fun b z=>absurd z (noA b),e0.funs,e0.frf⟩,
  rfl,e0.bare,Un.kept hk,⟨_,x.toInCall.ns,fun i y v h1 h2 h3=>?_⟩,fun y c h=>⟨_,x.cell y c h⟩,e0.hok.fresh (c7b _),fun y c h=>?_,fun p hp=>absurd (show p∈([]:List (Addr × Obj))from hp) (by simp),e0.hok.kept hk,?_⟩
 ·exact name_of_addr x.apart (PySem.mem_of_lookup h1) (PySem.mem_of_lookup h2)
 ·have hy:scope.names.lookup y=some .cell∨scope.names.lookup y=some .free:=hy
  rcases hy with hy|hy
  ·exact a8J hy
  ·exact absurd rfl (S.nofree _ (PySem.mem_of_lookup hy))
 ·exact c8C (x.above y c (PySem.mem_of_lookup h))
 ·have hi:i<vs.length:=by
   unfold start at h2
   by_cases hi:i<vs.length
   ·exact hi
   ·rw[c8o (by simpa using hi)]at h2
    rw[c70]at h2
    split at h2<;>cases h2
  have ha:vs[i]? = some v:=by
   unfold start at h2
   rw[c8q (by simpa using hi),c6Y]at h2
   cases e:vs[i]? with
   | none=>rw[e]at h2;cases h2
   | some a=>rw[e]at h2;cases h2;rfl
  obtain⟨u,hu,rv⟩:=r.get ha
  have hp:ps[i]? = some y:=by
   rw[← S.pre,List.getElem?_take_of_lt (by omega)];exact h1
  have ndP:ps.Nodup:=by rw[← S.pre];exact S.nd.sublist (List.take_sublist _ _)
  refine⟨u,rv,?_⟩
  rcases S.par y (c6S hp)with k|k
  ·exact .inl ⟨k,a5N ndP hp hu k⟩
  ·obtain⟨c,e⟩:=a8J (n:=s.heap.objs.size+1) k
   refine .inr ⟨.inl k,c,e,?_⟩
   have q:=x.cell y c e
   rw[a5P ndP hp hu (by show scope.names.lookup y≠_;rw[k];decide)]at q
   exact q
 ·exact e0.hok.fresh (c8C (x.above y c (PySem.mem_of_lookup h)))
 ·unfold start
  show _=N.length
  rw[c7l,c6Q,c8D]
  omega
theorem c2H{CX:CXT}{P:Program}{w:World}{K:c6M}{mg:Str→Option Value}{base:Heap}{k:Nat}{f:Addr}{name qual:Str}{params:Arguments}{body:List Stmt}{scope:Scope}{dV kV doc pm cdv ct oc:Value}{an od:Option Addr}
  {osl:Array (Option Value)} {N ps:List Str} {sp:Sp} (lk:K.lookup f=some ⟨oc,od,.func (PySem.W.fnOf name qual params body scope dV kV doc pm an cdv ct),osl⟩) (hcd:PySem.W.codeIn K cdv qual=true) (S:g6 N ps scope)
  (len:∀ vs H Q E,sp vs H Q E→vs.length=ps.length)
  (hbody:∀(A:Around) (outer:List Env) (s:Shared) (H:Hp) (vs:List V) (Q:VK) (E:XK),K4 k (A.deeper (envOfC qual scope s.heap.objs.size f cdv))→sp vs H Q E →
   ∃ t,PSs (a9V CX P w K mg base N qual scope f cdv A outer s H E) body t∧t { nx:=fun _ H'=>Q .non H',rt:=Q } (start N vs) H) :
  V4 P w K mg base CX (k+1) f (PySem.W.fnOf name qual params body scope dV kV doc pm an cdv ct) ps sp:=by
 refine⟨len,fun A outer s H args us vs Q E hr e0 hb r hsp=>?_⟩
 have hl:=len _ _ _ _ hsp
 have KX:K.In s.heap:=e0.mod.kin.keeps fun b o e=>(e0.bs b o e).1
 have lim:s.heap.NoLimit:=e0.mod.nolimit.keeps fun b o e=>(e0.bs b o e).1
 have hkind:∀ y∈ps.zip us,scope.names.lookup y.1=some .local∨(scope.names.lookup y.1=some .cell∧((cellsFrom (s.heap.objs.size+1) scope.names []).lookup y.1).isSome=true):=fun⟨n,v⟩ hy=>by
  rcases S.par n (c8T hy).1 with q|q
  ·exact .inl q
  ·exact .inr ⟨q,PySem.W.cellsFrom_some _ _ _ (.inl q)⟩
 refine codeAny_call_function hr.depth (KX _ _ lk) rfl S.co S.gen rfl (PySem.W.codeRec_of KX hcd) (hb _ _ _ _ ?_)
 refine wpAny_newFunctionEnv_cells S.kind hkind fun env he s1 x=>?_
 subst he
 refine⟨lim.keeps x.toInCall.keep,codeAny_func ?_⟩
 obtain⟨t,ht,hq⟩:=hbody A outer s H vs Q E (hr.deeper _) hsp
 have I:Inv (a9V CX P w K mg base N qual scope f cdv A outer s H E) [] (start N vs) H s1:=b1Z S hr.hd e0 hl r x
 refine wpAny_mono (ht [] s1 (start N vs) H _ I hq) (fun fl s' hs=>?_) fun e s' hs=>hs
 have fin:∀{σ':St} {H':Hp} {v:V} {u:Value},Inv (a9V CX P w K mg base N qual scope f cdv A outer s H E) [] σ' H' s'→u0 v u→Q v H'→CE outer P w H s Q u s' :=
  fun{σ' H' v u} J rv q=>⟨v,H',J.os,J.bare,J.base,J.hok,rv,q⟩
 cases fl with
 | ret u =>
  obtain⟨v,σ',H',J,rv,q⟩:=hs
  exact fin J rv q
 | next =>
  obtain⟨σ',H',J,q⟩:=hs
  exact fin (v:=V.non) (u:=Value.none) J rfl q
 | brk =>
  obtain⟨_,_,_,q⟩:=hs
  exact False.elim q
 | cont =>
  obtain⟨_,_,_,q⟩:=hs
  exact False.elim q
end L2
namespace L2
open PySem PySem.Spec PyProof.Rows
section
variable {X:Cx} {x:Str} {p pos:Pos} {e:Expr} {es:List Expr} {t:TA} {id T:String} {r:List V→Hp→VK→Prop}
def tCB(r:List V→Hp→VK→Prop)(t:TA):TE:=fun σ H Q=>t σ H fun vs H1=>r vs H1 Q
theorem b4g(hc:D2 X (.builtin id) r)(hg:Gl X x)(hm:X.mg x=none)(hv:bootBuiltins x=some (.builtin id))(ha:PA X (e :: es) t)(hn:x ≠ "__name__" := by decide)(hdb:(x == ("__debug__" : Str))=false:=by decide)
  (he:starEach (e :: es) X.env=(false,eval e X.env) :: starEach es X.env:=by rfl) (hpl:(backTo pos (starEach es X.env)).any (·.1)=false:=by rfl):PE X (.Call (.Name x p) (e :: es) [] pos) (tCB r t):=by
 intro pins s σ H Q I h
 refine wpAny_Call_Name_kw (Q0 I hg hm hv ?_ hn hdb)
 exact PyProof.Rows.callWith_builtin1 (thn (ha pos pins s σ H _ I h) fun us s1 ⟨vs,H1,I1,r1,q1⟩=>hc pins s1 σ H1 vs us Q I1 r1 q1) he hpl
theorem a0h(hc:D2 X (.type T) r)(hg:Gl X x)(hm:X.mg x=none)(hv:bootBuiltins x=some (.type T))(ha:PA X (e :: es) t)(hn:x ≠ "__name__" := by decide)(hdb:(x == ("__debug__" : Str))=false:=by decide)
  (he:starEach (e :: es) X.env=(false,eval e X.env) :: starEach es X.env:=by rfl) (hpl:(backTo pos (starEach es X.env)).any (·.1)=false:=by rfl):PE X (.Call (.Name x p) (e :: es) [] pos) (tCB r t):=by
 intro pins s σ H Q I h
 refine wpAny_Call_Name_kw (Q0 I hg hm hv ?_ hn hdb)
 exact PyProof.Rows.callWith_type1 (thn (ha pos pins s σ H _ I h) fun us s1 ⟨vs,H1,I1,r1,q1⟩=>hc pins s1 σ H1 vs us Q I1 r1 q1) he hpl
end
end L2
namespace HT
open PySem PyProof.Rows
def C3:List Int→List Int→Bool
 | [],[]=>false
 | [],_ :: _=>true
 | _ :: _,[]=>false
 | x :: xs,y :: ys=>if x=y then C3 xs ys else decide (x<y)
theorem a0U(x y:Int)(xs ys:List Int):C3 (x :: xs) (y :: ys)=if x=y then C3 xs ys else decide (x<y):=rfl
theorem a0w:C3 [] []=false:=rfl
theorem a3Y(y:Int)(ys:List Int):C3 [] (y :: ys)=true:=rfl
theorem a3Z(x:Int)(xs:List Int):C3 (x :: xs) []=false:=rfl
theorem b5a(A:Around)(s:Shared)(a:Int)(t:Tok)(c:Int)(u:Tok):∃ e,SeqAt.EqAt A s (.int a t) (.int c u) e∧(e=true↔a=c) :=
 ⟨(a == c),SeqAt.EqAt.int_int a t c u,by simp⟩
theorem b3Q(A:Around)(s:Shared)(a:Int)(t:Tok)(c:Int)(u:Tok)(prog:Program)(w:World)(E:Value→Shared→Prop)(Q:Value→Shared→Prop)(h:Q (.bool (decide (a<c))) s) :
  wpAny (model prog w) A (richCompare .Lt (.int a t) (.int c u)) Q E s :=
 (PyProof.Rows.lt_int h:wpAny (model prog w) A (compareOp .Lt (.int a t) (.int c u)) Q E s)
section
open PySem.SeqAt
open PySem.AutoSeq1 (wpAny_loadPart')
open PySem.MeetsSeq PySem.MeetsSeq2 PySem.MeetsSeq3
theorem a4e(l b:Addr)(items items2:Array Value)(n n2:Nat)(dd dd2:Option Addr)(sl sl2:Array (Option Value))(ns ms:List Int)(hi:IntsAre items.toList ns)(hj:IntsAre items2.toList ms) :
  Meets (Builtin.«tuple.__lt__» ⟨[.ref l,.ref b],[]⟩)
   (fun _ R s=>s.heap.get? l=some { cls:=.type "tuple",dict:=dd,data:=.seq items n,slots:=sl }∧s.heap.get? b=some { cls:=.type "tuple",dict:=dd2,data:=.seq items2 n2,slots:=sl2 } ∧
    R (.ok (.ret (.bool (C3 ns ms)))) s) :=
 .of_wp fun prog w A R s h=>by
  obtain⟨hp,g,d,tk,os⟩:=s;obtain⟨hl,hb,h⟩:=h
  have f2:=AutoSeq1.sub_tuple_tuple
  have z1:items.size=ns.length:=by rw[← hi.length];simp
  have z2:items2.size=ms.length:=by rw[← hj.length];simp
  wp_walk using wpAny_loadPart' hl,wpAny_loadPart' hb,wpAny_forIn_list _ (fun E8 b s'=>b.1=none∧s' = ⟨hp,g,d,tk,os⟩∧∃(vs ws:List Value) (ns' ms':List Int),E8=vs.zip ws ∧
   IntsAre vs ns'∧IntsAre ws ms'∧ns'.length+items2.size=ms'.length+items.size∧R (.ok (.ret (.bool (C3 ns' ms')))) ⟨hp,g,d,tk,os⟩) _
  case turn =>
   rintro⟨y,x⟩ E8 b s' ⟨hb',rfl,vs,ws,ns',ms',hz,hvi,hwi,hlen,hR⟩
   cases hvi with
   | nil=>rw[List.zip_nil_left]at hz;cases hz
   | cons a t hvi' =>
    cases hwi with
    | nil=>rw[List.zip_nil_right]at hz;cases hz
    | cons c u hwi' =>
     rw[c80]at hz
     injection hz with hyx hrest
     injection hyx with hy hx
     subst hy hx
     rw[a0U]at hR
     simp only[c7A]at hlen
     obtain⟨e,he,hiff⟩:=b5a A.in1 ⟨hp,g,d,tk,os⟩ a t c u
     refine c6L (he prog w _ _ ?_)
     cases e with
     | true =>
      rw[if_pos (hiff.mp rfl)]at hR
      wp_walk
      exact⟨rfl,rfl,_,_,_,_,hrest,hvi',hwi',by omega,hR⟩
     | false =>
      rw[if_neg (fun q=>absurd (hiff.mpr q) c7k)]at hR
      have hri:=b3Q A.in1 ⟨hp,g,d,tk,os⟩ a t c u prog w
      wp_walk using hri
      exact⟨_,rfl,by simpa using hR⟩
  case fin =>
   rintro⟨b1,b2⟩ s' ⟨hb',rfl,vs,ws,ns',ms',hz,hvi,hwi,hlen,hR⟩
   simp only at hb'
   subst hb'
   have hv:C3 ns' ms'=decide (items.size<items2.size):=by
    cases hvi with
    | nil =>
     cases hwi with
     | nil =>
      simp only[c79]at hlen
      rw[a0w]
      exact(decide_eq_false (by omega)).symm
     | cons c u hw =>
      simp only[c79,c7A]at hlen
      rw[a3Y]
      exact(decide_eq_true (by omega)).symm
    | cons a t hv =>
     cases hwi with
     | nil =>
      simp only[c79,c7A]at hlen
      rw[a3Z]
      exact(decide_eq_false (by omega)).symm
     | cons c u hw =>
      rw[c80]at hz
      cases hz
   rw[hv]at hR
   wp_walk
   exact⟨_,rfl,by simpa[Builtin.Tuple.tupleCompareSizes]using hR⟩
  case h =>
   exact⟨rfl,rfl,items.toList,items2.toList,ns,ms,rfl,hi,hj,by omega,h⟩
end
section
variable {prog:Program} {w:World} {A:Around} {E:Value→Shared→Prop} {s:Shared}
theorem a9O{l b:Addr}{items items2:Array Value}{ns ms:List Int}{Q:Value→Shared→Prop}(hl:IsTup s.heap l items)(hb:IsTup s.heap b items2)(hi:IntsAre items.toList ns)(hj:IntsAre items2.toList ms)
  (hu:A.units<cLine) (h:Q (.bool (C3 ns ms)) s):wpAny (model prog w) A (compareOp .Lt (.ref l) (.ref b)) Q E s:=by
 obtain⟨⟨cls,dd,data,sl⟩,ho,hc,n,hd⟩:=id hl
 obtain⟨⟨cls2,dd2,data2,sl2⟩,ho2,hc2,n2,hd2⟩:=id hb
 simp only at hc hd hc2 hd2
 subst hc hd hc2 hd2
 exact richCompare_meets_room (op:=.Lt) ⟨_,ho,rfl⟩ ⟨_,ho2,rfl⟩ PySem.F.slot_tuple_lt PySem.F.entry_tuple_lt (PySem.F.args_tuple_lt_2 _ _) (a4e l b items items2 n n2 dd dd2 sl sl2 ns ms hi hj)
  ⟨ho,ho2,show Value.bool (C3 ns ms)≠Value.notImplemented∧Q (.bool (C3 ns ms)) s from⟨(fun x=>nomatch x),h⟩⟩ hu
theorem b71{t b:Addr}{vs ws:List Value}{Q:Value→Shared→Prop}(ht:IsTup s.heap t vs.toArray)(hb:IsTup s.heap b ws.toArray)(hv:vs≠[])
  (h1:ws=[]→Q (.ref t) s) (h2:ws≠[]→Q (.ref s.heap.objs.size) { s with heap:=s.heap.push { cls:=.type "tuple",data:=.seq (vs++ws).toArray } })
  (hsz:vs.length+ws.length≤sizeLine):wpAny (model prog w) A (binaryOp .Add (.ref t) (.ref b)) Q E s:=by
 obtain⟨⟨cls,dd,data,sl⟩,ho,hc,n,hd⟩:=id ht
 obtain⟨⟨cls2,dd2,data2,sl2⟩,ho2,hc2,n2,hd2⟩:=id hb
 simp only at hc hd hc2 hd2
 subst hc hd hc2 hd2
 have e:vs.toArray++ws.toArray=(vs++ws).toArray:=by simp
 by_cases hw:ws=[]
 ·exact concat_meets ⟨_,ho,rfl⟩ ⟨_,ho2,rfl⟩ noFill_tuple_add seq_tuple_add PySem.F.slot_tuple_add PySem.F.entry_tuple_add (PySem.F.args_tuple_add_2 _ _)
   (tuple_addW1 t b vs.toArray ws.toArray n n2 dd dd2 sl sl2 (by simpa using hv) (by simp[hw])) ⟨ho,ho2,h1 hw⟩
 ·refine concat_meets ⟨_,ho,rfl⟩ ⟨_,ho2,rfl⟩ noFill_tuple_add seq_tuple_add PySem.F.slot_tuple_add PySem.F.entry_tuple_add (PySem.F.args_tuple_add_2 _ _)
   (tuple_addW2 t b vs.toArray ws.toArray n n2 dd dd2 sl sl2 (by simpa using hv) (by simpa using hw) (by rw[c69,c69];exact hsz)) ⟨ho,ho2,?_⟩
  rw[e]
  exact h2 hw
def sIx(n d:Nat):Option Int→Nat
 | none=>d
 | some v=>if v<0 then(v+(n:Int)).toNat else min v.toNat n
theorem b3I(n d:Nat):sIx n d none=d:=rfl
theorem b6T(n d k:Nat):sIx n d (some (k:Int))=min k n:=by
 show(if (k:Int)<0 then((k:Int)+(n:Int)).toNat else min (k:Int).toNat n)=min k n
 rw[if_neg (by omega),c8a]
theorem b9Q(n d:Nat)(hd:d≤n)(o:Option Int):sIx n d o≤n:=by
 cases o with
 | none=>exact hd
 | some v =>
  show(if v<0 then(v+(n:Int)).toNat else min v.toNat n)≤n
  by_cases hv:v<0
  ·rw[if_pos hv];omega
  ·rw[if_neg hv];exact c9l _ _
theorem b1p(v:Int)(n d:Nat):(if v<0 then max (v+(n:Int)) 0 else min v (n:Int))=((sIx n d (some v):Nat):Int):=by
 show(if v<0 then max (v+(n:Int)) 0 else min v (n:Int))=(((if v<0 then(v+(n:Int)).toNat else min v.toNat n):Nat):Int)
 by_cases hv:v<0
 ·simp only[if_pos hv];omega
 ·simp only[if_neg hv];omega
theorem a90(lo hi:Option Int)(n:Nat):Builtin.Slice.sliceAdjust lo hi 1 (n:Int)=(((sIx n 0 lo:Nat):Int),((sIx n n hi:Nat):Int)):=by
 have h1:¬ ((1:Int)<0):=by omega
 unfold Builtin.Slice.sliceAdjust
 simp only[h1,if_false]
 refine Prod.ext ?_ ?_
 ·cases lo with
  | none=>rfl
  | some v=>exact b1p v n 0
 ·cases hi with
  | none=>rfl
  | some v=>exact b1p v n n
theorem a9y(i j:Nat):Builtin.Slice.slicePlaces (i:Int) (j:Int) 1=j - i:=by
 unfold Builtin.Slice.slicePlaces
 have h1:(1:Int) > 0:=by omega
 simp only[h1,if_true,Int.ediv_one]
 split<;>omega
theorem a3o{v:Value}{o:Option Int}{Q:Option Int→Shared→Prop}(p:IsPart v o)(h:Q o s):wpAny (model prog w) A (Builtin.Slice.slicePartIndex v) Q E s:=by
 cases p with
 | none=>exact slicePart_none h
 | int i t=>exact slicePart_int h
theorem a1K{sl:Addr}{vl vu:Value}{lo hi:Option Int}{n:Nat}{Q:Int × Int × Nat→Shared→Prop}(hs:s.heap.IsSliceOf sl vl vu .none)(pl:IsPart vl lo)(pu:IsPart vu hi)
  (h:Q (((sIx n 0 lo:Nat):Int),1,sIx n n hi - sIx n 0 lo) s):wpAny (model prog w) A (Builtin.Slice.sliceApplied (.ref sl) (pure (n:Int))) Q E s:=by
 obtain⟨os,hos,hcs,hds⟩:=id hs
 unfold Builtin.Slice.sliceApplied Builtin.Slice.sliceFields
 refine c6L (c6L (wpAny_field hos hds (x:=vl) rfl (c6L (wpAny_field hos hds (x:=vu) rfl (c6L (wpAny_field hos hds (x:=.none) rfl (c6U ?_)))))))
 refine c6L (slicePart_none ?_)
 show wpAny _ _ (if ((1:Int) == 0)=true then _ else _) _ _ s
 rw[if_neg (by decide)]
 refine c6L (a3o pl (c6L (a3o pu (c6L (c6U ?_)))))
 show wpAny _ _ (match Builtin.Slice.sliceAdjust lo hi 1 (n:Int)with|(lo,hi)=>pure (lo,(1:Int),Builtin.Slice.slicePlaces lo hi 1)) _ _ s
 rw[a90 lo hi n]
 show wpAny _ _ (pure (((sIx n 0 lo:Nat):Int),(1:Int),Builtin.Slice.slicePlaces ((sIx n 0 lo:Nat):Int) ((sIx n n hi:Nat):Int) 1)) _ _ s
 rw[a9y]
 exact c6U h
theorem b4a(xs:Array Value)(i k:Nat):((c7K k).filterMap fun(m:Nat)=>xs[((i:Int)+(m:Int)*1).toNat]?).toArray=((xs.toList.drop i).take k).toArray:=by
 have e:(fun(m:Nat)=>xs[((i:Int)+(m:Int)*1).toNat]?)=fun m=>xs[i+m]?:=by
  funext m
  have:((i:Int)+(m:Int)*1).toNat=i+m:=by omega
  rw[this]
 rw[e]
 have:=pick_run xs i k
 rw[List.filterMap_map]at this
 have e2:((fun x=>xs[x]?) ∘ fun x=>i+x)=fun m=>xs[i+m]?:=rfl
 rw[e2]at this
 rw[this]
theorem a1y{t sl:Addr}{items:Array Value}{vl vu:Value}{lo hi:Option Int}{Q:Value→Shared→Prop}(ht:IsTup s.heap t items)(hs:s.heap.IsSliceOf sl vl vu .none)(pl:IsPart vl lo)(pu:IsPart vu hi)
  (hw:¬ (sIx items.size 0 lo=0∧sIx items.size items.size hi=items.size))
  (h:Q (.ref s.heap.objs.size) { s with heap:=s.heap.push { cls:=.type "tuple",data:=.seq ((items.toList.drop (sIx items.size 0 lo)).take (sIx items.size items.size hi - sIx items.size 0 lo)).toArray } })
  (hsz:items.size≤sizeLine):wpAny (model prog w) A (getItem (.ref t) (.ref sl)) Q E s:=by
 have htake:sizeOk (.seq ((items.toList.drop (sIx items.size 0 lo)).take (sIx items.size items.size hi - sIx items.size 0 lo)).toArray):=by
  show((items.toList.drop (sIx items.size 0 lo)).take (sIx items.size items.size hi - sIx items.size 0 lo)).toArray.size≤sizeLine
  rw[c69,c7P,c8e,Array.length_toList]
  omega
 have hj:sIx items.size items.size hi≤items.size:=b9Q _ _ (c7b _) hi
 obtain⟨os,hos,hcs,hds⟩:=id hs
 have hTs:s.TypeIs (.ref sl) "slice" := ⟨os,hos,hcs⟩
 unfold getItem
 try with_reducible refine wpAny_holding ?_
 first|refine c6L (c6U ?_)|skip
 refine c6L (wpAny_sequenceKey ht.typeIs (by decide) ?_)
 refine c6L (wpAny_callSpecial?_slot (name:=Str.ofString "__getitem__") ht.typeIs PyProof.Rows.slot_tuple_getitem
  (wpAny_call_entry PyProof.Rows.slot_tuple_getitem ht.typeIs entry_tuple_getitem ?_ (args_tuple_getitem _ _)))
 show wpAny _ _ (Builtin.Tuple.tupleItemsOf (.ref t) >>= _) _ _ s
 refine c6L (tupleItemsOf_ ht ?_)
 refine c6L (wpAny_typeOf hTs ?_)
 rw[if_pos (by decide)]
 refine c6L (a1K hs pl pu ?_)
 have hno:¬ ((((sIx items.size 0 lo:Nat):Int) == 0 && (1:Int) == 1 && (sIx items.size items.size hi - sIx items.size 0 lo) == items.size)=true):=by
  intro q
  rw[c8H,c8H]at q
  have q1:((sIx items.size 0 lo:Nat):Int)=0:=eq_of_beq q.1.1
  have q2:sIx items.size items.size hi - sIx items.size 0 lo=items.size:=eq_of_beq q.2
  exact hw ⟨by omega,by omega⟩
 show wpAny _ _ (if (((sIx items.size 0 lo:Nat):Int) == 0 && (1:Int) == 1 && (sIx items.size items.size hi - sIx items.size 0 lo) == items.size)=true then _ else _) _ _ s
 rw[if_neg hno,b4a]
 first
  | exact c6L (m:=Builtin.Tuple.tupleExact _) (wpAny_newObj_type (c6U ⟨_,rfl,c6U h⟩) htake)
  | exact c6L (m:=Builtin.Tuple.tupleExact _) (wpAny_newObj_type (c6L (c6U (c6U ⟨_,rfl,c6U h⟩))) htake)
  | exact c6L (c6L (m:=Builtin.Tuple.tupleExact _) (wpAny_newObj_type (c6U (c6U ⟨_,rfl,c6U h⟩)) htake))
  | exact c6L (c6L (m:=Builtin.Tuple.tupleExact _) (wpAny_newObj_type (c6U ⟨_,rfl,c6U h⟩) htake))
end
end HT
namespace L2
open PySem PySem.Spec PyProof.Rows
abbrev TO:=St→Hp→(Option Int→Hp→Prop)→Prop
def PO(X:Cx)(e:Option Expr)(t:TO):Prop :=
 ∀(pins:List (Addr × Obj)) (s:Shared) (σ:St) (H:Hp) (Q:Option Int→Hp→Prop),Inv X pins σ H s→t σ H Q →
  wpAny (model X.prog X.w) X.A (evalPart e X.env) (fun u s'=>∃ o H',Inv X pins σ H' s'∧IsPart u o∧Q o H') X.xe s
def b6I:TO:=fun _ H Q=>Q none H
def c1I(t:TE):TO:=fun σ H Q=>t σ H fun x H1=>∃ i,x = .int i∧Q (some i) H1
theorem a9R{ns:List Int}:∀{us:List Value},p0 (ns.map V.int) us→IntsAre us ns:=by
 induction ns with
 | nil=>intro us r;rw[c8d]at r;cases r;exact .nil
 | cons n ns ih =>
  intro us r
  rw[c7I]at r
  cases r with
  | cons r1 r2 =>
   obtain⟨t,e⟩:=r1
   subst e
   exact .cons n t (ih r2)
section
variable {X:Cx} {e:Expr} {te:TE} {lo hi:Option Expr} {tl th:TO} {pos p2:Pos}
theorem b7e:PO X none b6I:=by
 intro pins s σ H Q I h
 rw[evalPart_none]
 exact c6U ⟨none,H,I,.none,h⟩
theorem b7d(h:PE X e te):PO X (some e) (c1I te):=by
 intro pins s σ H Q I hw
 rw[evalPart_some]
 refine thn (h pins s σ H _ I hw) fun u s1 zz=>?_
 obtain⟨x,H1,I1,r1,q1⟩:=zz
 obtain⟨i,rfl,q⟩:=q1
 obtain⟨t,rfl⟩:=r1
 exact⟨some i,H1,I1,.int i t,q⟩
def SlR(X:Cx)(r:V→Option Int→Option Int→Hp→VK→Prop):Prop :=
 ∀(pins:List (Addr × Obj)) (s:Shared) (σ:St) (H:Hp) (x:V) (v vl vu:Value) (lo hi:Option Int) (sl:Addr) (Q:VK),Inv X pins σ H s→u0 x v→s.heap.IsSliceOf sl vl vu .none→IsPart vl lo→IsPart vu hi→r x lo hi H Q →
  ∃ T id,typeLookup (.type T) "__getitem__" = pure (some (.builtin id))∧s.TypeIs v T∧wpAny (model X.prog X.w) X.A (getItem v (.ref sl)) (EP X pins σ Q) X.xe s
theorem SlR.or{r r':V→Option Int→Option Int→Hp→VK→Prop}(h:SlR X r)(h':SlR X r'):SlR X (fun x lo hi H Q=>r x lo hi H Q∨r' x lo hi H Q):=by
 intro pins s σ H x v vl vu lo hi sl Q I rx hs pl pu q
 rcases q with q|q
 ·exact h pins s σ H x v vl vu lo hi sl Q I rx hs pl pu q
 ·exact h' pins s σ H x v vl vu lo hi sl Q I rx hs pl pu q
def tSl(r:V→Option Int→Option Int→Hp→VK→Prop)(te:TE)(tl th:TO):TE:=fun σ H Q=>te σ H fun x H1=>tl σ H1 fun l H2=>th σ H2 fun u H3=>r x l u H3 Q
theorem b4d{r:V→Option Int→Option Int→Hp→VK→Prop}(hr:SlR X r)(he:PE X e te)(hl:PO X lo tl)(hu:PO X hi th):PE X (.Subscript e (.Slice lo hi none p2) pos) (tSl r te tl th):=by
 intro pins s σ H Q I h
 refine Subscript_ (thn (he pins s σ H _ I h) fun v s1 zz=>?_)
 obtain⟨x,H1,I1,r1,q1⟩:=zz
 refine wpAny_Slice (thn (hl pins s1 σ H1 _ I1 q1) fun vl s2 ⟨l,H2,I2,pl,q2⟩=>thn (hu pins s2 σ H2 _ I2 q2) fun vu s3 zz=>?_)
 obtain⟨u,H3,I3,pu,q3⟩:=zz
 rw[evalPart_none]
 refine c6U ?_
 have I4:Inv X pins σ H3 { s3 with heap:=s3.heap.push { cls:=.type "slice",data:=.fields #[vl,vu,.none] } }:=I3.kept (t':=s3.toks) fun b ob q=>c6O _ q
 obtain⟨T,id,hT,ht,hg⟩:=hr pins { s3 with heap:=s3.heap.push { cls:=.type "slice",data:=.fields #[vl,vu,.none] } } σ H3 x v vl vu l u s3.heap.objs.size Q I4 r1 (Heap.IsSliceOf.new ..) pl pu q3
 show wpAny (model X.prog X.w) X.A (subscriptTail e (.Slice lo hi none p2) v (.ref s3.heap.objs.size)) (EP X pins σ Q) X.xe { s3 with heap:=s3.heap.push { cls:=.type "slice",data:=.fields #[vl,vu,.none] } }
 exact tail_any (ops:=[.ref s3.heap.objs.size,v]) ht hT hg (by with_unfolding_all rfl)
def a8F(xs:List V)(lo hi:Option Int):List V:=(xs.drop (HT.sIx xs.length 0 lo)).take (HT.sIx xs.length xs.length hi - HT.sIx xs.length 0 lo)
theorem a2q(xs:List V)(lo hi:Option Int):(a8F xs lo hi).length≤xs.length:=by
 unfold a8F
 rw[c7P,c8e]
 omega
def c3C(K:c6M):V→Option Int→Option Int→Hp→VK→Prop:=fun x lo hi H Q=>∃ a xs,x = .ref a∧SqT K H a xs ∧
 ¬ (HT.sIx xs.length 0 lo=0∧HT.sIx xs.length xs.length hi=xs.length)∧∀ p,H p=none→Q (.ref p) (upd H p (.tup (a8F xs lo hi)))
theorem b9K:SlR X (c3C X.K):=by
 intro pins s σ H x v vl vu lo hi sl Q I rx hs pl pu h
 obtain⟨a,xs,rfl,hx,hw,q⟩:=h
 cases rx
 obtain⟨its,r,ht,hz⟩:=I.tuple hx
 have hlen:its.toArray.size=xs.length:=by rw[c69];exact r.length.symm
 refine⟨"tuple",_,PyProof.Rows.slot_tuple_getitem.lookup,ht.typeIs,?_⟩
 refine HT.a1y ht hs pl pu (by rw[hlen];exact hw) ?_ (by rw[hlen];exact hz)
 rw[hlen]
 refine⟨.ref s.heap.objs.size,_,I.laid (t':=s.toks) (o:=.tup (a8F xs lo hi)) (fun b ob q=>c6O _ q) (c7b _) ?_,rfl,q _ (I.hok.fresh (c7b _))⟩
 exact⟨c6V (a2q xs lo hi) hz,_,(r.drop (HT.sIx xs.length 0 lo)).take (HT.sIx xs.length xs.length hi - HT.sIx xs.length 0 lo),IsTup.new _ _⟩
def c1X(K:c6M):R2:=fun x y H Q=>∃ a b xs ys,x = .ref a∧y = .ref b∧SqT K H a xs∧SqT K H b ys∧xs≠[]∧xs.length+ys.length≤sizeLine ∧
 (ys=[]→Q (.ref a) H)∧(ys≠[]→∀ p,H p=none→Q (.ref p) (upd H p (.tup (xs++ys))))
theorem p0.nil_iff{xs:List V}{us:List Value}(r:p0 xs us):us=[]↔xs=[]:=by
 cases r with
 | nil=>simp
 | cons _ _=>simp
theorem b7t:OpR X (binaryOp .Add) (c1X X.K):=by
 intro pins s σ H x y v u Q I rx ry h
 obtain⟨a,b,xs,ys,rfl,rfl,ha,hb,hx,hz,q1,q2⟩:=h
 cases rx
 cases ry
 obtain⟨its,r1,p1,_⟩:=I.tuple ha
 obtain⟨its2,r2,p2,_⟩:=I.tuple hb
 refine HT.b71 p1 p2 (fun z=>hx (r1.nil_iff.mp z)) (fun z=>⟨.ref a,H,I,rfl,q1 (r2.nil_iff.mp z)⟩) (fun z=>?_) (by rw[← r1.length,← r2.length];exact hz)
 refine⟨.ref s.heap.objs.size,_,I.laid (t':=s.toks) (o:=.tup (xs++ys)) (fun b ob q=>c6O _ q) (c7b _) ?_,rfl,q2 (fun w=>z (r2.nil_iff.mpr w)) _ (I.hok.fresh (c7b _))⟩
 exact⟨by rw[c7l];exact hz,_,r1.append r2,IsTup.new _ _⟩
end
end L2
namespace L2
open PySem PySem.Spec PyProof.Rows
def ixN(n:Nat)(i:Int):Option Nat:=if 0≤i then(if i<n then some i.toNat else none)else if -(n:Int)≤i then some (i+n).toNat else none
def atI{α:Type}(xs:List α)(i:Int):Option α:=(ixN xs.length i).bind fun j=>xs[j]?
theorem b07{n:Nat}{i:Int}{j:Nat}(h:ixN n i=some j):seqIndex? i n=some j∧j<n∧-(n:Int)≤i∧i<n:=by
 unfold ixN at h
 by_cases h0:0≤i
 ·rw[if_pos h0]at h
  by_cases h1:i<n
  ·rw[if_pos h1]at h
   have e:i.toNat=j:=Option.some.inj h
   exact⟨by rw[seqIndex_of h0 h1,e],by omega,by omega,h1⟩
  ·rw[if_neg h1]at h;cases h
 ·rw[if_neg h0]at h
  by_cases h1:-(n:Int)≤i
  ·rw[if_pos h1]at h
   have e:(i+n).toNat=j:=Option.some.inj h
   exact⟨by rw[seqIndex_neg (by omega) h1,e],by omega,h1,by omega⟩
  ·rw[if_neg h1]at h;cases h
theorem b1q{α:Type}{xs:List α}{i:Int}{v:α}(h:atI xs i=some v):∃ j,seqIndex? i xs.length=some j∧xs[j]? = some v∧j<xs.length∧-(xs.length:Int)≤i∧i<xs.length:=by
 unfold atI at h
 cases e:ixN xs.length i with
 | none=>rw[e]at h;cases h
 | some j =>
  rw[e]at h
  obtain⟨h1,h2,h3,h4⟩:=b07 e
  exact⟨j,h1,h,h2,h3,h4⟩
def a7b(b:Expr):Prop:=∀ o i,subscripted b false o i=operate [o,i] (getItem o i)
def IxR(X:Cx)(r:R2):Prop :=
 ∀(value slice:Expr) (pins:List (Addr × Obj)) (s:Shared) (σ:St) (H:Hp) (x y:V) (v u:Value) (Q:VK),Inv X pins σ H s→u0 x v→u0 y u→r x y H Q →
  subscripted slice false v u=operate [v,u] (getItem v u)→wpAny (model X.prog X.w) X.A (subscriptTail value slice v u) (EP X pins σ Q) X.xe s
def MtR(X:Cx)(id:String)(r:V→List V→Hp→VK→Prop):Prop :=
 ∀(pins:List (Addr × Obj)) (s:Shared) (σ:St) (H:Hp) (x:V) (xs:List V) (v:Value) (us:List Value) (Q:VK),Inv X pins σ H s→u0 x v→p0 xs us→r x xs H Q →
  wpAny (model X.prog X.w) X.A (call (.builtin id) (v :: us)) (EP X pins σ Q) X.xe s
section
variable {X:Cx} {a b:Expr} {ta tb:TE} {pos:Pos}
theorem IxR.or{r r':R2}(h:IxR X r)(h':IxR X r'):IxR X (fun x y H Q=>r x y H Q∨r' x y H Q):=by
 intro value slice pins s σ H x y v u Q I rx ry q hs
 rcases q with q|q
 ·exact h value slice pins s σ H x y v u Q I rx ry q hs
 ·exact h' value slice pins s σ H x y v u Q I rx ry q hs
theorem MtR.or{id:String}{r r':V→List V→Hp→VK→Prop}(h:MtR X id r)(h':MtR X id r'):MtR X id (fun x xs H Q=>r x xs H Q∨r' x xs H Q):=by
 intro pins s σ H x xs v us Q I rx rs q
 rcases q with q|q
 ·exact h pins s σ H x xs v us Q I rx rs q
 ·exact h' pins s σ H x xs v us Q I rx rs q
theorem c2d{r:R2}(hr:IxR X r)(ha:PE X a ta)(hb:PE X b tb)(hs:a7b b):PE X (.Subscript a b pos) (tOp r ta tb):=by
 intro pins s σ H Q I h
 exact Subscript_ (c0Y ha hb I h fun v u s2 x y H2 I2 rx ry q=>hr a b pins s2 σ H2 x y v u Q I2 rx ry q (hs _ _))
def c3F(K:c6M):R2:=fun x y H Q=>∃ p xs i v,x = .ref p∧y = .int i∧SqL K H p xs∧atI xs i=some v∧Q v H
def c3E(K:c6M):R2:=fun x y H Q=>∃ p xs i v,x = .ref p∧y = .int i∧SqT K H p xs∧atI xs i=some v∧Q v H
theorem b7L:IxR X (c3F X.K):=by
 intro value slice pins s σ H x y v u Q I rx ry h hs
 obtain⟨p,xs,i,z,rfl,rfl,hq,he,q⟩:=h
 cases rx
 obtain⟨t,rfl⟩:=ry
 obtain⟨its,r,pl,hz⟩:=I.list hq
 obtain⟨j,h1,h2,h3,h4,h5⟩:=b1q he
 obtain⟨w,ew,rw'⟩:=r.get h2
 have hl:=r.length
 have hn:=a6S
 have fin:EP X pins σ Q w s:=⟨z,H,I,rw',q⟩
 by_cases h0:0≤i
 ·have hj:i.toNat=j:=by
   rw[seqIndex_of h0 h5]at h1
   exact Option.some.inj h1
  exact item_listR pl.isList h0 (by omega) (by rw[hj];simpa using ew) fin hs
 ·have hj:(i+(its.toArray.size:Int)).toNat=j:=by
   rw[seqIndex_neg (by omega) h4]at h1
   rw[c69,← hl]
   exact Option.some.inj h1
  exact subscriptTail_builtinR (x:=w) pl.isList.typeIs slot_list_getitem.lookup
   (wpAny_getItem_list_neg (Q:=fun r s'=>r=w∧EP X pins σ Q r s') pl.isList (by omega) (by rw[c69]<;>omega) (by omega) (by rw[hj];simpa using ew) ⟨rfl,fin⟩) hs
theorem c0C:IxR X (c3E X.K):=by
 intro value slice pins s σ H x y v u Q I rx ry h hs
 obtain⟨p,xs,i,z,rfl,rfl,hq,he,q⟩:=h
 cases rx
 obtain⟨t,rfl⟩:=ry
 obtain⟨its,r,pl,hz⟩:=I.tuple hq
 obtain⟨j,h1,h2,h3,h4,h5⟩:=b1q he
 obtain⟨w,ew,rw'⟩:=r.get h2
 have hl:=r.length
 have hn:=a6S
 have fin:EP X pins σ Q w s:=⟨z,H,I,rw',q⟩
 exact subscriptTail_builtinR (x:=w) pl.typeIs slot_tuple_getitem.lookup
  (getItem_tuple (j:=j) (Q:=fun r s'=>r=w∧EP X pins σ Q r s') pl (by omega) (by omega) (by rw[c69,← hl];exact h1) (by simpa using ew) ⟨rfl,fin⟩) hs
theorem a9N(its:List Value)(n j:Nat)(u:Value):Obj.mapSeq (·.setIfInBounds j u) { cls:=.type "list",data:=.seq its.toArray n } = { cls:=.type "list",data:=.seq (its.set j u).toArray n }:=by
 simp[Obj.mapSeq]
theorem Inv.lst{pins:List (Addr × Obj)}{σ:St}{H:Hp}{s:Shared}{p:Addr}{xs:List V}(I:Inv X pins σ H s)(h:H p=some (.lst xs)) :
  ∃(its:List Value) (n:Nat),p0 xs its∧s.heap.get? p=some { cls:=.type "list",data:=.seq its.toArray n }∧xs.length≤sizeLine:=by
 obtain⟨z,its,n,r,e⟩:=I.hok p _ h
 exact⟨its,n,r,e,z⟩
theorem Inv.lstUpd{pins:List (Addr × Obj)}{σ:St}{H:Hp}{s:Shared}{p:Addr}{xs ys:List V}{its its':List Value}{n n':Nat}{f:Obj→Obj}(I:Inv X pins σ H s)(h:H p=some (.lst xs))
  (ho:s.heap.get? p=some { cls:=.type "list",data:=.seq its.toArray n }) (hf:f { cls:=.type "list",data:=.seq its.toArray n } = { cls:=.type "list",data:=.seq its'.toArray n' }) (r:p0 ys its') (hz:ys.length≤sizeLine) (t:Nat) :
  Inv X pins σ (upd H p (.lst ys)) { s with heap:=s.heap.update p f,toks:=t }:=by
 have e:(s.heap.update p f).get? p=some { cls:=.type "list",data:=.seq its'.toArray n' }:=by
  rw[c7E f ho (by rw[hf]<;>rfl),hf]
 refine I.write (x:=p) (e:=p) (by rw[h];trivial) (.inl rfl) (fun b u hb q=>(c7r _ _ (Ne.symm hb)).trans q) ⟨_,e⟩ ?_
 exact⟨hz,its',n',r,e⟩
def c1V:V→V→V→Hp→(Hp→Prop)→Prop:=fun o i v H Q=>∃ p xs k j,o = .ref p∧i = .int k∧H p=some (.lst xs)∧ixN xs.length k=some j∧Q (upd H p (.lst (xs.set j v)))
theorem b3z:c3f X c1V:=by
 intro pins s σ H o i v ov iv u Q I ro ri rv h
 obtain⟨p,xs,k,j,rfl,rfl,hp,hj,q⟩:=h
 cases ro
 obtain⟨t,rfl⟩:=ri
 obtain⟨its,n,r,ho,hz⟩:=I.lst hp
 obtain⟨h1,h2,h3,h4⟩:=b07 hj
 have hl:=r.length
 have hn:=a6S
 have I':Inv X pins σ (upd H p (.lst (xs.set j v))) { s with heap:=s.heap.update p (Obj.mapSeq (·.setIfInBounds j u)) } :=
  I.lstUpd hp ho (a9N its n j u) (r.set rv j) (by rw[c9s];exact hz) s.toks
 by_cases h0:0≤k
 ·have hk:k.toNat=j:=by
   rw[seqIndex_of h0 h4]at h1
   exact Option.some.inj h1
  exact PySem.W.ki_setAt ho h0 (by omega) (by rw[c69,← hl];exact h4) (by rw[hk];exact⟨_,I',q⟩)
 ·have hk:(k+(its.toArray.size:Int)).toNat=j:=by
   rw[seqIndex_neg (by omega) h3]at h1
   rw[c69,← hl]
   exact Option.some.inj h1
  exact PySem.W.ki_setBack ho (by omega) (by rw[c69,← hl];exact h3) (by omega) (by rw[hk];exact⟨_,I',q⟩)
theorem a5Y(lo hi:Option Int)(n:Nat):(sliceBounds lo hi none n).1=((HT.sIx n 0 lo:Nat):Int)∧(sliceBounds lo hi none n).2.1=((HT.sIx n n hi:Nat):Int)∧(sliceBounds lo hi none n).2.2=1:=by
 refine⟨?_,?_,rfl⟩
 ·cases lo with
  | none=>simp[sliceBounds,HT.sIx]
  | some i =>
   simp only[sliceBounds,HT.sIx,c96,show(1:Int) > 0 by decide,if_true]
   by_cases h:i<0
   ·simp only[h,if_true]<;>omega
   ·simp only[h,if_false]<;>omega
 ·cases hi with
  | none=>simp[sliceBounds,HT.sIx]
  | some i =>
   simp only[sliceBounds,HT.sIx,c96,show(1:Int) > 0 by decide,if_true]
   by_cases h:i<0
   ·simp only[h,if_true]<;>omega
   ·simp only[h,if_false]<;>omega
theorem a4f(its:List Value)(lo hi:Option Int):slicePick its.toArray lo hi none=((its.drop (HT.sIx its.length 0 lo)).take (HT.sIx its.length its.length hi - HT.sIx its.length 0 lo)).toArray:=by
 obtain⟨h1,h2,h3⟩:=a5Y lo hi its.toArray.size
 unfold slicePick
 rw[h1,h2,h3]
 simp only[sliceRange_one,pick_run,c69]<;>rfl
def c3D(K:c6M):V→Option Int→Option Int→Hp→VK→Prop:=fun x lo hi H Q=>∃ a xs,x = .ref a∧SqL K H a xs∧∀ p,H p=none→Q (.ref p) (upd H p (.lst (a8F xs lo hi)))
theorem b6M:SlR X (c3D X.K):=by
 intro pins s σ H x v vl vu lo hi sl Q I rx hs pl pu h
 obtain⟨a,xs,rfl,hx,q⟩:=h
 cases rx
 obtain⟨its,r,ht,hz⟩:=I.list hx
 have hlen:=r.length
 refine⟨"list",_,slot_list_getitem.lookup,ht.isList.typeIs,?_⟩
 refine wpAny_getItem_list_slice ht.isList hs pl pu .none (by simp) ?_ (by rw[c69]<;>omega)
 rw[a4f,← hlen]
 refine⟨.ref s.heap.objs.size,_,I.laid (t':=s.toks) (o:=.lst (a8F xs lo hi)) (fun b ob q=>c6O _ q) (c7b _) ?_,rfl,q _ (I.hok.fresh (c7b _))⟩
 exact⟨c6V (a2q xs lo hi) hz,_,0,(r.drop (HT.sIx xs.length 0 lo)).take (HT.sIx xs.length xs.length hi - HT.sIx xs.length 0 lo),c6W _ rfl⟩
theorem a65:D2 X (.builtin "len") (fun xs H Q=>∃ p ys,xs=[.ref p]∧(SqL X.K H p ys∨SqT X.K H p ys)∧Q (.int ys.length) H):=by
 intro pins s σ H xs us Q I r h
 obtain⟨p,ys,rfl,hq,q⟩:=h
 obtain⟨u,rfl,rx⟩:=a2i r
 cases rx
 have hn:=a6S
 rcases hq with hq|hq
 ·obtain⟨its,r',pl,hz⟩:=I.list hq
  have hlen:=r'.length
  exact Calls.call_len_list pl.isList (by simp only[c69]<;>omega) ⟨.int ys.length,H,I.tok _,⟨s.toks+1,by rw[c69,hlen]⟩,q⟩
 ·obtain⟨its,r',pl,hz⟩:=I.tuple hq
  have hlen:=r'.length
  exact len_tuple pl (by simp only[c69]<;>omega) ⟨.int ys.length,H,I.tok _,⟨s.toks+1,by rw[c69,hlen]⟩,q⟩
theorem D2.or{f:Value}{r r':List V→Hp→VK→Prop}(h:D2 X f r)(h':D2 X f r'):D2 X f (fun xs H Q=>r xs H Q∨r' xs H Q):=by
 intro pins s σ H xs us Q I rs q
 rcases q with q|q
 ·exact h pins s σ H xs us Q I rs q
 ·exact h' pins s σ H xs us Q I rs q
theorem a1A:D2 X (.type "list") (fun xs H Q=>∃ p ys,xs=[.ref p]∧(SqL X.K H p ys∨SqT X.K H p ys)∧∀ l,H l=none→Q (.ref l) (upd H l (.lst ys))):=by
 intro pins s σ H xs us Q I r h
 obtain⟨p,ys,rfl,hq,q⟩:=h
 obtain⟨u,rfl,rx⟩:=a2i r
 cases rx
 have fin:∀(its:List Value),p0 ys its→ys.length≤sizeLine→∀(h':Heap) (c':Nat),(∀ b o',s.heap.get? b=some o'→h'.get? b=some o') →
   h'.get? s.heap.objs.size=some { cls:=.type "list",dict:=none,data:=.seq its.toArray c',slots:=#[] }→EP X pins σ Q (.ref s.heap.objs.size) { s with heap:=h' }:=fun its r' hz h' c' kp e =>
  ⟨.ref s.heap.objs.size,_,I.laid (t':=s.toks) kp (c7b _) (show E1 X.prog X.w _ h' _ (.lst ys)from⟨hz,its,c',r',e⟩),rfl,q _ (I.hok.fresh (c7b _))⟩
 rcases hq with hq|hq
 ·obtain⟨its,r',pl,hz⟩:=I.list hq
  have hlen:=r'.length
  obtain⟨o,ho,hc,n,hd⟩:=pl.isList
  exact call_list_seq p (.inl rfl) ho hc hd (fun h' c' kp e=>fin its r' hz h' c' kp e) (by simp only[c69]<;>omega)
 ·obtain⟨its,r',pl,hz⟩:=I.tuple hq
  have hlen:=r'.length
  obtain⟨o,ho,hc,n,hd⟩:=pl
  exact call_list_seq p (.inr rfl) ho hc hd (fun h' c' kp e=>fin its r' hz h' c' kp e) (by simp only[c69]<;>omega)
theorem a4L:D2 X (.type "tuple") (fun xs H Q=>∃ p ys,xs=[.ref p]∧((SqL X.K H p ys∧∀ l,H l=none→Q (.ref l) (upd H l (.tup ys)))∨(SqT X.K H p ys∧Q (.ref p) H))):=by
 intro pins s σ H xs us Q I r h
 obtain⟨p,ys,rfl,h⟩:=h
 obtain⟨u,rfl,rx⟩:=a2i r
 cases rx
 rcases h with⟨hq,q⟩|⟨hq,q⟩
 ·obtain⟨its,r',pl,hz⟩:=I.list hq
  have hlen:=r'.length
  refine call_tuple_list pl.isList (fun h' kp=>?_) (by simp only[c69]<;>omega)
  have I1:Inv X pins σ H { s with heap:=h' }:=I.kept (t':=s.toks) kp
  have I2:Inv X pins σ (upd H h'.objs.size (.tup ys)) { s with heap:=h'.push { cls:=.type "tuple",data:=.seq its.toArray } } :=
   I1.laid (t':=s.toks) (fun b o e=>c6O _ e) (c7b _) (show E1 X.prog X.w _ _ _ (.tup ys)from⟨hz,its,r',IsTup.new _ _⟩)
  exact⟨.ref h'.objs.size,_,I2,rfl,q _ (I1.hok.fresh (c7b _))⟩
 ·obtain⟨its,r',pl,hz⟩:=I.tuple hq
  exact call_tuple_same pl ⟨.ref p,H,I,rfl,q⟩
def tyV(K:c6M)(T:String)(x:V)(H:Hp):Prop:=match x with
 | .str _=>T = "str"
 | .int _=>T = "int"
 | .ref p=>(T = "list" ∧ ∃ xs,SqL K H p xs)∨(T = "tuple" ∧ ∃ o,K.lookup p=some o∧o.cls = .type "tuple" ∧ o.dict=none) ∨
   (T = "dict" ∧ ((∃ kvs,H p=some (.dK kvs)) ∨ ∃ kvs,H p=some (.dT kvs)))∨(T = "set" ∧ ∃ S n,H p=some (.set S n))
 | _=>False
theorem b3o{pins:List (Addr × Obj)}{σ:St}{H:Hp}{s:Shared}{T:String}{x:V}{v:Value}(I:Inv X pins σ H s)(r:u0 x v)(ty:tyV X.K T x H) :
  s.TypeIs v T∧∀ a,v = .ref a→∃ ob,s.heap.get? a=some ob∧ob.dict=none:=by
 cases x with
 | str z =>
  obtain⟨t,rfl⟩:=r
  cases(show T = "str" from ty)
  exact⟨typeIs_str s z t,fun _ e=>nomatch e⟩
 | int i =>
  obtain⟨t,rfl⟩:=r
  cases(show T = "int" from ty)
  exact⟨typeIs_int s i t,fun _ e=>nomatch e⟩
 | ref p =>
  cases r
  rcases ty with⟨rfl,xs,hq⟩|⟨rfl,o,hk,hc,hd⟩|⟨rfl,hk⟩|⟨rfl,S,n,hk⟩
  ·obtain⟨its,_,pl,_⟩:=I.list hq
   refine⟨pl.isList.typeIs,fun a e=>?_⟩
   cases e
   obtain⟨o,n,e,c,hd,_⟩:=pl
   exact⟨o,e,hd⟩
  ·refine⟨⟨o,I.kIn p o hk,hc⟩,fun a e=>?_⟩
   cases e
   exact⟨o,I.kIn _ o hk,hd⟩
  ·have z:∃ o,s.heap.get? p=some o∧o.ExactDict:=by
    rcases hk with⟨kvs,hk⟩|⟨kvs,hk⟩
    ·obtain⟨_,_,_,_,o,_,_,e,ex,_⟩:=I.hok p _ hk
     exact⟨o,e,ex⟩
    ·obtain⟨_,_,_,_,o,_,_,e,ex,_⟩:=I.hok p _ hk
     exact⟨o,e,ex⟩
   obtain⟨o,e,ex⟩:=z
   refine⟨⟨o,e,ex.1⟩,fun a e2=>?_⟩
   cases e2
   exact⟨o,e,ex.2.1⟩
  ·obtain⟨o,_,_,_,e,ex,_⟩:=I.hok p _ hk
   refine⟨⟨o,e,ex.1⟩,fun a e2=>?_⟩
   cases e2
   exact⟨o,e,ex.2.1⟩
 | _=>exact False.elim ty
def c3z(K:c6M)(T:String)(r:V→List V→Hp→VK→Prop)(to:TE):TE:=fun σ H Q=>to σ H fun x H1=>tyV K T x H1∧r x [] H1 Q
def tBM(K:c6M)(T:String)(r:V→List V→Hp→VK→Prop)(to:TE)(t:TA):TE:=fun σ H Q=>to σ H fun x H1=>tyV K T x H1∧t σ H1 fun xs H2=>r x xs H2 Q
variable {o e:Expr} {es:List Expr} {to:TE} {t:TA} {name:Str} {apos cpos:Pos} {T id:String} {r:V→List V→Hp→VK→Prop}
theorem c0g(pa:PlainAttrs T)(slot:Slot T name id)(hty:typeOf (.builtin id)=pure (.type "method_descriptor"))(hm:MtR X id r)(ho:PE X o to)
  (hbase:attributeBase o name X.env (eval o X.env)=eval o X.env:=by rfl) (hline:(apos.endLine == cpos.line)=true:=by rfl):PE X (.Call (.Attribute o name apos) [] [] cpos) (c3z X.K T r to):=by
 intro pins s σ H Q I h
 refine wpAny_Call_method0_late hbase hline (thn (ho pins s σ H _ I h) fun v s1 zz=>?_)
 obtain⟨x,H1,I1,r1,ty,q1⟩:=zz
 obtain⟨h1,h2⟩:=b3o I1 r1 ty
 exact⟨T,id,pa,slot,hty,h1,h2,Calls.callWith_builtin rfl (PySem.evalArgs_none (hm pins s1 σ H1 x [] v [] Q I1 r1 .nil q1))⟩
theorem c2e(pa:PlainAttrs T)(slot:Slot T name id)(hty:typeOf (.builtin id)=pure (.type "method_descriptor"))(hm:MtR X id r)(ho:PE X o to)(ha:PA X (e :: es) t)
  (hbase:attributeBase o name X.env (eval o X.env)=eval o X.env:=by rfl)
  (hfew:((backTo cpos (starEach (e :: es) X.env)).all (fun x=>!x.1) && (backToKw cpos (keywordEach [] X.env)).all (fun x=>x.1.isSome)
   && decide ((e :: es).length+([]:List Keyword).length+(if ([]:List Keyword).isEmpty then 0 else 1)<30))=true:=by rfl)
  (hline:(apos.endLine == cpos.line)=true:=by rfl) (hs:starEach (e :: es) X.env=(false,eval e X.env) :: starEach es X.env:=by rfl) (hplain:(backTo cpos (starEach es X.env)).any (·.1)=false:=by rfl) :
  PE X (.Call (.Attribute o name apos) (e :: es) [] cpos) (tBM X.K T r to t):=by
 intro pins s σ H Q I h
 refine wpAny_Call_method_late hbase hfew hline rfl (thn (ho pins s σ H _ I h) fun v s1 zz=>?_)
 obtain⟨x,H1,I1,r1,ty,q1⟩:=zz
 obtain⟨h1,h2⟩:=b3o I1 r1 ty
 refine⟨T,id,pa,slot,hty,h1,h2,?_⟩
 have hA:=ha cpos pins s1 σ H1 _ I1 q1
 rw[hs]at hA ⊢
 refine Calls.callWith_builtin (by show(false || (backTo cpos (starEach es X.env)).any (·.1))=false;rw[hplain]<;>rfl) (Calls.evalArgs_plain ?_)
 exact thn hA fun us s2 ⟨vs,H2,I2,r2,q2⟩=>hm pins s2 σ H2 x vs v us Q I2 r1 r2 q2
end
end L2
namespace L2
open PySem PySem.Spec PyProof.Rows
def MtM(X:Cx)(id:String)(r:V→List V→Hp→VK→Prop):Prop :=
 ∀(pins:List (Addr × Obj)) (s:Shared) (σ:St) (H:Hp) (x:V) (xs:List V) (v:Value) (us:List Value) (Q:VK),Inv X pins σ H s→u0 x v→p0 xs us→r x xs H Q →
  wpAny (model X.prog X.w) X.A (call (.builtin id) (v :: us)) (EP X pins σ Q) X.xe s
theorem p0.one{x:V}{us:List Value}(h:p0 [x] us):∃ u,us=[u]∧u0 x u:=by
 cases h with|cons r t=>cases t;exact⟨_,rfl,r⟩
theorem p0.two{x y:V}{us:List Value}(h:p0 [x,y] us):∃ u v,us=[u,v]∧u0 x u∧u0 y v:=by
 cases h with|cons r t=>cases t with|cons q t2=>cases t2;exact⟨_,_,rfl,r,q⟩
theorem p0.zero:∀{us:List Value},p0 [] us→us=[]
 | _,.nil=>rfl
theorem p0.reverse{xs:List V}{us:List Value}(h:p0 xs us):p0 xs.reverse us.reverse:=by
 induction h with
 | nil=>exact .nil
 | cons r t ih=>rw[c8B,c8B];exact p0.append ih (.cons r .nil)
section
variable {X:Cx} {pins:List (Addr × Obj)} {σ:St} {H:Hp} {s:Shared} {l b:Addr} {xs ys zs:List V}
theorem Inv.lset{its its':List Value}{n:Nat}{f:Array Value→Array Value}{t':Nat}(I:Inv X pins σ H s)(hH:H l=some (.lst xs))
  (e:s.heap.get? l=some { cls:=.type "list",data:=.seq its.toArray n }) (hf:f its.toArray=its'.toArray) (hv:p0 ys its') (hz:ys.length≤sizeLine) :
  Inv X pins σ (upd H l (.lst ys)) { s with heap:=s.heap.update l (Obj.mapSeq f),toks:=t' }:=by
 have q:=PySem.IsL.update e f
 rw[hf]at q
 refine I.write (x:=l) (e:=l) (by rw[hH];exact trivial) (.inl rfl) (fun b' u hb hu=>(c7r s.heap (Obj.mapSeq f) (Ne.symm hb)).trans hu) ⟨_,q⟩ ?_
 exact⟨hz,its',_,hv,q⟩
theorem Inv.lnew{its:List Value}{t':Nat}(I:Inv X pins σ H s)(hv:p0 ys its)(hz:ys.length≤sizeLine) :
  Inv X pins σ (upd H s.heap.objs.size (.lst ys)) { s with heap:=s.heap.push { cls:=.type "list",data:=.seq its.toArray },toks:=t' } :=
 I.laid (fun _ _ q=>c6O _ q) (c7b _) ⟨hz,its,0,hv,c6W _ rfl⟩
theorem Inv.fresh(I:Inv X pins σ H s):H s.heap.objs.size=none:=I.hok.fresh (c7b _)
theorem Inv.lstM(I:Inv X pins σ H s)(hH:H l=some (.lst xs)):xs.length≤sizeLine∧∃(its:List Value) (n:Nat),p0 xs its∧xs.length=its.length∧s.heap.get? l=some { cls:=.type "list",data:=.seq its.toArray n }:=by
 obtain⟨z,its,n,r,e⟩:=I.hok l _ hH
 exact⟨z,its,n,r,r.length,e⟩
end
section
variable {X:Cx}
def b0V:V→List V→Hp→VK→Prop:=fun x vs H Q=>∃ l xs y,x = .ref l∧vs=[y]∧H l=some (.lst xs)∧xs.length<sizeLine∧Q .non (upd H l (.lst (xs++[y])))
theorem a5A:MtM X "list.append" b0V:=by
 intro pins s σ H x vs v us Q I rx rv h
 obtain⟨l,xs,y,rfl,rfl,hH,hz,q⟩:=h
 cases rx
 obtain⟨u,rfl,ru⟩:=rv.one
 obtain⟨z,its,n,r,hl,e⟩:=I.lstM hH
 refine call_meets F.slot_list_append ⟨_,e,rfl⟩ F.entry_list_append (F.args_list_append_2 _ _) (PySem.list_append l its.toArray n u (by rw[c69];omega)) ⟨e,?_⟩
 refine⟨.non,_,I.lset (its':=its++[u]) hH e (by simp) (r.append (.cons ru .nil)) ?_,rfl,q⟩
 rw[c7l,List.length_singleton]
 omega
end
section
variable {prog:Program} {w:World} {A:Around} {E:Value→Shared→Prop} {s:Shared}
end
section
variable {X:Cx}
end
end L2
namespace Att
open PySem PySem.W PySem.Calls PyProof.Rows
theorem a2x{P:Params}{h:Heap}:∀(ns:List Int) (vs:List Value),WellAll P h vs (ns.map WData.int)→IntsAre vs ns:=by
 intro ns
 induction ns with
 | nil =>
  intro vs w
  rw[c8d]at w
  cases w
  exact .nil
 | cons n ns ih =>
  intro vs w
  rw[c7I]at w
  cases w with
  | cons a b =>
   cases a
   exact .cons _ _ (ih _ b)
theorem b1J{l:OpenLaw}{n:Nat}(hn:l.most=some n){P:Params}{h:Heap}{args:List WData}{vals:List Value}
  (hpre:l.row.toRowW.claim.pre args=true) (hwl:WellAll P h vals args) :
  ∃ a vs ns,vals=[Value.ref a]∧args=[WData.list (ns.map WData.int)]∧h.get? a=some { cls:=.type "list",data:=.seq vs.toArray }∧IntsAre vs ns∧ns.length≤n:=by
 have hsh:WShape.hasAll [] args [.list .int]=true:=(pre_splitW hpre).1
 have hc:l.pre.holds [] { args:=args } = true:=(pre_splitW hpre).2
 obtain⟨d,r,rfl,h1,h2⟩:=hasAllW_cons hsh
 obtain rfl:=hasAllW_nil h2
 obtain⟨xs,rfl,h3⟩:=hasW_list h1
 obtain⟨ns,rfl⟩:=items_int h3
 have hlen:ns.length≤n:=by
  unfold OpenLaw.pre at hc
  have h4:(WTm.not (.lt (.lit (.int (n:Int))) (.len (.arg 0)))).holds [] { args:=[.list (ns.map .int)] } = true:=by
   have h4:=(holds_andW hc).1
   rw[hn]at h4
   exact h4
  have h5:=condW_of h4 (w_not (w_lt w_lit (w_len_list (w_arg rfl))))
  rw[c6Q]at h5
  refine Nat.le_of_not_lt fun q=>?_
  have q':(n:Int)<((ns.length:Nat):Int):=by omega
  first
   | (rw[decide_eq_true q']at h5;exact absurd h5 (by decide))
   | (simp at h5;omega)
 cases hwl with
 | cons w1 w2 =>
  cases w2
  cases w1 with
  | list ho hall=>exact⟨_,_,ns,rfl,rfl,ho,a2x ns _ hall,hlen⟩
theorem b1P(l:OpenLaw)(args:List WData):l.row.toRowW.claim.post args (.bool true) args=true :=
 postW_of (r:=l.row.toRowW) (X:=(true == true))
  (show WShape.has [] (.bool true) .bool=true by first|rfl|decide|simp[WShape.has,WShape.arms,WShape.armsAll])
  (show(WTm.eq .res (.lit (.bool true))).value [] { args:=args,res:=some (.bool true),after:=args } = some (.bool (true == true))from w_eq_bool (w_res rfl) w_lit) rfl
theorem a8L{l:OpenLaw}{n:Nat}{q:Program}{loose:List Str}{XP:(Str→Option Value)→Heap→Prop}{YP:World→Heap→Prop}{d:DefRec}
  (hn:l.most=some n) (hdf:d.params.defaults=[])
  (call:∀(w:World) (s₀ s₁:Shared) (mg mb:Str→Option Value) (fa:Addr) (o:Obj) (pm cd doc:Value) (a:Addr) (vs:List Value) (ns:List Int),
   Ground q loose [] XP w s₀ mg mb s₁.heap→YP w s₁.heap →
   s₁.heap.get? fa=some o→o.data = .func (docDef d.name d.params d.body d.scope pm cd doc)→s₁.heap.CodeRec cd d.name→mg d.name=some (.ref fa) →
   s₁.heap.get? a=some { cls:=.type "list",data:=.seq vs.toArray }→IntsAre vs ns→ns.length≤n→s₁.gens = #[] →
   codeAny (model l.prog w) callerA (.call (.ref fa) ⟨[.ref a],[]⟩) (fun r s'=>r = .ok (.ret (.bool true))∧OldK s₁.heap s'.heap∧s'.os=s₁.os∧AllBare s'.gens) s₁) :
  WalkO q loose XP YP l.row.toRowW d [] (fun f vs=>PySem.call f vs):=by
 intro w s₀ s₁ mg mb G Y fa o pm cd doc dV kV ho hd hcd hD hmg hg args vals as hpre hlay hrd hwl hlo
 obtain rfl:dV = .none:=Dflts.none hD hdf
 obtain rfl:kV = .none:=Dflts.noKw hD
 obtain⟨a,vs,ns,rfl,rfl,hobj,hints,hlen⟩:=b1J hn hpre hwl
 refine enter_call (codeAny_mono (call w s₀ s₁ mg mb fa o pm cd doc a vs ns G Y ho (fd_plain hd) hcd hmg hobj hints hlen hg) fun r s' hq=>?_)
 obtain⟨rfl,h2,h3,h4⟩:=hq
 exact⟨.inl ⟨.bool true,.bool true,[],rfl,fun _=>rfl,.bool true,b1P l _,fun _=>⟨List.Pairwise.nil,fun _ hm=>(nomatch hm)⟩⟩,h2,h3,h4⟩
section
variable {prog:Program} {w:World} {A:Around} {E:Value→Shared→Prop} {s:Shared} {K:Frag}
end
end Att
namespace L2
open PySem PySem.Spec PyProof.Rows
theorem a5r:∀{vs:List Value} {ns:List Int},IntsAre vs ns→p0 (ns.map V.int) vs
 | _,_,.nil=>.nil
 | _,_,.cons n t h=>.cons ⟨t,rfl⟩ (a5r h)
def b2o(H:Hp):Prop:=∀ b,H b=none ∨ ∃ o xs,H b=some (.frz o (.lst xs))
theorem b4A{P:Program}{w:World}{K:c6M}{mg mb:Str→Option Value}{CX:CXT}{k:Nat}{fa a:Addr}{fd:FuncData}{x:Str}{sp:Sp}{s₁:Shared}{vs:List Value}{ns:List Int}
  (KX:K.In s₁.heap) (hns:s₁.heap.Ns mainGlobals mg) (hb:s₁.heap.Ns builtinsNs mb) (hbb:∀ x:Str,x ≠ "__name__" → mb x=bootBuiltins x) (hlim:s₁.heap.NoLimit) (hg:s₁.gens = #[])
  (ha:s₁.heap.get? a=some { cls:=.type "list",data:=.seq vs.toArray }) (hi:IntsAre vs ns) (hl:ns.length≤sizeLine) (hr:K4 k callerA)
  (F:∀ base:Heap,K.In base→base.Ns mainGlobals mg→V4 P w K mg base CX k fa fd [x] sp) (hbind:∀(s:Shared) (u:Value),BindsTo s fd ⟨[u],[]⟩ [(x,u)])
  (hsp:∀ H:Hp,b2o H→SqL K H a (ns.map V.int)→sp [.ref a] H (fun v _=>v = .bl true) fun _ _ _=>False)
  (hCX:∀ H e s',CX [] H s₁ (fun _ _ _=>False) e s'→False) :
  codeAny (model P w) callerA (.call (.ref fa) ⟨[.ref a],[]⟩) (fun r s'=>r = .ok (.ret (.bool true))∧OldK s₁.heap s'.heap∧s'.os=s₁.os∧AllBare s'.gens) s₁:=by
 have rv:=a5r hi
 have lenV:=hi.length
 have core:∀ H:Hp,b2o H→SqL K H a (ns.map V.int)→HOk P w H s₁.heap→(∀ b,H b≠none→b=a)→(H a≠none→K.lookup a=none) →
   codeAny (model P w) callerA (.call (.ref fa) ⟨[.ref a],[]⟩) (fun r s'=>r = .ok (.ret (.bool true))∧OldK s₁.heap s'.heap∧s'.os=s₁.os∧AllBare s'.gens) s₁:=by
  intro H hO hS hok hA hK
  have base_of:∀{b:Addr} {o:Obj},s₁.heap.get? b=some o→H b=none→(a6V s₁.heap H).get? b=some o:=fun e n=>b4M e n
  have noA:∀{b:Addr} {o:Obj} {es:Array DictEntry} {ep:Nat},s₁.heap.get? b=some o→o.data = .dict es ep→H b=none:=fun{b o es ep} e d=>by
   cases q:H b with
   | none=>rfl
   | some u =>
    have e':b=a:=hA b (by rw[q];simp)
    subst e'
    rw[ha]at e;cases e
    have d':Data.seq vs.toArray _=Data.dict es ep:=d
    cases d'
  have nsK:∀{b:Addr} {m:Str→Option Value},s₁.heap.Ns b m→(a6V s₁.heap H).Ns b m:=fun{b m} ⟨o,es,ep,e,d,r⟩=>⟨o,es,ep,base_of e (noA e d),d,r⟩
  have hKb:K.In (a6V s₁.heap H):=fun b o e=>base_of (KX b o e) (by
   cases q:H b with
   | none=>rfl
   | some u =>
    have e':b=a:=hA b (by rw[q];simp)
    subst e'
    rw[hK (by rw[q];simp)]at e;cases e)
  have hM:Mod K mg (a6V s₁.heap H):=⟨hKb,nsK hns,⟨mb,nsK hb,hbb⟩,let ⟨mc,h1,h2⟩:=hlim;⟨mc,nsK h1,h2⟩⟩
  have e0:a92 P w K mg (a6V s₁.heap H) callerA [] s₁ H:=⟨rfl,hM,fun b o e=>b7D e,c90 (b2a _ _),trivial,fun b hb=>absurd (show b∈([]:List Addr)from hb) (by simp),hok,.of_eq hg⟩
  refine codeAny_mono ((F _ hKb (nsK hns)).run callerA [] s₁ H ⟨[.ref a],[]⟩ [.ref a] [.ref a] _ _ hr e0 (hbind s₁ (.ref a)) (.cons rfl .nil) (hsp H hO hS)) fun r s' h=>?_
  cases r with
  | error e=>exact(hCX H e s' h).elim
  | ok fl =>
   cases fl with
   | next=>exact False.elim h
   | brk=>exact False.elim h
   | cont=>exact False.elim h
   | ret u =>
    obtain⟨v,H',os,bare,un,hok',r',q⟩:=h
    have q':v = .bl true:=q
    subst q'
    obtain rfl:u=Value.bool true:=r'
    refine⟨rfl,OldK.of_keep fun b o e=>?_,os,bare⟩
    cases q:H b with
    | none=>exact un.keep b o e q (by intro z;exact absurd (show b∈([]:List Addr)from z) (by simp)) (by simp)
    | some u =>
     rcases hO b with z|⟨ob,xs,z⟩
     ·rw[q]at z;cases z
     ·have z2:=un.frzs b ob _ z
      obtain⟨e1,_⟩:=hok b _ z
      obtain⟨e2,_⟩:=hok' b _ z2
      rw[e]at e1;cases e1
      exact e2
 cases hk:K.lookup a with
 | some o =>
  have e:=KX a o hk
  rw[ha]at e
  cases e
  refine core (fun _=>none) (fun _=>.inl rfl) (.inr ⟨_,vs.toArray,_,hk,rfl,rfl,rfl,by rw[c69,lenV];exact hl,by simpa using rv⟩) (fun b u z=>by have z':(none:Option HO)=some u:=z;cases z') (fun b z=>absurd rfl z) fun z=>absurd rfl z
 | none =>
  refine core (fun b=>if b=a then some (.frz { cls:=.type "list",data:=.seq vs.toArray } (.lst (ns.map V.int)))else none) (fun b=>?_) (.inl (.inr ⟨{ cls:=.type "list",data:=.seq vs.toArray },if_pos rfl⟩)) (fun b u z=>?_) (fun b z=>?_) fun _=>hk
  ·by_cases hb:b=a
   ·exact .inr ⟨_,_,if_pos hb⟩
   ·exact .inl (if_neg hb)
  ·by_cases hb:b=a
   ·have z':=(if_pos hb).symm.trans z
    cases z'
    subst hb
    exact⟨ha,by rw[c6Q];exact hl,vs,_,rv,ha⟩
   ·have z':=(if_neg hb).symm.trans z
    cases z'
  ·by_cases hb:b=a
   ·exact hb
   ·exact absurd (if_neg hb) z
end L2
namespace L2
open PySem PySem.Spec PyProof.Rows
theorem b6H{l:PySem.W.OpenLaw}{n k:Nat}{q:Program}{loose:List Str}{XP:(Str→Option Value)→Heap→Prop}{YP:World→Heap→Prop}{d:DefRec}{K:Params→c6M}{CX:World→CXT}{sp:World→Sp}{x:Str}
  (hn:l.most=some n) (hn2:n≤sizeLine) (hdf:d.params.defaults=[]) (hr:K4 k callerA)
  (hY:∀(w:World) (h:Heap),YP w h→(K w.params).In h)
  (F:∀(w:World) (mg:Str→Option Value) (fa:Addr) (h:Heap),(K w.params).In h→h.Ns mainGlobals mg→mg d.name=some (.ref fa) →
   ∃ fd:FuncData,(∀(s:Shared) (u:Value),BindsTo s fd ⟨[u],[]⟩ [(x,u)]) ∧
    ∀ base:Heap,(K w.params).In base→base.Ns mainGlobals mg→V4 l.prog w (K w.params) mg base (CX w) k fa fd [x] (sp w))
  (hsp:∀(w:World) (H:Hp) (a:Addr) (ns:List Int),ns.length≤n→b2o H→SqL (K w.params) H a (ns.map V.int)→sp w [.ref a] H (fun v _=>v = .bl true) fun _ _ _=>False)
  (hCX:∀(w:World) (H:Hp) (s:Shared) (e:Value) (s':Shared),CX w [] H s (fun _ _ _=>False) e s'→False) :
  PySem.W.WalkO q loose XP YP l.row.toRowW d [] (fun f vs=>PySem.call f vs):=by
 refine Att.a8L hn hdf fun w s₀ s₁ mg mb fa o pm cd doc a vs ns G Y ho hd hcd hmg hobj hints hlen hg=>?_
 have KX:=hY w _ Y
 obtain⟨fd,hb,hF⟩:=F w mg fa _ KX G.T.g hmg
 exact b4A KX G.T.g G.T.b G.T.builtins G.T.nolimit hg hobj hints (c6V hlen hn2) hr hF hb (fun H hO hS=>hsp w H a ns hlen hO hS) fun H e s'=>hCX w H s₁ e s'
theorem b3l{l:PySem.W.OpenLaw}{n k:Nat}{q:Program}{loose:List Str}{XP:(Str→Option Value)→Heap→Prop}{YP:World→Heap→Prop}{d:DefRec}{K:Params→c6M}{CX:CXT}{sp:c6M→Sp}{x:Str}
  (hn:l.most=some n) (hn2:n≤sizeLine) (hdf:d.params.defaults=[]) (hr:K4 k callerA)
  (hY:∀(w:World) (h:Heap),YP w h→(K w.params).In h)
  (F:∀(w:World) (mg:Str→Option Value) (fa:Addr) (h:Heap),(K w.params).In h→h.Ns mainGlobals mg→mg d.name=some (.ref fa) →
   ∃ fd:FuncData,(∀(s:Shared) (u:Value),BindsTo s fd ⟨[u],[]⟩ [(x,u)]) ∧
    ∀ base:Heap,(K w.params).In base→base.Ns mainGlobals mg→V4 l.prog w (K w.params) mg base CX k fa fd [x] (sp (K w.params)))
  (hsp:∀(K:c6M) (H:Hp) (a:Addr) (ns:List Int),ns.length≤n→b2o H→SqL K H a (ns.map V.int)→sp K [.ref a] H (fun v _=>v = .bl true) fun _ _ _=>False)
  (hCX:∀(H:Hp) (s:Shared) (e:Value) (s':Shared),CX [] H s (fun _ _ _=>False) e s'→False) :
  PySem.W.WalkO q loose XP YP l.row.toRowW d [] (fun f vs=>PySem.call f vs) :=
 b6H (K:=K) (CX:=fun _=>CX) (sp:=fun w=>sp (K w.params)) hn hn2 hdf hr hY F (fun w H a ns h1 h2 h3=>hsp (K w.params) H a ns h1 h2 h3) fun _ H s e s'=>hCX H s e s'
end L2
namespace L2
open PySem PySem.Spec PyProof.Rows
def U5(s:Stmt):Arguments:=match s with
 | .FunctionDef _ a _ _ _ _ _ _ _ _=>a
 | _=>{ posonlyargs:=[],args:=[],vararg:=none,kwonlyargs:=[],kw_defaults:=[],kwarg:=none,defaults:=[] }
def L4(s:Stmt):List Stmt:=match s with
 | .FunctionDef _ _ b _ _ _ _ _ _ _=>b
 | _=>[]
def e8(s:Stmt):Scope:=match s with
 | .FunctionDef _ _ _ _ _ _ sc _ _ _=>sc
 | _=>{ kind:=.function,names:=[],isGenerator:=false,isCoroutine:=false }
abbrev CX0:CXT:=fun _ _ _ _ _ _=>False
abbrev E0:XK:=fun _ _ _=>False
theorem c2g{X:Cx}:a7c CX0 X E0:=fun _ _ _ _ _ _ _ h=>h.elim
section
variable {P:Program} {w:World} {K:c6M} {mg:Str→Option Value} {base:Heap}
end
section
variable {X:Cx}
theorem pv(i:Nat){x:Str}{pos:Pos}(hN:X.N[i]? = some x:=by rfl)(hv:Vis X.env.scope x:=by first|exact Or.inl rfl|exact Or.inr (Or.inl rfl)|exact Or.inr (Or.inr rfl))(hd:(x == ("__debug__" : Str))=false:=by decide)
  (hcd:(x == ("__classdict__" : Str))=false:=by decide):PE X (.Name x pos) (c1G i):=b4c hN hv hd hcd
end
theorem c2u{A B:Prop}(h:B):if false=true then A else B:=by
 rw[if_neg c7k]
 exact h
theorem c3M{A B:Prop}(h:A):if true=true then A else B:=by
 rw[if_pos rfl]
 exact h
end L2
end
namespace RM
open Rat
def bl(n:Nat):Nat:=n.log2+1
theorem a1s(n:Nat):n<2 ^ bl n:=Nat.lt_log2_self
theorem Y7{n k:Nat}(h:n<2 ^ k)(hk:0<k):bl n≤k:=by
 unfold bl
 rcases c8h n with h0|h0
 ·subst h0;rw[Nat.log2_zero];omega
 ·have:=(c9b (c9E.mp h0)).mpr h
  omega
theorem b5y(n:Nat):0<bl n:=c91 _
theorem V0{m n:Nat}(h:m≤n):bl m≤bl n:=Y7 (c7c h (a1s n)) (b5y n)
theorem U9(m n:Nat):bl (m*n)≤bl m+bl n:=by
 refine Y7 ?_ (Nat.add_pos_left (b5y m) _)
 rw[c9c]
 exact Nat.mul_lt_mul'' (a1s m) (a1s n)
theorem c0X(m n:Nat):bl (m+n)≤max (bl m) (bl n)+1:=by
 refine Y7 ?_ (c91 _)
 have h1:=a1s m
 have h2:=a1s n
 have e1:2 ^ bl m≤2 ^ max (bl m) (bl n):=c7f (by decide) (c9t _ _)
 have e2:2 ^ bl n≤2 ^ max (bl m) (bl n):=c7f (by decide) (c9m _ _)
 rw[c81]
 omega
def sz(q:Rat):Nat:=max (bl q.num.natAbs) (bl q.den)
theorem L7(q:Rat):bl q.num.natAbs≤sz q:=c9t _ _
theorem D3(q:Rat):bl q.den≤sz q:=c9m _ _
theorem b0K{q:Rat}{n:Nat}(h1:bl q.num.natAbs≤n)(h2:bl q.den≤n):sz q≤n:=c8P.mpr ⟨h1,h2⟩
theorem b4r(a b:Int):(divInt a b).num.natAbs≤a.natAbs:=by
 rw[num_divInt]
 rcases Int.lt_trichotomy b 0 with h|h|h
 ·rw[c8Z h]
  refine c6V (c84 _ _) ?_
  simp
 ·subst h;simp
 ·rw[c8A h,c9F]
  exact c84 _ _
theorem c0P(a b:Int)(hb:b≠0):(divInt a b).den≤b.natAbs:=by
 rw[den_divInt,if_neg hb]
 exact c8U _ _
theorem L5(a b:Int)(hb:b≠0):sz (divInt a b)≤max (bl a.natAbs) (bl b.natAbs) :=
 b0K (c6V (V0 (b4r a b)) (c9t _ _)) (c6V (V0 (c0P a b hb)) (c9m _ _))
theorem D8(q:Rat):(q.den:Int)≠0:=by have:=q.den_nz;omega
theorem a91(q r:Rat):q+r=divInt (q.num*r.den+r.num*q.den) (q.den*r.den):=by
 conv=>lhs;rw[← num_divInt_den q,← num_divInt_den r]
 rw[divInt_add_divInt _ _ (D8 q) (D8 r)]
theorem a9J(q r:Rat):q*r=divInt (q.num*r.num) (q.den*r.den):=by
 conv=>lhs;rw[← num_divInt_den q,← num_divInt_den r]
 rw[divInt_mul_divInt]
theorem b5d(q r:Rat):q / r=divInt (q.num*r.den) (q.den*r.num):=by
 rw[div_def]
 conv=>lhs;rw[← num_divInt_den q,← num_divInt_den r]
 rw[inv_divInt,divInt_mul_divInt]
theorem a3W(a b:Int):(a+b).natAbs≤a.natAbs+b.natAbs:=c9R a b
theorem a3k(q r:Rat):sz (q+r)≤sz q+sz r+1:=by
 rw[a91]
 have hb:((q.den:Int)*(r.den:Int))≠0:=c7Q (D8 q) (D8 r)
 refine c6V (L5 _ _ hb) (c8P.mpr ⟨?_,?_⟩)
 ·refine c6V (V0 (a3W _ _)) (c6V (c0X _ _) ?_)
  rw[c7n,c7n]
  have h1:=U9 q.num.natAbs (r.den:Int).natAbs
  have h2:=U9 r.num.natAbs (q.den:Int).natAbs
  have a1:=L7 q
  have a2:=L7 r
  have a3:=D3 q
  have a4:=D3 r
  simp only[c6N]at h1 h2 ⊢
  omega
 ·rw[c7n]
  have h1:=U9 (q.den:Int).natAbs (r.den:Int).natAbs
  have a3:=D3 q
  have a4:=D3 r
  simp only[c6N]at h1 ⊢
  omega
theorem y9(q r:Rat):sz (q*r)≤sz q+sz r:=by
 rw[a9J]
 have hb:((q.den:Int)*(r.den:Int))≠0:=c7Q (D8 q) (D8 r)
 refine c6V (L5 _ _ hb) (c8P.mpr ⟨?_,?_⟩)
 ·rw[c7n]
  have h1:=U9 q.num.natAbs r.num.natAbs
  have a1:=L7 q
  have a2:=L7 r
  omega
 ·rw[c7n]
  have h1:=U9 (q.den:Int).natAbs (r.den:Int).natAbs
  have a3:=D3 q
  have a4:=D3 r
  simp only[c6N]at h1 ⊢
  omega
theorem O6(q:Rat):sz (-q)=sz q:=by
 unfold sz
 rw[c9G,c9H,c72]
theorem R3(q r:Rat):sz (q - r)≤sz q+sz r+1:=by
 rw[c9N]
 have:=a3k q (-r)
 rw[O6]at this
 exact this
theorem R4(q r:Rat)(hr:r≠0):sz (q / r)≤sz q+sz r:=by
 rw[b5d]
 have hn:r.num≠0:=fun h=>hr (Rat.num_eq_zero.mp h)
 have hb:((q.den:Int)*r.num)≠0:=c7Q (D8 q) hn
 refine c6V (L5 _ _ hb) (c8P.mpr ⟨?_,?_⟩)
 ·rw[c7n]
  have h1:=U9 q.num.natAbs (r.den:Int).natAbs
  have a1:=L7 q
  have a4:=D3 r
  simp only[c6N]at h1 ⊢
  omega
 ·rw[c7n]
  have h1:=U9 (q.den:Int).natAbs r.num.natAbs
  have a3:=D3 q
  have a2:=L7 r
  simp only[c6N]at h1 ⊢
  omega
theorem K5:sz 0=1:=by decide
theorem O5:sz 1=1:=by decide
theorem b4P(a b:Nat)(h:b≠0):c7w a b=c7w b (a % b):=by
 rw[c92,Nat.gcd_rec,c92]
theorem U3{a g:Int}(h:g ∣ a):a.fdiv g=a / g:=by
 obtain⟨c,rfl⟩:=h
 by_cases hg:g=0
 ·subst hg;simp
 ·rw[Int.mul_fdiv_cancel_left _ hg,c8t _ hg]
theorem c0t(a b:Int)(hb:b≠0)(share:Int)(hs:share=if b<0 then -((c7w a.natAbs b.natAbs:Nat):Int)else((c7w a.natAbs b.natAbs:Nat):Int)) :
  a.fdiv share=(divInt a b).num∧b.fdiv share=((divInt a b).den:Int):=by
 have hg:c7w a.natAbs b.natAbs=c9S b a:=by unfold c9S;exact c92 _ _
 have da:((c9S b a:Nat):Int) ∣ a:=Int.gcd_dvd_right b a
 have db:((c9S b a:Nat):Int) ∣ b:=Int.gcd_dvd_left b a
 rw[hg]at hs
 rw[num_divInt,den_divInt,if_neg hb]
 by_cases h:b<0
 ·rw[if_pos h]at hs
  subst hs
  rw[U3 (Int.neg_dvd.mpr da),U3 (Int.neg_dvd.mpr db),c8Z h]
  refine⟨?_,?_⟩
  ·rw[Int.ediv_neg,Int.neg_one_mul,c9I da]
  ·rw[Int.ediv_neg,← c9I db]
   have e:-b=((b.natAbs:Nat):Int):=by omega
   rw[e]
   norm_cast
 ·rw[if_neg h]at hs
  subst hs
  have hp:0<b:=by omega
  rw[U3 da,U3 db,c8A hp,c9F]
  refine⟨rfl,?_⟩
  have e:b=((b.natAbs:Nat):Int):=by omega
  conv=>lhs;rw[e]
  norm_cast
theorem c2q(q r:Rat):decide (q.num*(r.den:Int)<r.num*(q.den:Int))=decide (q<r):=by
 by_cases h:q<r
 ·rw[decide_eq_true h,decide_eq_true ((c9T q r).mp h)]
 ·rw[decide_eq_false h,decide_eq_false (fun z=>h ((c9T q r).mpr z))]
end RM
namespace L2
open PySem PySem.Spec PyProof.Rows
section
variable {prog:Program} {w:World} {A:Around} {R:Result→Shared→Prop} {s:Shared}
def b0I(ifs:List Expr)(env:Env):Sem Bool:=forIn ifs true fun c r=>if r=true then do let ok ← isTrue c env (eval c env);pure (ForInStep.yield ok)else pure (ForInStep.yield r)
theorem a63{elt target iter:Expr}{ifs:List Expr}{scope:Scope}{pos:Pos}{it acc:Value}{env:Env}(I:Nat→Shared→Prop)
  (turn:∀ n s,I n s→wpAny (model prog w) A (pyNext it) (fun r s₁=>match r with
   | none=>R (.ok .next) s₁
   | some v=>wpAny (model prog w) A (letOwnedTupleGo target it v) (fun _ s₁'=>wpAny (model prog w) A (assign target env v) (fun _ s₂=>wpAny (model prog w) A (b0I ifs env) (fun ok s₂'=>if ok=true then wpAny (model prog w) A (eval elt env) (fun x s₃ =>
     wpAny (model prog w) A (call (.builtin "list.append") [acc,x]) (fun _ s₄=>∃ m,m<n∧I m s₄) (notedBy (model prog w) A env fun e s'=>R (.error e) s') s₃)
     (notedBy (model prog w) A env fun e s'=>R (.error e) s') s₂' else ∃ m,m<n∧I m s₂') (notedBy (model prog w) A env fun e s'=>R (.error e) s') s₂) (notedBy (model prog w) A env fun e s'=>R (.error e) s') s₁') (notedBy (model prog w) A env fun e s'=>R (.error e) s') s₁) (notedBy (model prog w) A env fun e s'=>R (.error e) s') s)
  (n:Nat) (h:I n s) :
  codeAny (model prog w) A (.compLoop (.ListComp elt [⟨target,iter,ifs,0⟩] scope pos) 0 it acc env) R s:=by
 refine codeAny_loop rfl I (fun n s hI=>?_) n h
 show wpAny _ _ ((compTurn (.ListComp elt [⟨target,iter,ifs,0⟩] scope pos) 0 it acc env).onRaise (fun x=>do noteFrame x env;theTreesLotGoes x)) _ _ s
 refine wpAny_noted ?_
 rw[compTurn_list]
 refine c6L (wpAny_standAt (c6L (wpAny_mono (turn n s hI) (fun r s₁ h₁=>?_) fun _ _ h'=>h')))
 cases r with
 | none=>exact c6U h₁
 | some v =>
  refine c6L (wpAny_mono h₁ (fun _ s₁' h₁'=>?_) fun _ _ h'=>h')
  refine c6L (wpAny_mono h₁' (fun _ s₂ h₂=>c6L (wpAny_mono h₂ (fun ok s₂' h₃=>?_) fun _ _ h'=>h')) fun _ _ h'=>h')
  cases ok with
  | true =>
   refine c6L (c6L (wpAny_mono h₃ (fun x s₃ h₄=>c6L (wpAny_mono h₄ (fun _ s₄ h₅=>c6U (c6U ⟨rfl,h₅⟩)) fun _ _ h'=>h')) fun _ _ h'=>h'))
  | false=>exact c6L (c6U (c6U ⟨rfl,h₃⟩))
end
def a15(X:Cx)(ifs:List Expr)(t:TT):Prop :=
 ∀(pins:List (Addr × Obj)) (s:Shared) (σ:St) (H:Hp) (Q:Bool→Hp→Prop),Inv X pins σ H s→t σ H Q→wpAny (model X.prog X.w) X.A (b0I ifs X.env) (TP X pins σ Q) X.xe s
def c3o:TT:=fun _ H Q=>Q true H
theorem b3Z{X:Cx}:a15 X [] c3o:=fun pins s σ H Q I q=>c6U ⟨H,I,q⟩
theorem b3Y{X:Cx}{c:Expr}{t:TT}(h:PT X c t):a15 X [c] t:=fun pins s σ H Q I q=>wpAny_tests_one (h pins s σ H Q I q)
end L2
namespace L2
open PySem PySem.Spec PyProof.Rows
def Y5(cells:List (Str × Addr)):List (Str × NameKind)→List (Str × Addr)→List (Str × Addr)
 | [],acc=>acc
 | (n,k) :: r,acc=>if k == .free then Y5 cells r ((n,(cells.lookup n).getD 0) :: acc)else Y5 cells r acc
theorem a0Z{env:Env}:∀(names:List (Str × NameKind)) (acc:List (Str × Addr)),(∀ n,(n,NameKind.free)∈names→∃ c,env.cells.lookup n=some c) →
  (forIn names acc (fun(x:Str × NameKind) (cs:List (Str × Addr))=>if (x.2 == NameKind.free)=true then(do let a ← cellOf env x.1;pure (ForInStep.yield ((x.1,a) :: cs)))else pure (ForInStep.yield cs)):Sem (List (Str × Addr)))=pure (Y5 env.cells names acc)
 | [],acc,_=>rfl
 | (n,k) :: r,acc,h=>by
  rw[c9u]
  unfold Y5
  by_cases hk:(k == NameKind.free)=true
  ·have e:k = .free:=by cases k<;>first|rfl|(exact absurd hk (by decide))
   subst e
   obtain⟨c,hc⟩:=h n c7D
   rw[if_pos hk,if_pos hk]
   have e1:cellOf env n=pure c:=by unfold cellOf;rw[hc]
   rw[e1,pure_bind,pure_bind,hc]
   exact a0Z r _ fun m hm=>h m (c7j _ hm)
  ·rw[if_neg hk,if_neg hk,pure_bind]
   exact a0Z r _ fun m hm=>h m (c7j _ hm)
theorem a8I{scope:Scope}{env:Env}(h:∀ n,(n,NameKind.free)∈scope.names→∃ c,env.cells.lookup n=some c):closureFor scope env=pure (Y5 env.cells scope.names []):=by
 have:=a0Z (env:=env) scope.names [] h
 unfold closureFor
 first
  | (simp only[]at this ⊢;rw[← this];simp only[bind_pure];rfl)
  | (rw[← this];rfl)
  | (simp only[bind_pure,pure_bind];exact this)
theorem U7{cells:List (Str × Addr)}{x:Str}{c:Addr}:∀(names:List (Str × NameKind)) (acc:List (Str × Addr)),(∀ n,(n,NameKind.free)∈names→∃ c,cells.lookup n=some c)→(∀ y d,acc.lookup y=some d→cells.lookup y=some d)→(Y5 cells names acc).lookup x=some c→cells.lookup x=some c
 | [],acc,_,ha,h=>ha x c h
 | (n,k) :: r,acc,hn,ha,h=>by
  unfold Y5 at h
  by_cases hk:(k == NameKind.free)=true
  ·rw[if_pos hk]at h
   have e:k = .free:=by cases k<;>first|rfl|(exact absurd hk (by decide))
   subst e
   obtain⟨d,hd⟩:=hn n c7D
   refine U7 r _ (fun m hm=>hn m (c7j _ hm)) (fun y e hy=>?_) h
   rw[c8r]at hy
   split at hy
   ·rename_i hz
    have hz':y=n:=by simpa using hz
    subst hz'
    rw[hd]at hy ⊢
    cases hy;rfl
   ·exact ha y e hy
  ·rw[if_neg hk]at h
   exact U7 r _ (fun m hm=>hn m (c7j _ hm)) ha h
theorem a0o{cells:List (Str × Addr)}{x:Str}:∀(names:List (Str × NameKind)) (acc:List (Str × Addr)),((x,NameKind.free)∈names ∨ ∃ c,acc.lookup x=some c)→∃ c,(Y5 cells names acc).lookup x=some c
 | [],acc,h=>by
  rcases h with h|h
  ·cases h
  ·exact h
 | (n,k) :: r,acc,h=>by
  unfold Y5
  by_cases hk:(k == NameKind.free)=true
  ·rw[if_pos hk]
   refine a0o r _ ?_
   by_cases hx:x=n
   ·right;rw[c8r];simp[hx]
   ·rcases h with h|⟨c,h⟩
    ·rcases c7h.mp h with z|z
     ·injection z with z1 _;exact absurd z1 hx
     ·exact .inl z
    ·right
     refine⟨c,?_⟩
     rw[c8r]
     have:(x == n)=false:=by simpa using hx
     rw[this];exact h
  ·rw[if_neg hk]
   refine a0o r _ ?_
   rcases h with h|h
   ·rcases c7h.mp h with z|z
    ·injection z with _ z2
     subst z2
     exact absurd rfl hk
    ·exact .inl z
   ·exact .inr h
theorem a2n{scope:Scope}{env:Env}{x:Str}{k:NameKind}(h:(relabel scope env).names.lookup x=some k)(hk:k = .cell∨k = .free)(hcell:∀ y∈scope.names,y.2 ≠ .cell):(x,NameKind.free)∈scope.names:=by
 have go:∀(l:List (Str × NameKind)),(∀ y∈l,y.2 ≠ .cell)→(l.map fun(n,k)=>if (k == NameKind.free && env.scope.kind == .function && env.kindOf n == some .cell)=true then(n,NameKind.cell)else(n,k)).lookup x=some k→(x,NameKind.free)∈l:=by
  intro l
  induction l with
  | nil=>intro _ h;cases h
  | cons p r ih =>
   intro hl h
   obtain⟨n,j⟩:=p
   rw[c7I,c8r]at h
   by_cases hj:j = .free
   ·subst hj
    by_cases hx:x=n
    ·subst hx;exact c7D
    ·refine c7j _ (ih (fun y hy=>hl y (c7j _ hy)) ?_)
     have e:∀ b:Bool,(x == (if b=true then(n,NameKind.cell)else(n,NameKind.free)).1)=false:=fun b=>by cases b<;>simpa using hx
     dsimp only at h
     rw[e]at h
     exact h
   ·have e:(j == NameKind.free)=false:=by simpa using hj
    have hc:=hl (n,j) c7D
    dsimp only at h
    rw[e]at h
    simp only[Bool.false_and,c7R,if_false]at h
    by_cases hx:x=n
    ·have:(x == n)=true:=by simpa using hx
     rw[this]at h
     have h':j=k:=by simpa using h
     subst h'
     rcases hk with z|z
     ·exact absurd z hc
     ·exact absurd z hj
    ·have:(x == n)=false:=by simpa using hx
     rw[this]at h
     exact c7j _ (ih (fun y hy=>hl y (c7j _ hy)) h)
 exact go scope.names hcell h
def cxF(X:Cx)(scope:Scope)(cl:List (Str × Addr))(N':List Str)(s3:Shared)(H3:Hp)(C:Addr)(fp:List Addr)(pins:List (Addr × Obj)):Cx :=
 { X with N:=N',s₀:=s3,H₀:=H3,env:=compEnvC scope cl C X.env,outer:=X.stack,ex:=fp,fn:=fun _=>false,pn:=X.pn++pins,xe:=fun _ _=>False }
def a64(n:Nat)(caps:List Nat)(σ:St):St:=c8f n none++caps.map fun i=>(σ[i]?).getD none
def a82(n:Nat)(caps:List Nat)(wi:TI)(g:TG)(tc:TT)(te:TE):TE:=fun σ H Q=>wi σ H fun J H1=>∀ D,H1 D=none→∃ W:Nat→Nat→Hp→Prop,(∃ m,W 0 m (upd H1 D (.lst [])))∧∀ i m H,W i m H →
 (J.stop i H∧Q (.ref D) H)∨(J.go i H∧∀ x H',J.yld i H x H'→g x (a64 n caps σ) H' fun σ2 H2=>tc σ2 H2 fun b H2'=>if b=true then te σ2 H2' fun v H3=>∃ ys,H3 D=some (.lst ys)∧ys.length<sizeLine∧∃ m',m'<m∧W (i+1) m' (upd H3 D (.lst (ys++[v])))else ∃ m',m'<m∧W (i+1) m' H2')
section
variable {X:Cx} {elt tg iter:Expr} {scope:Scope} {cl:List (Str × Addr)} {tgs cps:List Str} {caps:List Nat} {wi:TI} {g:TG} {tc:TT} {te:TE} {pos:Pos} {ifs:List Expr}
def b5M(s3:Shared)(H3:Hp)(fp:List Addr)(cl:List (Str × Addr))(x:Str)(v:V):Prop :=
 ∃(u:Value) (c:Addr) (o:Obj),u0 v u∧cl.lookup x=some c∧s3.heap.get? c=some o∧o.data = .cell (some u)∧H3 c=none∧c∉fp
theorem Inv.reset{pins pins':List (Addr × Obj)}{σ0 σ':St}{H3 H':Hp}{s3 s':Shared}{fp:List Addr}{C:Addr}(I:Inv (cxF X scope cl (tgs++cps) s3 H3 C fp pins) pins' σ' H' s')
  (hsc:∀ x∈cps,(relabel scope X.env).names.lookup x=some .cell∨(relabel scope X.env).names.lookup x=some .free) (hl:caps.length=cps.length)
  (hc:∀(j:Nat) (x:Str) (v:V),cps[j]? = some x→(caps.map fun i=>(σ0[i]?).getD none)[j]? = some (some v)→b5M s3 H3 fp cl x v) :
  Inv (cxF X scope cl (tgs++cps) s3 H3 C fp pins) pins' (a64 tgs.length caps σ0) H' s':=by
 obtain⟨m,hn,_⟩:=I.loc
 refine⟨I.ok,I.os,I.bare,I.base,⟨m,hn,fun i x v e1 e2 e3=>?_⟩,I.cell,I.free,I.freeC,I.pin,I.hok,by simp[a64,cxF,hl]⟩
 have e1:(tgs++cps)[i]? = some x:=e1
 unfold a64 at e2
 rw[c8N]at e1 e2
 rw[c8D]at e2
 by_cases hi:i<tgs.length
 ·rw[if_pos hi]at e2
  rw[c70]at e2
  split at e2<;>cases e2
 ·rw[if_neg hi]at e1 e2
  obtain⟨u,c,o,r,h1,h2,h3,h4,h5⟩:=hc (i - tgs.length) x v e1 e2
  obtain⟨sl,k⟩:=I.base.any h2 h4 h5
  refine⟨u,r,.inr ⟨?_,c,h1,_,k,h3⟩⟩
  rcases hsc x (c6S e1)with z|z
  ·exact .inl z
  ·exact .inr z
theorem a8H{pins:List (Addr × Obj)}{σ0:St}{σ:St}{H3:Hp}{s3:Shared}{fp:List Addr}{it D C:Addr}{tn:Nat→Heap→Prop}{J:It}{h₁:Heap}{tk:Nat}{m:Str→Option Value}{R:Result→Shared→Prop}{Qd:Hp→Prop}
  (hc:X.calm=true) (hcell:∀ x∈scope.names,x.2 ≠ .cell) (hkind:scope.kind = .function)
  (hcl:∀ x c,cl.lookup x=some c→X.env.cells.lookup x=some c) (hhas:∀ x,(x,NameKind.free)∈scope.names→∃ c,cl.lookup x=some c)
  (hsc:∀ x∈cps,(relabel scope X.env).names.lookup x=some .cell∨(relabel scope X.env).names.lookup x=some .free) (hl:caps.length=cps.length)
  (hcap:∀(j:Nat) (x:Str) (v:V),cps[j]? = some x→(caps.map fun i=>(σ0[i]?).getD none)[j]? = some (some v)→b5M s3 H3 fp cl x v)
  (hg:∀ cl s3 H3 C fp pins,PG (cxF X scope cl (tgs++cps) s3 H3 C fp pins) tg g) (hq:∀ cl s3 H3 C fp pins,a15 (cxF X scope cl (tgs++cps) s3 H3 C fp pins) ifs tc) (he:∀ cl s3 H3 C fp pins,PE (cxF X scope cl (tgs++cps) s3 H3 C fp pins) elt te)
  (I3:Inv X pins σ H3 s3) (T:a8Q X.prog X.w X.K tg J fp it tn) (st3:tn 0 s3.heap) (f3:∀ b∈fp,a00 X pins H3 b) (hC:C=s3.heap.objs.size) (hn:h₁.Ns C m) (hk:∀ b o,s3.heap.get? b=some o→h₁.get? b=some o)
  (W:Nat→Nat→Hp→Prop) (m0:Nat) (w0:W 0 m0 H3)
  (turn:∀ i m H,W i m H→(J.stop i H∧Qd H)∨(J.go i H∧∀ x H',J.yld i H x H'→g x (a64 tgs.length caps σ0) H' fun σ2 H2=>tc σ2 H2 fun b H2'=>if b=true then te σ2 H2' fun v H3=>∃ ys,H3 D=some (.lst ys)∧ys.length<sizeLine∧∃ m',m'<m∧W (i+1) m' (upd H3 D (.lst (ys++[v])))else ∃ m',m'<m∧W (i+1) m' H2'))
  (hR:∀ s' H' σ',Inv (cxF X scope cl (tgs++cps) s3 H3 C fp pins) [] σ' H' s'→Qd H'→R (.ok .next) s') :
  codeAny (model X.prog X.w) X.A (.compStart (.ListComp elt [⟨tg,iter,ifs,0⟩] scope pos) 0 (.ref it) (.ref D) (compEnvC scope cl C X.env)) R { s3 with heap:=h₁,toks:=tk }:=by
 have lt3:∀ b∈fp,b<s3.heap.objs.size:=fun b hb=>by
  obtain⟨o,e,_⟩:=T.obj 0 _ st3 b hb
  exact c6X e
 have ok':(cxF X scope cl (tgs++cps) s3 H3 C fp pins).Ok:={
  mod:=I3.ok.mod
  kind:=hkind
  glob:=I3.ok.glob
  blt:=I3.ok.blt
  above:=c90 hC.symm
  inj:=fun x y c e e'=>I3.ok.inj x y c (hcl x c e) (hcl y c e')
  has:=fun x h=>by
   rcases h with h|h
   ·exact hhas x (a2n h (.inl rfl) hcell)
   ·exact hhas x (a2n h (.inr rfl) hcell)
  cab:=fun x c h=>by cases h
  hd:=fun _=>I3.ok.hd hc
  frames:=I3.ok.frames
  stk:=.inl rfl
  exf:=fun b hb=>⟨fun z=>by
   have z':b=C:=z
   have h1:=lt3 b hb
   rw[z',hC]at h1
   exact c7Z _ h1,fun x c e=>(f3 b hb).2.2.2.2.1 x c (hcl x c e)⟩
  bs:=fun b o e=>I3.bs b o e
  bsz:=c6V I3.ok.bsz I3.sz
  noex:=fun b o e hb=>by
   obtain⟨_,_,_,q,_⟩:=f3 b hb
   rcases q with q|q
   ·exact I3.ok.noex b o e q
   ·have h1:=c6X e
    exact absurd (c6R (c6R h1 I3.ok.bsz) q) (c7Z _)
  exfs:=fun b hb z=>by
   obtain⟨_,q1,q2,_⟩:=f3 b hb
   rcases c7h.mp (I3.stkSub b z)with y|y
   ·exact q1 y
   ·exact q2 y
  funs:=I3.stack
  frf:=I3.stkFree }
 have J0:Inv (cxF X scope cl (tgs++cps) s3 H3 C fp pins) [] (c8f (tgs++cps).length none) H3 { s3 with heap:=h₁,toks:=tk }:={
  ok:=ok'
  os:=rfl
  bare:=I3.bare
  base:=Un.kept hk
  loc:=⟨m,hn,fun i x v _ e _=>by
   rw[c70]at e
   split at e<;>cases e⟩
  cell:=fun x c e=>by
   obtain⟨v,o,ho,hd⟩:=I3.cell x c (hcl x c e)
   exact⟨v,o,hk c o ho,hd⟩
  free:=I3.hok.fresh (c90 hC.symm)
  freeC:=fun x c e=>I3.freeC x c (hcl x c e)
  pin:=fun p hp=>by
   have hp':p∈X.pn++pins:=by simpa[cxF]using hp
   obtain⟨a1,a2,a3,a4,a5⟩:=I3.pin p hp'
   refine⟨hk _ _ a1,a2,fun z=>?_,fun z=>?_,a5⟩
   ·have z':p.1=C:=z
    have h1:=c6X a1
    rw[z',hC]at h1
    exact c7Z _ h1
   ·rcases c7h.mp (I3.stkSub _ z)with y|y
    ·exact a3 y
    ·exact a4 y
  hok:=I3.hok.kept hk
  len:=by simp[cxF] }
 have stat:∀{H':Hp},(∀ b∈fp,H' b=none)→∀ b∈fp,a00 (cxF X scope cl (tgs++cps) s3 H3 C fp pins) [] H' b:=fun hn b hb=>by
  obtain⟨_,_,_,_,_,q⟩:=f3 b hb
  exact⟨hn b hb,(ok'.exf b hb).1,ok'.exfs b hb,.inl hb,(ok'.exf b hb).2,fun p hp=>q p (by simpa[cxF]using hp)⟩
 have loop:codeAny (model X.prog X.w) X.A (.compLoop (.ListComp elt [⟨tg,iter,ifs,0⟩] scope pos) 0 (.ref it) (.ref D) (compEnvC scope cl C X.env)) R { s3 with heap:=h₁,toks:=tk }:=by
  refine a63 (fun n s'=>∃ i σ' H',Inv (cxF X scope cl (tgs++cps) s3 H3 C fp pins) [] σ' H' s'∧tn i s'.heap∧(∀ b∈fp,H' b=none)∧W i n H') ?_ m0
   ⟨0,_,H3,J0,T.keep _ _ _ st3 fun b hb o e=>hk b o e,fun b hb=>(f3 b hb).1,w0⟩
  rintro n s4 ⟨i,σ4,H4,I4,st4,fr4,w4⟩
  rcases turn i n H4 w4 with⟨stop,qn⟩|⟨go,step⟩
  ·refine thn (T.done (cxF X scope cl (tgs++cps) s3 H3 C fp pins) rfl rfl rfl hc i [] s4 σ4 H4 _ I4 (stat fr4) st4 stop) fun r s5 zz=>?_
   obtain⟨hr,I5⟩:=zz
   subst hr
   exact hR s5 H4 σ4 I5 qn
  ·refine thn (T.item (cxF X scope cl (tgs++cps) s3 H3 C fp pins) rfl rfl rfl hc i [] s4 σ4 H4 _ I4 (stat fr4) st4 go) fun r s5 zz=>?_
   obtain⟨u,hr,h5⟩:=zz
   subst hr
   refine thn h5 fun _ s6 zz=>?_
   obtain⟨x,H6,I6,r6,y6,st6,fr6⟩:=zz
   have I6w:=I6.reset hsc hl hcap
   have I6':=I6w.pinned (stat fr6) (T.obj _ _ st6)
   refine wpAny_mono (hg cl s3 H3 C fp pins _ s6 _ H6 x u _ I6' r6 (step x H6 y6)) (fun _ s7 ⟨σ7,H7,I7,q7⟩=>?_) fun _ _ z=>z.elim
   refine wpAny_mono (hq cl s3 H3 C fp pins _ s7 σ7 H7 _ I7 q7) (fun b s7' ⟨H7',I7',q7'⟩=>?_) fun _ _ z=>z.elim
   cases b with
   | false =>
    obtain⟨m',hm,w8⟩:=q7'
    refine⟨m',hm,i+1,σ7,H7',I7'.unpinned,T.keep _ _ _ st6 fun b hb o e=>(I7'.pin (b,o) (c7o _ (c7o _ (J2 hb e)))).1,fun b hb=>?_,w8⟩
    obtain⟨o,e,d⟩:=T.obj _ _ st6 b hb
    exact(I7'.pin (b,o) (c7o _ (c7o _ (J2 hb e)))).2.1
   | true =>
    refine wpAny_mono (he cl s3 H3 C fp pins _ s7' σ7 H7' _ I7' q7') (fun v s8 ⟨y,H8,I8,r8,q8⟩=>?_) fun _ _ z=>z.elim
    obtain⟨ys,hy,hz,m',hm,w8⟩:=q8
    refine wpAny_mono (a5A (X:=cxF X scope cl (tgs++cps) s3 H3 C fp pins) _ s8 σ7 H8 (.ref D) [y] (.ref D) [v] (fun _ H9=>W (i+1) m' H9) I8 rfl (.cons r8 .nil) ⟨D,ys,y,rfl,rfl,hy,hz,w8⟩) (fun _ s9 ⟨_,H9,I9,_,w9⟩=>?_) fun _ _ z=>z.elim
    refine⟨m',hm,i+1,σ7,H9,I9.unpinned,T.keep _ _ _ st6 fun b hb o e=>(I9.pin (b,o) (c7o _ (c7o _ (J2 hb e)))).1,fun b hb=>?_,w9⟩
    obtain⟨o,e,d⟩:=T.obj _ _ st6 b hb
    exact(I9.pin (b,o) (c7o _ (c7o _ (J2 hb e)))).2.1
 exact codeAny_compStart_list loop (T.self _ 0 _ _ _ (T.keep _ _ _ st3 fun b hb o e=>hk b o e) loop)
theorem a5L(hc:X.calm=true)(hcell:∀ x∈scope.names,x.2 ≠ .cell)(hkind:scope.kind = .function)(hnames:∀ x∈scope.names,x.2 = .local→scope.names.lookup x.1=some .local)
  (hfr:∀ x∈scope.names,x.2 = .free→x.1∈cps) (hN:caps.map (fun i=>X.N[i]?)=cps.map some) (hX:∀ x∈cps,X.env.scope.names.lookup x=some .cell∧scope.names.lookup x=some .free)
  (hsc:∀ x∈cps,(relabel scope X.env).names.lookup x=some .cell∨(relabel scope X.env).names.lookup x=some .free)
  (hi:PI X tg iter wi) (hg:∀ cl s3 H3 C fp pins,PG (cxF X scope cl (tgs++cps) s3 H3 C fp pins) tg g) (hq:∀ cl s3 H3 C fp pins,a15 (cxF X scope cl (tgs++cps) s3 H3 C fp pins) ifs tc) (he:∀ cl s3 H3 C fp pins,PE (cxF X scope cl (tgs++cps) s3 H3 C fp pins) elt te)
  (hs:∀ x,foldedSetIterable iter X.env x=pure x) {use:Option (Value→Sem Unit)} {Qf:Value→Shared→Prop} {pins:List (Addr × Obj)} {s:Shared} {σ:St} {H:Hp} {Q:VK} (I:Inv X pins σ H s) (h:a82 tgs.length caps wi g tc te σ H Q)
  (hU:∀(D C:Addr) (s':Shared) (H4:Hp) (m4:Str→Option Value),s'.heap.Ns C m4→a00 X pins H4 C→(∀ h',Heap.SameBut C s'.heap h'→Inv X pins σ H4 { s' with heap:=h' })→Q (.ref D) H4→compPost (model X.prog X.w) X.A X.xe use Qf (.ref D) C (.ok .next) s') :
  wpAny (model X.prog X.w) X.A (comprehension (.ListComp elt [⟨tg,iter,ifs,0⟩] scope pos) scope X.env (firstIterPos [⟨tg,iter,ifs,0⟩] pos) (newList []) false (eval iter X.env) use) Qf X.xe s:=by
 have hl:caps.length=cps.length:=by
  have:=congrArg c9D hN
  simpa using this
 have hcells:∀ n,(n,NameKind.free)∈scope.names→∃ c,X.env.cells.lookup n=some c:=fun n hn=>I.ok.has n (.inl (hX n (hfr _ hn rfl)).1)
 refine wpAny_comprehension_free (use:=use) rfl hs (a8I hcells) hkind hnames (thn (hi pins s σ H _ I h) fun v s1 h1=>thn h1 fun itv s2 h2=>?_)
 obtain⟨it,fp,tn,J,H',e,I2,T,st2,f2,hW⟩:=h2
 subst e
 refine wpAny_newObj_type (hd:=by size_fits) (wpAny_newFunctionEnv hcell (by intro y hy;simp at hy) (fun h₁ hns₁ hsb₁=>?_) hkind)
 dsimp only at hns₁ hsb₁ ⊢
 have I3:=I2.lnew (ys:=[]) (its:=[]) (t':=s2.toks) .nil (c7L _)
 obtain⟨W,⟨m0,w0⟩,turn⟩:=hW _ I2.fresh
 have st3:tn 0 (s2.heap.push { cls:=.type "list",data:=.seq ([]:List Value).toArray }):=T.keep _ _ _ st2 fun b hb o e=>c6O _ e
 have f3:∀ b∈fp,a00 X pins (upd H' s2.heap.objs.size (.lst [])) b:=fun b hb=>by
  obtain⟨q0,q⟩:=f2 b hb
  obtain⟨o,e,_⟩:=T.obj 0 _ st2 b hb
  exact⟨by rw[j6 (c7v (c6X e))];exact q0,q⟩
 have old:∀ b o,(s2.heap.push { cls:=.type "list",data:=.seq ([]:List Value).toArray }).get? b=some o→h₁.get? b=some o:=fun b o e =>
  hsb₁.extBut b o (c7v (c6X e)) (c6O _ e)
 have hcap:∀(j:Nat) (x:Str) (v:V),cps[j]? = some x→(caps.map fun i=>(σ[i]?).getD none)[j]? = some (some v) →
   b5M { s2 with heap:=s2.heap.push { cls:=.type "list",data:=.seq ([]:List Value).toArray },toks:=s2.toks } (upd H' s2.heap.objs.size (.lst [])) fp (Y5 X.env.cells scope.names []) x v:=fun j x v ex ev=>by
  have hx:=hX x (c6S ex)
  have hj:(caps.map (fun i=>X.N[i]?))[j]? = some (some x):=by rw[hN,c6Y,ex];rfl
  rw[c6Y]at ev hj
  cases hcj:caps[j]? with
  | none=>rw[hcj]at ev;cases ev
  | some i =>
   rw[hcj]at ev hj
   have ev':(σ[i]?).getD none=some v:=by simpa using ev
   have hj':X.N[i]? = some x:=by simpa using hj
   have es:σ[i]? = some (some v):=by
    cases q:σ[i]? with
    | none=>rw[q]at ev';cases ev'
    | some w=>rw[q]at ev';rw[show w=some v by simpa using ev']
   obtain⟨m,hn,hlook⟩:=I3.loc
   obtain⟨u,ru,lk⟩:=hlook i x v hj' es (.inr (.inl hx.1))
   rcases lk with⟨k1,_⟩|⟨_,c,hc1,o,ho,hd⟩
   ·have k1':X.env.scope.names.lookup x=some .local:=k1
    rw[hx.1]at k1';cases k1'
   ·have hmem:(x,NameKind.free)∈scope.names:=by
     have hlk:=hx.2
     have go:∀ l:List (Str × NameKind),l.lookup x=some .free→(x,NameKind.free)∈l:=by
      intro l
      induction l with
      | nil=>intro z;cases z
      | cons p r ih =>
       intro z
       obtain⟨n,k⟩:=p
       rw[c8r]at z
       split at z
       ·rename_i q;have q':x=n:=by simpa using q
        have z':k = .free:=by simpa using z
        rw[q',z'];exact c7D
       ·exact c7j _ (ih z)
     exact go _ hlk
    obtain⟨c',hc'⟩:=a0o (cells:=X.env.cells) scope.names [] (.inl hmem)
    have:=U7 scope.names [] hcells (fun y d z=>by cases z) hc'
    rw[hc1]at this
    cases this
    refine⟨u,c,o,ru,hc',ho,hd,I3.freeC x c hc1,fun hb=>?_⟩
    exact(f3 c hb).2.2.2.2.1 x c hc1 rfl
 refine a8H (s3:={ s2 with heap:=s2.heap.push { cls:=.type "list",data:=.seq ([]:List Value).toArray },toks:=s2.toks }) (Qd:=fun H=>Q (.ref s2.heap.objs.size) H) (tk:=s2.toks+([]:List (Str × Value)).length) (cl:=Y5 X.env.cells scope.names [])
  hc hcell hkind (fun x c z=>U7 scope.names [] hcells (fun y d z=>by cases z) z) (fun x z=>a0o scope.names [] (.inl z)) hsc hl hcap hg hq he I3 T st3 f3 rfl hns₁ old W m0 w0 turn fun s' H4 σ4 I4 q4=>?_
 obtain⟨m4,hn4,_⟩:=I4.loc
 have hCfree:H4 _=none:=I4.free
 have nC:∀ b u,H4 b=some u→b≠(s2.heap.push { cls:=.type "list",data:=.seq ([]:List Value).toArray }).objs.size:=fun b u e z=>by
  rw[z]at e
  have:=e.symm.trans hCfree
  cases this
 have lt:∀ b o,(s2.heap.push { cls:=.type "list",data:=.seq ([]:List Value).toArray }).get? b=some o→b≠(s2.heap.push { cls:=.type "list",data:=.seq ([]:List Value).toArray }).objs.size:=fun b o e=>c7v (c6X e)
 have ub:=I4.base
 have fC:a00 X pins H4 (s2.heap.push { cls:=.type "list",data:=.seq ([]:List Value).toArray }).objs.size:=I3.fpOk (c7b _) hCfree
 refine hU _ _ s' H4 m4 hn4 fC (fun h' hsb=>?_) q4
 have un:Un (frs X.stack) fp (upd H' s2.heap.objs.size (.lst [])) H4 (s2.heap.push { cls:=.type "list",data:=.seq ([]:List Value).toArray }) h':={
  keep:=fun b o e n x y=>(hsb.2 b (lt b o e)).trans (ub.keep b o e n x y)
  slot:=fun b o e n x y=>let ⟨q,z⟩:=ub.slot b o e n x y;⟨q,(hsb.2 b (lt b o e)).trans z⟩
  free:=ub.free
  there:=fun b o e y=>let ⟨q,z⟩:=ub.there b o e y;⟨q,(hsb.2 b (lt b o e)).trans z⟩
  tups:=ub.tups
  frzs:=ub.frzs
  tbls:=ub.tbls }
 refine I3.call' (s':={ s' with heap:=h' }) I4.os un (fun b u e=>?_) I4.bare fun b hb=>?_
 ·refine(I4.hok b u e).stay (fun c v hcv q=>(hsb.2 c ?_).trans q) (fun _ q=>q) fun _ _ q=>q
  rcases hcv with z|z
  ·rw[z];exact nC b u e
  ·exact nC c _ z
 ·obtain⟨q0,q1,q2,q3,q4,q5⟩:=f3 b hb
  exact⟨q3,q1,q4,q5⟩
theorem a8d(hc:X.calm=true)(hcell:∀ x∈scope.names,x.2 ≠ .cell)(hkind:scope.kind = .function)(hnames:∀ x∈scope.names,x.2 = .local→scope.names.lookup x.1=some .local)
  (hfr:∀ x∈scope.names,x.2 = .free→x.1∈cps) (hN:caps.map (fun i=>X.N[i]?)=cps.map some) (hX:∀ x∈cps,X.env.scope.names.lookup x=some .cell∧scope.names.lookup x=some .free)
  (hsc:∀ x∈cps,(relabel scope X.env).names.lookup x=some .cell∨(relabel scope X.env).names.lookup x=some .free)
  (hi:PI X tg iter wi) (hg:∀ cl s3 H3 C fp pins,PG (cxF X scope cl (tgs++cps) s3 H3 C fp pins) tg g) (hq:∀ cl s3 H3 C fp pins,a15 (cxF X scope cl (tgs++cps) s3 H3 C fp pins) ifs tc) (he:∀ cl s3 H3 C fp pins,PE (cxF X scope cl (tgs++cps) s3 H3 C fp pins) elt te)
  (hs:∀ x,foldedSetIterable iter X.env x=pure x:=by intro _;rfl):PE X (.ListComp elt [⟨tg,iter,ifs,0⟩] scope pos) (a82 tgs.length caps wi g tc te):=by
 intro pins s σ H Q I h
 rw[eval_ListComp]
 exact a5L hc hcell hkind hnames hfr hN hX hsc hi hg hq he hs I h fun D C s' H4 m4 hn4 fC hI q4=>⟨m4,hn4,fun h' hsb=>⟨.ref D,H4,hI h' hsb,rfl,q4⟩⟩
def PU(X:Cx)(i:Nat)(x:Str)(pos':Pos)(e:Expr)(te:TE):Prop:=∀(pins:List (Addr × Obj)) (s:Shared) (σ:St) (H:Hp) (Q:VK),Inv X pins σ H s→te σ H Q →
 wpAny (model X.prog X.w) X.A (evalThenUse e X.env (assign (.Name x pos') X.env)) (fun _ s'=>∃ v H',Inv X pins (σ.set i (some v)) H' s'∧Q v H') X.xe s
theorem PU.imp{X:Cx}{i:Nat}{x:Str}{pos':Pos}{e:Expr}{t t':TE}(h:PU X i x pos' e t)(f:∀ σ H Q,t' σ H Q→t σ H Q):PU X i x pos' e t':=fun pins s σ H Q I q=>h pins s σ H Q I (f σ H Q q)
theorem b7a{i:Nat}{x:Str}{pos' pos:Pos}{e:Expr}{te:TE}(h:PU X i x pos' e te)(hs:swapsWith e (some (.Name x pos')) pos.line X.env=pure true):PS X (.Assign [.Name x pos'] e pos) (b9G te (b4S i)):=by
 intro pins s σ H D I q
 rw[exec_Assign_Name_used _ _ _ _ hs]
 refine c6L (wpAny_standAt (c6L (thn (h pins s σ H _ I q) fun _ s1 ⟨v,H1,I1,q1⟩=>c6U ?_)))
 exact⟨_,H1,I1,q1⟩
theorem b3U(hc:X.calm=true)(hcell:∀ x∈scope.names,x.2 ≠ .cell)(hkind:scope.kind = .function)(hnames:∀ x∈scope.names,x.2 = .local→scope.names.lookup x.1=some .local)
  (hfr:∀ x∈scope.names,x.2 = .free→x.1∈cps) (hN:caps.map (fun i=>X.N[i]?)=cps.map some) (hX:∀ x∈cps,X.env.scope.names.lookup x=some .cell∧scope.names.lookup x=some .free)
  (hsc:∀ x∈cps,(relabel scope X.env).names.lookup x=some .cell∨(relabel scope X.env).names.lookup x=some .free)
  (hi:PI X tg iter wi) (hg:∀ cl s3 H3 C fp pins,PG (cxF X scope cl (tgs++cps) s3 H3 C fp pins) tg g) (hq:∀ cl s3 H3 C fp pins,a15 (cxF X scope cl (tgs++cps) s3 H3 C fp pins) ifs tc) (he:∀ cl s3 H3 C fp pins,PE (cxF X scope cl (tgs++cps) s3 H3 C fp pins) elt te)
  {i:Nat} {x:Str} {pos':Pos} (hNd:X.N.Nodup) (hxi:X.N[i]? = some x) (hx:Loc X.env.scope x) (hf:X.fn x=true∨X.env.scope.names.lookup x=some .local)
  (hs:∀ x,foldedSetIterable iter X.env x=pure x:=by intro _;rfl):PU X i x pos' (.ListComp elt [⟨tg,iter,ifs,0⟩] scope pos) (a82 tgs.length caps wi g tc te):=by
 intro pins s σ H Q I h
 refine c6L (thn (a5L (use:=some (assign (.Name x pos') X.env)) (Qf:=fun _ s'=>∃ v H',Inv X pins (σ.set i (some v)) H' s'∧Q v H') hc hcell hkind hnames hfr hN hX hsc hi hg hq he hs I h fun D C s' H4 m4 hn4 fC hI q4=>?_) fun _ s1 z=>c6U z)
 have I4:Inv X pins σ H4 s':=hI s'.heap (Heap.SameBut.refl _ _)
 show wpAny _ _ (assign (.Name x pos') X.env (.ref D)) _ _ s'
 refine wpAny_assign_Name (a5s (v:=.ref D) I4 hNd hxi hx rfl (fun s2 I2 ⟨a,hsb,ha⟩=>?_) hf)
 have hac:C≠a:=by
  rcases ha with ha|ha
  ·rw[ha];exact fC.2.1
  ·exact Ne.symm (fC.2.2.2.2.1 x a ha)
 refine⟨m4,hn4.sameBut hsb hac,fun h' hs'=>⟨.ref D,H4,?_,q4⟩⟩
 exact I2.turned (t':=s2.toks) (fun b o hb e=>hs'.extBut b o hb e) fC.1 fC.2.1 fC.2.2.2.1 fC.2.2.2.2.1 fC.2.2.2.2.2
end
end L2
namespace L2
open PySem
def SI:Bool→Heap→Addr→Addr→Nat→Prop
 | true,h,it,a,i=>h.IsListIter it a i
 | false,h,it,a,i=>h.IsTupleIter it a i
def SS:Bool→Heap→Addr→Array Value→Prop
 | true,h,a,xs=>h.IsList a xs
 | false,h,a,xs=>h.IsTuple a xs
theorem SI.at{k:Bool}{h h':Heap}{it a:Addr}{i:Nat}(x:SI k h it a i)(f:∀ o,h.get? it=some o→h'.get? it=some o):SI k h' it a i:=by
 cases k<;>(obtain⟨o,e,r⟩:=x;exact⟨o,f o e,r⟩)
theorem SS.at{k:Bool}{h h':Heap}{a:Addr}{xs:Array Value}(x:SS k h a xs)(f:∀ o,h.get? a=some o→h'.get? a=some o):SS k h' a xs:=by
 cases k<;>(obtain⟨o,e,r⟩:=x;exact⟨o,f o e,r⟩)
theorem SI.obj{k:Bool}{h:Heap}{it a:Addr}{i:Nat}(x:SI k h it a i):∃ o,h.get? it=some o∧∀ v,o.data ≠ .cell v:=by
 cases k<;>(obtain⟨o,e,c,d⟩:=x;exact⟨o,e,fun v z=>by rw[d]at z;cases z⟩)
theorem SS.obj{k:Bool}{h:Heap}{a:Addr}{xs:Array Value}(x:SS k h a xs):∃ o,h.get? a=some o:=by
 cases k<;>(obtain⟨o,e,_⟩:=x;exact⟨o,e⟩)
section
variable {prog:Program} {w:World} {A:Around} {E:Value→Shared→Prop} {s:Shared}
theorem b1D{p t:Addr}{n:Nat}{xs:Array Value}{v:Value}{Q:Value→Shared→Prop}(hp:s.heap.IsTupleIter p t n)(ht:s.heap.IsTuple t xs)(hv:xs[n]? = some v)
  (q:∀ h',h'.IsTupleIter p t (n+1)→Heap.SameBut p s.heap h'→Q v { s with heap:=h' }):wpAny (model prog w) A (Builtin.SmallTypes.nextOf (.ref p)) Q E s:=by
 obtain⟨ob,e1,e2,e3⟩:=id hp
 obtain⟨ot,f1,_,cap,f2⟩:=ht
 unfold Builtin.SmallTypes.nextOf
 refine c6L (wpAny_callSpecial?_slot (name:=Str.ofString "__next__") hp.typeIs F.slot_tuple_iterator_next (wpAny_call_entry F.slot_tuple_iterator_next hp.typeIs F.entry_tuple_iterator_next ?_ (F.args_tuple_iterator_next_1 _)))
 show wpAny _ _ (field (.ref p) 0 >>= _) _ _ s
 refine c6L (wpAny_field e1 e3 (x:=.ref t) rfl ?_)
 show wpAny _ _ (if (Value.ref t == Value.none)=true then _ else _) _ _ s
 rw[if_neg (fun z:(Value.ref t == Value.none)=true=>nomatch z)]
 show wpAny _ _ (field (.ref p) 1 >>= _) _ _ s
 refine c6L (wpAny_field e1 e3 (x:=.int n 0) rfl ?_)
 show wpAny _ _ (seqItems? (.ref t) >>= _) _ _ s
 refine c6L (wpAny_seqItems f1 f2 ?_)
 simp only[c8a,hv]
 refine c6L (wpAny_setField e1 e3 (by simp) (c6U ⟨v,rfl,c6U (q _ ⟨_,c7E _ e1 (Obj.isFreed_of_fields (Obj.data_mapFields e3 _)),(Obj.cls_mapFields ..).trans e2,?_⟩ (Heap.SameBut.update ..))⟩))
 rw[Obj.data_mapFields e3];simp[rawInt]
theorem b3q{p t:Addr}{n:Nat}{xs:Array Value}{Q:Value→Shared→Prop}(hA:A.handled=none)(hp:s.heap.IsTupleIter p t n)(ht:s.heap.IsTuple t xs)(hv:xs[n]? = none)
  (q:∀ h' e,Heap.ExtBut p s.heap h'→(∃ o,h'.get? e=some o∧o.cls = .type "StopIteration")→E (.ref e) { s with heap:=h' }):wpAny (model prog w) A (Builtin.SmallTypes.nextOf (.ref p)) Q E s:=by
 obtain⟨ob,e1,e2,e3⟩:=id hp
 obtain⟨ot,f1,_,cap,f2⟩:=ht
 unfold Builtin.SmallTypes.nextOf
 refine c6L (wpAny_callSpecial?_slot (name:=Str.ofString "__next__") hp.typeIs F.slot_tuple_iterator_next (wpAny_call_entry F.slot_tuple_iterator_next hp.typeIs F.entry_tuple_iterator_next ?_ (F.args_tuple_iterator_next_1 _)))
 show wpAny _ _ (field (.ref p) 0 >>= _) _ _ s
 refine c6L (wpAny_field e1 e3 (x:=.ref t) rfl ?_)
 show wpAny _ _ (if (Value.ref t == Value.none)=true then _ else _) _ _ s
 rw[if_neg (fun z:(Value.ref t == Value.none)=true=>nomatch z)]
 show wpAny _ _ (field (.ref p) 1 >>= _) _ _ s
 refine c6L (wpAny_field e1 e3 (x:=.int n 0) rfl ?_)
 show wpAny _ _ (seqItems? (.ref t) >>= _) _ _ s
 refine c6L (wpAny_seqItems f1 f2 ?_)
 simp only[c8a,hv]
 refine c6L (wpAny_rule (c6L (wpAny_setField e1 e3 (by simp) ?_)))
 show wpAny _ _ (newExc (.type "StopIteration") [] >>= _) _ _ _
 refine c6L ?_;simp only[newExc,newTuple]
 refine c6L (wpAny_newObj_type ?_ (by size_fits));refine c6L (m:=firstArgMember _ _) (wpAny_of_eq (a:=Value.none) (by first|rfl|(simp only[firstArgMember];rfl)) ?_)
 refine wpAny_newObj_type ?_ (by size_fits);simp only[raiseNew];refine c6L (wpAny_handled ?_)
 first|rw[show A.in1.handled=none from hA]|rw[hA]
 refine c6L (c6U (wpAny_throw (q _ _ (((Heap.SameBut.update ..).extBut.push _).push _) ⟨_,c6W _ rfl,rfl⟩)))
theorem a2B{k:Bool}{p a:Addr}{n:Nat}{xs:Array Value}{v:Value}{Q:Value→Shared→Prop}(hp:SI k s.heap p a n)(ha:SS k s.heap a xs)(hv:xs[n]? = some v)
  (q:∀ h',SI k h' p a (n+1)→Heap.SameBut p s.heap h'→Q v { s with heap:=h' }):wpAny (model prog w) A (Builtin.SmallTypes.nextOf (.ref p)) Q E s:=by
 cases k with
 | true=>exact wpAny_nextOf_list_item hp ha hv q
 | false=>exact b1D hp ha hv q
theorem a88{k:Bool}{p a:Addr}{n:Nat}{xs:Array Value}{Q:Value→Shared→Prop}(hA:A.handled=none)(hp:SI k s.heap p a n)(ha:SS k s.heap a xs)(hv:xs[n]? = none)
  (q:∀ h' e,Heap.ExtBut p s.heap h'→(∃ o,h'.get? e=some o∧o.cls = .type "StopIteration")→E (.ref e) { s with heap:=h' }):wpAny (model prog w) A (Builtin.SmallTypes.nextOf (.ref p)) Q E s:=by
 cases k with
 | true=>exact wpAny_nextOf_list_end hA hp ha hv q
 | false=>exact b3q hA hp ha hv q
theorem SI.but{k:Bool}{h h':Heap}{it a b:Addr}{i:Nat}(x:SI k h it a i)(e:Heap.ExtBut b h h')(n:it≠b):SI k h' it a i:=x.at fun o z=>e it o n z
theorem SS.but{k:Bool}{h h':Heap}{a b:Addr}{xs:Array Value}(x:SS k h a xs)(e:Heap.ExtBut b h h')(n:a≠b):SS k h' a xs:=x.at fun o z=>e a o n z
theorem b5O{z TI TO p1 p2 l1 l2:Addr}{c1 c2:Bool}{n1 n2:Nat}{xs ys:Array Value}{v1 v2 u1 u2:Value}{Q:Option Value→Shared→Prop}(D:ZipApart z TI TO p1 p2 l1 l2)
  (iz:IsZip s.heap z TI TO .none) (iI:IsPair s.heap TI (.ref p1) (.ref p2)) (iO:IsPair s.heap TO u1 u2) (g1:SI c1 s.heap p1 l1 n1) (g2:SI c2 s.heap p2 l2 n2) (m1:SS c1 s.heap l1 xs) (m2:SS c2 s.heap l2 ys) (w1:xs[n1]? = some v1) (w2:ys[n2]? = some v2)
  (q:∀ h',IsZip h' z TI TO (rawInt s.heap.objs.size)→IsPair h' TO v1 v2→SI c1 h' p1 l1 (n1+1)→SI c2 h' p2 l2 (n2+1)→IsPair h' s.heap.objs.size v1 v2→h'.objs.size=s.heap.objs.size+1 →
   (∀ b o,b≠z→b≠TO→b≠p1→b≠p2→s.heap.get? b=some o→h'.get? b=some o)→Q (some (.ref s.heap.objs.size)) { s with heap:=h' }):wpAny (model prog w) A (pyNext (.ref z)) Q E s:=by
 have ty:s.TypeIs (.ref z) "zip" := ⟨_,iz,rfl⟩
 unfold pyNext
 refine c6L (wpAny_attempt (wpAny_callSpecial?_slot (name:=Str.ofString "__next__") ty F.slot_zip_next (wpAny_call_entry F.slot_zip_next ty F.entry_zip_next ?_ (F.args_zip_next_1 _))))
 show wpAny _ _ (field (.ref z) 2 >>= _) _ _ _
 refine c6L (wpAny_field iz rfl (x:=.bool false) rfl ?_)
 show wpAny _ _ (field (.ref z) 3 >>= _) _ _ _
 refine c6L (wpAny_field iz rfl (x:=.ref TI) rfl (c6L (wpAny_seqItems iI rfl ?_)))
 show wpAny _ _ (Builtin.SmallTypes.ownedTupleIsFree (.ref z) >>= _) _ _ _
 refine c6L ?_;unfold Builtin.SmallTypes.ownedTupleIsFree
 refine c6L (wpAny_field iz rfl (x:=.none) rfl (c6U ?_));simp only[if_true]
 refine c6L (wpAny_rule (c6L (wpAny_field iz rfl (x:=.ref TO) rfl (c6L (wpAny_setField_rec iz (by simp) fun ha za sa=>?_)))))
 replace za:IsZip ha z TI TO .ellipsis:=za
 refine c6L ?_;simp only[c97,List.zipIdx_nil,c9u,List.forIn_nil]
 refine c6L (c6L (wpAny_onRaise ?_))
 show wpAny _ _ (Builtin.SmallTypes.nextOf (.ref p1) >>= _) _ _ _
 refine c6L (a2B (g1.but sa.extBut D.i1z) (m1.but sa.extBut D.l1z) w1 fun hb gb sb=>c6U ?_)
 have oB:IsPair hb TO u1 u2:=sb.extBut _ _ D.TOi1 (sa.extBut _ _ D.TOz iO)
 refine c6L (wpAny_seqItems oB rfl (c6L (wpAny_updateSeq_pair oB fun hc oC sc=>?_)))
 replace oC:IsPair hc TO v1 u2:=oC
 refine c6L (wpAny_letGo (c6U (c6L (c6L (wpAny_onRaise ?_)))))
 show wpAny _ _ (Builtin.SmallTypes.nextOf (.ref p2) >>= _) _ _ _
 refine c6L (a2B (((g2.but sa.extBut D.i2z).but sb.extBut D.i12.symm).but sc.extBut D.TOi2.symm) (((m2.but sa.extBut D.l2z).but sb.extBut D.l2i1).but sc.extBut D.l2TO) w2 fun hd gd sd=>c6U ?_)
 have oD:IsPair hd TO v1 u2:=sd.extBut _ _ D.TOi2 oC
 refine c6L (wpAny_seqItems oD rfl (c6L (wpAny_updateSeq_pair oD fun he oE se=>?_)))
 replace oE:IsPair he TO v1 v2:=oE
 refine c6L (wpAny_letGo (c6U (c6U (c6L (wpAny_seqItems oE rfl (c6L (wpAny_newTuple ?_)))))))
 have zs:he.objs.size=s.heap.objs.size:=by rw[se.1,sd.1,sc.1,sb.1,sa.1]
 have zE:IsZip he z TI TO .ellipsis:=se.extBut _ _ D.TOz.symm (sd.extBut _ _ D.i2z.symm (sc.extBut _ _ D.TOz.symm (sb.extBut _ _ D.i1z.symm za)))
 have kE:∀ b o,b≠z→b≠TO→b≠p1→b≠p2→s.heap.get? b=some o→he.get? b=some o:=fun b o b1 b2 b3 b4 e=>se.extBut _ _ b2 (sd.extBut _ _ b4 (sc.extBut _ _ b2 (sb.extBut _ _ b3 (sa.extBut _ _ b1 e))))
 have gE1:SI c1 he p1 l1 (n1+1):=((gb.but sc.extBut D.TOi1.symm).but sd.extBut D.i12).but se.extBut D.TOi1.symm
 have gE2:SI c2 he p2 l2 (n2+1):=gd.but se.extBut D.TOi2.symm
 have ltz:z<he.objs.size:=c6X zE
 show wpAny _ _ (Builtin.SmallTypes.ownedTupleHandOut (.ref z) (.ref he.objs.size) >>= _) _ _ _
 refine c6L ?_;unfold Builtin.SmallTypes.ownedTupleHandOut
 refine c6L (wpAny_setField_rec (c6O _ zE) (by simp) fun hf zf sf=>?_)
 replace zf:IsZip hf z TI TO (rawInt he.objs.size):=zf
 refine wpAny_setField_rec zf (by simp) fun hg zg sg=>?_
 replace zg:IsZip hg z TI TO (rawInt he.objs.size):=zg
 have lift:∀ b o,b≠z→he.get? b=some o→hg.get? b=some o:=fun b o b1 e=>sg.extBut _ _ b1 (sf.extBut _ _ b1 (c6O _ e))
 have tG:IsPair hg he.objs.size v1 v2:=sg.extBut _ _ (c7U ltz) (sf.extBut _ _ (c7U ltz) (c6W _ rfl))
 have zz:hg.objs.size=he.objs.size+1:=by rw[sg.1,sf.1,c7O]
 rw[zs]at zg tG zz
 refine c6U ⟨_,rfl,c6U ?_⟩
 show Q (some (.ref he.objs.size)) _
 rw[zs]
 exact q hg zg (lift _ _ D.TOz oE) (gE1.at fun o e=>lift _ o D.i1z e) (gE2.at fun o e=>lift _ o D.i2z e) tG zz fun b o b1 b2 b3 b4 e=>lift b o b1 (kE b o b1 b2 b3 b4 e)
theorem b9s{z TI TO p1 p2 l1 l2:Addr}{c1 c2:Bool}{n1 n2:Nat}{xs ys:Array Value}{u1 u2:Value}{Q:Option Value→Shared→Prop}(hA:A.handled=none)(D:ZipApart z TI TO p1 p2 l1 l2)
  (iz:IsZip s.heap z TI TO .none) (iI:IsPair s.heap TI (.ref p1) (.ref p2)) (iO:IsPair s.heap TO u1 u2) (g1:SI c1 s.heap p1 l1 n1) (g2:SI c2 s.heap p2 l2 n2) (m1:SS c1 s.heap l1 xs) (m2:SS c2 s.heap l2 ys) (fin:xs[n1]? = none∨ys[n2]? = none)
  (q:∀ h',(∀ b o,b≠z→b≠TO→b≠p1→b≠p2→s.heap.get? b=some o→h'.get? b=some o)→Q none { s with heap:=h' }):wpAny (model prog w) A (pyNext (.ref z)) Q E s:=by
 have ty:s.TypeIs (.ref z) "zip" := ⟨_,iz,rfl⟩
 unfold pyNext
 have out:∀(h':Heap) (e:Addr),(∀ b o,b≠z→b≠TO→b≠p1→b≠p2→s.heap.get? b=some o→h'.get? b=some o)→(∃ o,h'.get? e=some o∧o.cls = .type "StopIteration") →
   wpAny (model prog w) A (do if ← isInstance (.ref e) (.type "StopIteration")then pure none else throw (.ref e):Sem (Option Value)) Q E { s with heap:=h' }:=fun h' e k ⟨o,e1,e2⟩ =>
  c6L (wpAny_isInstance (T := "StopIteration") (b:=true) ⟨o,e1,e2⟩ isSubtype_stop (c6U (q h' k)))
 refine c6L (wpAny_attempt (wpAny_callSpecial?_slot (name:=Str.ofString "__next__") ty F.slot_zip_next (wpAny_call_entry F.slot_zip_next ty F.entry_zip_next ?_ (F.args_zip_next_1 _))))
 show wpAny _ _ (field (.ref z) 2 >>= _) _ _ _
 refine c6L (wpAny_field iz rfl (x:=.bool false) rfl ?_)
 show wpAny _ _ (field (.ref z) 3 >>= _) _ _ _
 refine c6L (wpAny_field iz rfl (x:=.ref TI) rfl (c6L (wpAny_seqItems iI rfl ?_)))
 show wpAny _ _ (Builtin.SmallTypes.ownedTupleIsFree (.ref z) >>= _) _ _ _
 refine c6L ?_;unfold Builtin.SmallTypes.ownedTupleIsFree
 refine c6L (wpAny_field iz rfl (x:=.none) rfl (c6U ?_));simp only[if_true]
 refine c6L (wpAny_rule (c6L (wpAny_field iz rfl (x:=.ref TO) rfl (c6L (wpAny_setField_rec iz (by simp) fun ha za sa=>?_)))))
 replace za:IsZip ha z TI TO .ellipsis:=za
 refine c6L ?_;simp only[c97,List.zipIdx_nil,c9u,List.forIn_nil]
 refine c6L (c6L (wpAny_onRaise ?_))
 show wpAny _ _ (Builtin.SmallTypes.nextOf (.ref p1) >>= _) _ _ _
 cases w1:xs[n1]? with
 | none =>
  refine c6L (a88 hA (g1.but sa.extBut D.i1z) (m1.but sa.extBut D.l1z) w1 fun hb e sb zz=>?_)
  obtain⟨oe,oe1,oe2⟩:=zz
  have zb:IsZip hb z TI TO .ellipsis:=sb _ _ D.i1z.symm za
  have nz:e≠z:=fun y=>by subst y;rw[zb]at oe1;cases oe1;simp at oe2
  refine wpAny_setField_rec zb (by simp) fun hc _ sc=>out hc e (fun b o b1 _ b3 _ y=>sc.extBut _ _ b1 (sb _ _ b3 (sa.extBut _ _ b1 y))) ⟨oe,sc.extBut _ _ nz oe1,oe2⟩
 | some v1 =>
  have w2:ys[n2]? = none:=fin.resolve_left (by rw[w1];exact fun y=>nomatch y)
  refine c6L (a2B (g1.but sa.extBut D.i1z) (m1.but sa.extBut D.l1z) w1 fun hb gb sb=>c6U ?_)
  have oB:IsPair hb TO u1 u2:=sb.extBut _ _ D.TOi1 (sa.extBut _ _ D.TOz iO)
  refine c6L (wpAny_seqItems oB rfl (c6L (wpAny_updateSeq_pair oB fun hc oC sc=>?_)))
  refine c6L (wpAny_letGo (c6U (c6L (c6L (wpAny_onRaise ?_)))))
  show wpAny _ _ (Builtin.SmallTypes.nextOf (.ref p2) >>= _) _ _ _
  refine c6L (a88 hA (((g2.but sa.extBut D.i2z).but sb.extBut D.i12.symm).but sc.extBut D.TOi2.symm) (((m2.but sa.extBut D.l2z).but sb.extBut D.l2i1).but sc.extBut D.l2TO) w2 fun hd e sd zz=>?_)
  obtain⟨oe,oe1,oe2⟩:=zz
  have zd:IsZip hd z TI TO .ellipsis:=sd _ _ D.i2z.symm (sc.extBut _ _ D.TOz.symm (sb.extBut _ _ D.i1z.symm za))
  have nz:e≠z:=fun y=>by subst y;rw[zd]at oe1;cases oe1;simp at oe2
  refine wpAny_setField_rec zd (by simp) fun he _ se=>out he e (fun b o b1 b2 b3 b4 y=>se.extBut _ _ b1 (sd _ _ b4 (sc.extBut _ _ b2 (sb.extBut _ _ b3 (sa.extBut _ _ b1 y))))) ⟨oe,se.extBut _ _ nz oe1,oe2⟩
end
abbrev itO(k:Bool)(a:Addr):Obj:={ cls:=.type (if k then "list_iterator" else "tuple_iterator"),data:=.fields #[.ref a,.int 0 0] }
abbrev zA(k1:Bool)(h:Heap)(l1:Addr):Heap:=h.push (itO k1 l1)
abbrev zB(k1 k2:Bool)(h:Heap)(l1 l2:Addr):Heap:=(zA k1 h l1).push (itO k2 l2)
abbrev zC(k1 k2:Bool)(h:Heap)(l1 l2:Addr):Heap:=(zB k1 k2 h l1 l2).push { cls:=.type "tuple",data:=.seq #[.ref h.objs.size,.ref (zA k1 h l1).objs.size] }
abbrev zD(k1 k2:Bool)(h:Heap)(l1 l2:Addr):Heap:=(zC k1 k2 h l1 l2).push { cls:=.type "tuple",data:=.seq #[.none,.none] }
abbrev zE(k1 k2:Bool)(h:Heap)(l1 l2:Addr):Heap:=(zD k1 k2 h l1 l2).push { cls:=.type "zip",data:=.fields #[.none,.bool false,.bool false,.ref (zB k1 k2 h l1 l2).objs.size,.ref (zC k1 k2 h l1 l2).objs.size] }
set_option maxHeartbeats 2000000 in
theorem b9r(k1 k2:Bool)(l1 l2:Addr)(xs ys:Array Value) :
  Meets (Builtin.«zip.__new__» ⟨[.type "zip",.ref l1,.ref l2],[]⟩) (fun _ R s=>SS k1 s.heap l1 xs∧SS k2 s.heap l2 ys∧R (.ok (.ret (.ref (zD k1 k2 s.heap l1 l2).objs.size))) { s with heap:=zE k1 k2 s.heap l1 l2 }) :=
 .of_wp fun prog w A R s h=>by
  obtain⟨hp,g,d,tk,os⟩:=s
  obtain⟨ha,hb,h⟩:=h
  have hsub:=sub_zip
  cases k1 with
  | true =>
   have a1:Heap.IsList (Shared.heap ⟨hp,g,d,tk,os⟩) l1 xs:=ha
   cases k2 with
   | true =>
    have a2:Heap.IsList (Shared.heap ⟨hp.push { cls:=.type "list_iterator",data:=.fields #[.ref l1,.int 0 0] },g,d,tk,os⟩) l2 ys:=Heap.IsList.push hb _
    wp_walk using wpAny_pyIter_list a1,wpAny_pyIter_list a2
    exact⟨_,rfl,h⟩
   | false =>
    have a2:Heap.IsTuple (Shared.heap ⟨hp.push { cls:=.type "list_iterator",data:=.fields #[.ref l1,.int 0 0] },g,d,tk,os⟩) l2 ys:=Heap.IsTuple.push hb _
    wp_walk using wpAny_pyIter_list a1,wpAny_pyIter_tuple a2
    exact⟨_,rfl,h⟩
  | false =>
   have a1:Heap.IsTuple (Shared.heap ⟨hp,g,d,tk,os⟩) l1 xs:=ha
   cases k2 with
   | true =>
    have a2:Heap.IsList (Shared.heap ⟨hp.push { cls:=.type "tuple_iterator",data:=.fields #[.ref l1,.int 0 0] },g,d,tk,os⟩) l2 ys:=Heap.IsList.push hb _
    wp_walk using wpAny_pyIter_tuple a1,wpAny_pyIter_list a2
    exact⟨_,rfl,h⟩
   | false =>
    have a2:Heap.IsTuple (Shared.heap ⟨hp.push { cls:=.type "tuple_iterator",data:=.fields #[.ref l1,.int 0 0] },g,d,tk,os⟩) l2 ys:=Heap.IsTuple.push hb _
    wp_walk using wpAny_pyIter_tuple a1,wpAny_pyIter_tuple a2
    exact⟨_,rfl,h⟩
section
variable {prog:Program} {w:World} {A:Around} {E:Value→Shared→Prop} {s:Shared}
theorem b72{k1 k2:Bool}{l1 l2:Addr}{xs ys:Array Value}{Q:Value→Shared→Prop}(ha:SS k1 s.heap l1 xs)(hb:SS k2 s.heap l2 ys)
  (q:∀ h',IsZip h' (s.heap.objs.size+4) (s.heap.objs.size+2) (s.heap.objs.size+3) .none→IsPair h' (s.heap.objs.size+2) (.ref s.heap.objs.size) (.ref (s.heap.objs.size+1))→IsPair h' (s.heap.objs.size+3) .none .none →
   SI k1 h' s.heap.objs.size l1 0→SI k2 h' (s.heap.objs.size+1) l2 0→h'.objs.size=s.heap.objs.size+5→(∀ b o,s.heap.get? b=some o→h'.get? b=some o)→Q (.ref (s.heap.objs.size+4)) { s with heap:=h' }) :
  wpAny (model prog w) A (call (.type "zip") [.ref l1,.ref l2]) Q E s:=by
 refine callType_new F.called_zip (by decide) (F.typeCall_zip_2 _ _) (F.newCall_zip_2 _ _) (fun obj=>F.args_object_init_3 obj _ _) F.entry_zip_new (b9r k1 k2 l1 l2 xs ys) ⟨ha,hb,?_⟩
 have s1:(zA k1 s.heap l1).objs.size=s.heap.objs.size+1:=c7O ..
 have s2:(zB k1 k2 s.heap l1 l2).objs.size=s.heap.objs.size+2:=(c7O ..).trans (by rw[s1])
 have s3:(zC k1 k2 s.heap l1 l2).objs.size=s.heap.objs.size+3:=(c7O ..).trans (by rw[s2])
 have s4:(zD k1 k2 s.heap l1 l2).objs.size=s.heap.objs.size+4:=(c7O ..).trans (by rw[s3])
 have s5:(zE k1 k2 s.heap l1 l2).objs.size=s.heap.objs.size+5:=(c7O ..).trans (by rw[s4])
 have o5:(zE k1 k2 s.heap l1 l2).get? (zD k1 k2 s.heap l1 l2).objs.size=some _:=c6W _ rfl
 have up1:∀ b o,(zD k1 k2 s.heap l1 l2).get? b=some o→(zE k1 k2 s.heap l1 l2).get? b=some o:=fun b o e=>c6O _ e
 have o4:(zE k1 k2 s.heap l1 l2).get? (zC k1 k2 s.heap l1 l2).objs.size=some _:=up1 _ _ (c6W _ rfl)
 have up2:∀ b o,(zC k1 k2 s.heap l1 l2).get? b=some o→(zE k1 k2 s.heap l1 l2).get? b=some o:=fun b o e=>up1 b o (c6O _ e)
 have o3:(zE k1 k2 s.heap l1 l2).get? (zB k1 k2 s.heap l1 l2).objs.size=some _:=up2 _ _ (c6W _ rfl)
 have up3:∀ b o,(zB k1 k2 s.heap l1 l2).get? b=some o→(zE k1 k2 s.heap l1 l2).get? b=some o:=fun b o e=>up2 b o (c6O _ e)
 have o2:(zE k1 k2 s.heap l1 l2).get? (zA k1 s.heap l1).objs.size=some (itO k2 l2):=up3 _ _ (c6W _ rfl)
 have up4:∀ b o,(zA k1 s.heap l1).get? b=some o→(zE k1 k2 s.heap l1 l2).get? b=some o:=fun b o e=>up3 b o (c6O _ e)
 have o1:(zE k1 k2 s.heap l1 l2).get? s.heap.objs.size=some (itO k1 l1):=up4 _ _ (c6W _ rfl)
 have mk:∀(k:Bool) (b a:Addr),(zE k1 k2 s.heap l1 l2).get? b=some (itO k a)→SI k (zE k1 k2 s.heap l1 l2) b a 0:=fun k b a e=>by cases k<;>exact⟨_,e,rfl,rfl⟩
 show _∧_
 rw[s2,s3,s4]at o5
 rw[s1,s2]at o3
 rw[s3]at o4
 rw[s1]at o2
 rw[s4]
 exact⟨⟨_,o5,rfl⟩,q _ o5 o3 o4 (mk _ _ _ o1) (mk _ _ _ o2) s5 fun b o e=>up4 b o (c6O _ e)⟩
end
end L2
namespace L2
open PySem PySem.Spec PyProof.Rows
section
variable {X:Cx} {pins:List (Addr × Obj)} {σ:St} {H:Hp} {s:Shared} {h':Heap}
theorem Inv.turnedN{t':Nat}{ch:List Addr}(I:Inv X pins σ H s)(k:∀ b o,b∉ch→s.heap.get? b=some o→h'.get? b=some o)(hf:∀ b∈ch,a00 X pins H b):Inv X pins σ H { s with heap:=h',toks:=t' }:=by
 have nit:∀ b u,H b=some u→b∉ch:=fun b u e z=>by rw[(hf b z).1]at e;cases e
 refine I.step (g':=s.gens) (d':=s.drawn) (ch:=ch) (fun b hb=>?_) (fun b o _ _ hc e _=>k b o hc e) (fun b o _ _ hc e _=>⟨o.slots,k b o hc e⟩) (fun _ _ _ _ n=>n)
  (fun b o hc e=>⟨o,k b o hc e⟩) (fun _ _ e=>e) (fun _ _ _ e=>e) (fun b ps e=>⟨#[],by rw[e];simp⟩) (fun m hm=>?_) (fun b u e=>?_) I.bare
 ·obtain⟨_,q1,_,q3,q4,q5⟩:=hf b hb
  exact⟨q3,q1,q4,q5⟩
 ·obtain⟨o,es,ep,ho,r⟩:=hm
  exact⟨o,es,ep,k _ o (fun z=>(hf _ z).2.1 rfl) ho,r⟩
 ·refine(I.hok b u e).stay (fun c v hc q=>k c v ?_ q) (fun _ q=>q) fun _ _ q=>q
  rcases hc with z|z
  ·rw[z];exact nit b u e
  ·exact nit c _ z
end
def SqK(K:c6M)(k:Bool)(H:Hp)(a:Addr)(xs:List V):Prop:=if k=true then SqL K H a xs else SqT K H a xs
theorem Inv.sqk{X:Cx}{pins:List (Addr × Obj)}{σ:St}{H:Hp}{s:Shared}(I:Inv X pins σ H s){k:Bool}{a:Addr}{xs:List V}(h:SqK X.K k H a xs):∃ its:List Value,p0 xs its∧SS k s.heap a its.toArray:=by
 cases k with
 | true =>
  obtain⟨its,r,p,_⟩:=I.list (show SqL X.K H a xs from h)
  exact⟨its,r,p.isList⟩
 | false =>
  obtain⟨its,r,p,_⟩:=I.tuple (show SqT X.K H a xs from h)
  exact⟨its,r,p⟩
theorem Inv.sqk_inj{X:Cx}{pins:List (Addr × Obj)}{σ:St}{H:Hp}{s:Shared}(I:Inv X pins σ H s){k:Bool}{a:Addr}{xs ys:List V}(h:SqK X.K k H a xs)(h2:SqK X.K k H a ys):xs=ys:=by
 cases k with
 | true=>exact I.list_inj (show SqL X.K H a xs from h) (show SqL X.K H a ys from h2)
 | false=>exact I.tuple_inj (show SqT X.K H a xs from h) (show SqT X.K H a ys from h2)
def Itz(K:c6M)(k1 k2:Bool)(l1 l2:Addr):It :=
 ⟨fun i H=>∃ xs ys x y,SqK K k1 H l1 xs∧SqK K k2 H l2 ys∧xs[i]? = some x∧ys[i]? = some y,
  fun i H v H'=>∃ T x y,H T=none∧v = .ref T∧H'=upd H T (.tup [x,y])∧(∀ xs,SqK K k1 H l1 xs→xs[i]? = some x)∧∀ ys,SqK K k2 H l2 ys→ys[i]? = some y,
  fun i H=>∃ xs ys,SqK K k1 H l1 xs∧SqK K k2 H l2 ys∧(xs.length≤i∨ys.length≤i)⟩
def c3c(k1 k2:Bool)(z TI TO p1 p2 l1 l2:Addr)(i:Nat)(h:Heap):Prop:=IsZip h z TI TO .none∧IsPair h TI (.ref p1) (.ref p2)∧(∃ a b,IsPair h TO a b)∧SI k1 h p1 l1 i∧SI k2 h p2 l2 i
theorem b3p{P:Program}{w:World}{K:c6M}{elts:List Expr}{kx:Nat}{tp:Pos}{k1 k2:Bool}{z TI TO p1 p2 l1 l2:Addr}(D:ZipApart z TI TO p1 p2 l1 l2) :
  a8Q P w K (.Tuple elts kx tp) (Itz K k1 k2 l1 l2) [z,TI,TO,p1,p2] z (c3c k1 k2 z TI TO p1 p2 l1 l2) where
 mem:=by simp
 obj:=fun i h ⟨iz,iI,⟨a,b,iO⟩,g1,g2⟩ c hc=>by
  simp only[c7h,c7p,or_false]at hc
  rcases hc with rfl|rfl|rfl|rfl|rfl
  ·exact⟨_,iz,fun v e=>by cases e⟩
  ·exact⟨_,iI,fun v e=>by cases e⟩
  ·exact⟨_,iO,fun v e=>by cases e⟩
  ·exact g1.obj
  ·exact g2.obj
 keep:=fun i h h' ⟨iz,iI,⟨a,b,iO⟩,g1,g2⟩ k=>⟨k z (by simp) _ iz,k TI (by simp) _ iI,⟨a,b,k TO (by simp) _ iO⟩,g1.at fun o e=>k p1 (by simp) o e,g2.at fun o e=>k p2 (by simp) o e⟩
 item:=by
  intro X hP hw hK hc i pins s σ H E I hf st hg
  subst hP hw hK
  obtain⟨iz,iI,⟨a,b,iO⟩,g1,g2⟩:=st
  obtain⟨xs,ys,x,y,q1,q2,hx,hy⟩:=hg
  obtain⟨is1,r1,m1⟩:=I.sqk q1
  obtain⟨is2,r2,m2⟩:=I.sqk q2
  obtain⟨u1,hu1,ru1⟩:=r1.get hx
  obtain⟨u2,hu2,ru2⟩:=r2.get hy
  refine b5O D iz iI iO g1 g2 m1 m2 (v1:=u1) (v2:=u2) (by simpa using hu1) (by simpa using hu2) fun h' a1 a2 a3 a4 a5 a6 kk=>?_
  refine⟨_,rfl,?_⟩
  refine wpAny_letOwnedTupleGo_zip (s:={ s with heap:=h' }) a1 fun h2 b1 b2=>?_
  have lt:∀{c o},s.heap.get? c=some o→c≠s.heap.objs.size:=fun e=>c7v (c6X e)
  have nz:s.heap.objs.size≠z:=Ne.symm (lt iz)
  have I1:Inv X pins σ (upd H s.heap.objs.size (.tup [x,y])) { s with heap:=s.heap.push { cls:=.type "tuple",data:=.seq #[u1,u2] },toks:=s.toks } :=
   I.laid (o:=.tup [x,y]) (fun b ob q=>c6O _ q) (c7b _) ⟨(show 2≤sizeLine by decide),[u1,u2],.cons ru1 (.cons ru2 .nil),IsTup.new _ _⟩
  have nfp:∀ c∈[z,TI,TO,p1,p2],c≠s.heap.objs.size:=fun c hc=>by
   simp only[c7h,c7p,or_false]at hc
   rcases hc with rfl|rfl|rfl|rfl|rfl
   ·exact lt iz
   ·exact lt iI
   ·exact lt iO
   ·obtain⟨o,e,_⟩:=g1.obj;exact lt e
   ·obtain⟨o,e,_⟩:=g2.obj;exact lt e
  have hf':∀ c∈[z,TI,TO,p1,p2],a00 X pins (upd H s.heap.objs.size (.tup [x,y])) c:=fun c hc=>by
   obtain⟨f0,f1⟩:=hf c hc
   exact⟨by rw[j6 (nfp c hc)];exact f0,f1⟩
  have I2:Inv X pins σ (upd H s.heap.objs.size (.tup [x,y])) { s with heap:=h2,toks:=s.toks }:=by
   refine Inv.turnedN (s:={ s with heap:=s.heap.push { cls:=.type "tuple",data:=.seq #[u1,u2] },toks:=s.toks }) (t':=s.toks) (h':=h2) (ch:=[z,TI,TO,p1,p2]) I1 (fun c o hcn e=>?_) hf'
   simp only[c7h,c7p,or_false,not_or]at hcn
   obtain⟨n1,n2,n3,n4,n5⟩:=hcn
   refine b2.extBut c o n1 ?_
   by_cases hcs:c=s.heap.objs.size
   ·subst hcs
    have e':(s.heap.push { cls:=.type "tuple",data:=.seq #[u1,u2] }).get? s.heap.objs.size=some o:=e
    rw[c6W _ rfl]at e'
    cases e'
    exact a5
   ·have e':(s.heap.push { cls:=.type "tuple",data:=.seq #[u1,u2] }).get? c=some o:=e
    have hlt:c<s.heap.objs.size:=by
     have:=c6X e'
     rw[c7O]at this
     exact Nat.lt_of_le_of_ne (c9U this) hcs
    have hold:s.heap.get? c=some o:=by
     have:∃ o',s.heap.get? c=some o':=by
      cases q:s.heap.get? c with
      | some o'=>exact⟨o',rfl⟩
      | none=>exact absurd e' (by rw[c9V _ _ _ hcs];rw[q];exact fun z=>nomatch z)
     obtain⟨o',ho'⟩:=this
     have:=c6O { cls:=.type "tuple",data:=.seq #[u1,u2] } ho'
     rw[e']at this
     cases this;exact ho'
    exact kk c o n1 n3 n4 n5 hold
  refine⟨.ref s.heap.objs.size,_,I2,rfl,⟨_,x,y,I.hok.fresh (c7b _),rfl,rfl,fun zs hz=>by rw[I.sqk_inj hz q1];exact hx,fun zs hz=>by rw[I.sqk_inj hz q2];exact hy⟩,?_,fun c hc=>(hf' c hc).1⟩
  have lift:∀ c o,c≠z→h'.get? c=some o→h2.get? c=some o:=fun c o n e=>b2.extBut c o n e
  exact⟨b1,lift _ _ D.TIz (kk _ _ D.TIz D.TITO D.TIi1 D.TIi2 iI),⟨_,_,lift _ _ D.TOz a2⟩,a3.at fun o e=>lift _ o D.i1z e,a4.at fun o e=>lift _ o D.i2z e⟩
 done:=by
  intro X hP hw hK hc i pins s σ H E I hf st hg
  subst hP hw hK
  obtain⟨iz,iI,⟨a,b,iO⟩,g1,g2⟩:=st
  obtain⟨xs,ys,q1,q2,hx⟩:=hg
  obtain⟨is1,r1,m1⟩:=I.sqk q1
  obtain⟨is2,r2,m2⟩:=I.sqk q2
  have e1:=r1.length
  have e2:=r2.length
  refine b9s (I.ok.hd hc) D iz iI iO g1 g2 m1 m2 (hx.elim (fun h=>.inl (by simp;omega)) fun h=>.inr (by simp;omega)) fun h' kk=>⟨rfl,?_⟩
  refine I.turnedN (t':=s.toks) (ch:=[z,TI,TO,p1,p2]) (fun c o hcn e=>?_) hf
  simp only[c7h,c7p,or_false,not_or]at hcn
  obtain⟨n1,n2,n3,n4,n5⟩:=hcn
  exact kk c o n1 n3 n4 n5 e
 self:=fun _ _ _ _ _ st h=>wpAny_pyIter_zip st.1 h
def c3N(K:c6M)(ta:TA):TI:=fun σ H R=>ta σ H fun vs H1=>∃ k1 k2 l1 l2,vs=[.ref l1,.ref l2]∧(∃ xs,SqK K k1 H1 l1 xs)∧(∃ ys,SqK K k2 H1 l2 ys)∧R (Itz K k1 k2 l1 l2) H1
theorem b96{X:Cx}{elts:List Expr}{kx:Nat}{tp:Pos}{a b:Expr}{ta:TA}{p pos:Pos}(hg:Gl X "zip")(hm:X.mg "zip" = none)(ha:PA X [a,b] ta)
  (hs:starEach [a,b] X.env=[(false,eval a X.env),(false,eval b X.env)]:=by rfl) (hs2:starEach [b] X.env=[(false,eval b X.env)]:=by rfl):PI X (.Tuple elts kx tp) (.Call (.Name "zip" p) [a,b] [] pos) (c3N X.K ta):=by
 intro pins s σ H R I h
 refine Call_ (Q0 I hg hm PyProof.Rows.boot_zip (PyProof.Rows.callWith_type1 (thn (ha pos pins s σ H _ I h) fun us s1 ⟨vs,H1,I1,r1,q1⟩=>?_) (by rw[hs,hs2]) (by rw[hs2];rfl)))
 obtain⟨k1,k2,l1,l2,e,⟨xs,q2⟩,⟨ys,q3⟩,q⟩:=q1
 subst e
 cases r1 with
 | cons r rr =>
  cases rr with
  | cons r' rr =>
   cases rr
   cases r
   cases r'
   obtain⟨is1,_,m1⟩:=I1.sqk q2
   obtain⟨is2,_,m2⟩:=I1.sqk q3
   have lt1:l1<s1.heap.objs.size:=by obtain⟨o,e⟩:=m1.obj;exact c6X e
   have lt2:l2<s1.heap.objs.size:=by obtain⟨o,e⟩:=m2.obj;exact c6X e
   refine b72 m1 m2 fun h' a1 a2 a3 a4 a5 a6 kk=>?_
   refine wpAny_pyIter_zip (s:={ s1 with heap:=h' }) a1 ?_
   have D:ZipApart (s1.heap.objs.size+4) (s1.heap.objs.size+2) (s1.heap.objs.size+3) s1.heap.objs.size (s1.heap.objs.size+1) l1 l2:=PyProof.Rows.zipApart_new lt1 lt2
   refine⟨s1.heap.objs.size+4,_,_,_,H1,rfl,I1.kept (t':=s1.toks) kk,b3p D,⟨a1,a2,⟨_,_,a3⟩,a4,a5⟩,fun c hc=>?_,q⟩
   have hge:s1.heap.objs.size≤c:=by
    simp only[c7h,c7p,or_false]at hc
    rcases hc with rfl|rfl|rfl|rfl|rfl
    ·exact c8s _ _
    ·exact c8s _ _
    ·exact c8s _ _
    ·exact c7b _
    ·exact c8s _ _
   exact I1.fpOk hge (I1.hok.fresh hge)
end L2
namespace L2
open PySem PySem.Spec PyProof.Rows
section
variable {X:Cx} {pins:List (Addr × Obj)} {σ:St} {H:Hp} {s:Shared} {p:Addr}
theorem Inv.swap{a b:HO}(I:Inv X pins σ H s)(hp:H p=some a)(ha:(∀ x,a ≠ .own x)∧∀ xs,a ≠ .tup xs)(h1:∀ xs,X.H₀ p≠some (.tup xs))(h2:∀ o u,X.H₀ p≠some (.frz o u))(h3:∀ ps,X.H₀ p≠some (.tbl ps))
  (new:E1 X.prog X.w H s.heap p b):Inv X pins σ (upd H p b) s:=by
 have ne:∀{c:Addr},H c=none→c≠p:=fun{c} q z=>by subst z;rw[hp]at q;cases q
 have st:∀{c:Addr} {o:HO},E1 X.prog X.w H s.heap c o→E1 X.prog X.w (upd H p b) s.heap c o:=fun{c o} x =>
  x.stay (fun _ _ _ q=>q) (fun d q=>by
   have:d≠p:=by intro z;subst z;rw[hp]at q;cases q;exact ha.1 _ rfl
   rw[j6 this];exact q) fun d xs q=>by
   have:d≠p:=by intro z;subst z;rw[hp]at q;cases q;exact ha.2 _ rfl
   rw[j6 this];exact q
 refine⟨I.ok,I.os,I.bare,⟨I.base.keep,I.base.slot,fun c o e n x=>?_,I.base.there,fun c xs q=>?_,fun c o u q=>?_,fun c ps q=>?_⟩,I.loc,I.cell,?_,fun x c e=>?_,fun q hq=>?_,fun c o q=>?_,I.len⟩
 ·have:=I.base.free c o e n x
  rw[j6 (ne this)];exact this
 ·have:c≠p:=by intro z;subst z;exact h1 xs q
  rw[j6 this];exact I.base.tups c xs q
 ·have:c≠p:=by intro z;subst z;exact h2 o u q
  rw[j6 this];exact I.base.frzs c o u q
 ·have:c≠p:=by intro z;subst z;exact h3 ps q
  rw[j6 this];exact I.base.tbls c ps q
 ·rw[j6 (ne I.free)];exact I.free
 ·rw[j6 (ne (I.freeC x c e))];exact I.freeC x c e
 ·obtain⟨a1,a2,a3,a4,a5⟩:=I.pin q hq
  exact⟨a1,by rw[j6 (ne a2)];exact a2,a3,a4,a5⟩
 ·by_cases z:c=p
  ·subst z;rw[j7]at q;cases q;exact st new
  ·rw[j6 z]at q;exact st (I.hok c o q)
theorem Inv.freeze{xs:List V}(I:Inv X pins σ H s)(hp:H p=some (.lst xs)):∃ o,Inv X pins σ (upd H p (.frz o (.lst xs))) s:=by
 have k:=I.hok p _ hp
 obtain⟨z,its,n,r,e⟩:=id k
 refine⟨_,I.swap hp ⟨fun _ q=>(nomatch q),fun _ q=>(nomatch q)⟩ (fun ys q=>?_) (fun o u q=>?_) (fun ps q=>?_) ⟨e,k⟩⟩
 ·rw[I.base.tups p ys q]at hp;cases hp
 ·rw[I.base.frzs p o u q]at hp;cases hp
 ·obtain⟨more,q⟩:=I.base.tbls p ps q;rw[q]at hp;cases hp
structure b9n(X:Cx)(p:Addr):Prop where
 t:∀ xs,X.H₀ p≠some (.tup xs)
 f:∀ o u,X.H₀ p≠some (.frz o u)
 b:∀ ps,X.H₀ p≠some (.tbl ps)
theorem Inv.loose{xs:List V}(I:Inv X pins σ H s)(hp:H p=some (.lst xs)):b9n X p :=
 ⟨fun ys q=>(by rw[I.base.tups p ys q]at hp;cases hp),fun o u q=>(by rw[I.base.frzs p o u q]at hp;cases hp),fun ps q=>(by obtain⟨more,q⟩:=I.base.tbls p ps q;rw[q]at hp;cases hp)⟩
def c1M(t:TE):TE:=fun σ H Q=>t σ H fun v H1=>∃ p xs,v = .ref p∧H1 p=some (.lst xs)∧∀ o,Q v (upd H1 p (.frz o (.lst xs)))
theorem a0P{x:Expr}{t:TE}(h:PE X x t):PE X x (c1M t):=fun pins s σ H Q I q =>
 wpAny_mono (h pins s σ H _ I q) (fun u s1 zz=>by
  obtain⟨v,H1,I1,r,p,xs,e,hp,q1⟩:=zz
  obtain⟨o,I2⟩:=I1.freeze hp
  exact⟨v,_,I2,r,q1 o⟩) fun _ _ z=>z
theorem b9Y{i:Nat}{y:Str}{pos':Pos}{x:Expr}{t:TE}(h:PU X i y pos' x t):PU X i y pos' x (c1M t):=fun pins s σ H Q I q =>
 wpAny_mono (h pins s σ H _ I q) (fun u s1 zz=>by
  obtain⟨v,H1,I1,p,xs,e,hp,q1⟩:=zz
  obtain⟨o,I2⟩:=I1.freeze hp
  exact⟨v,_,I2,q1 o⟩) fun _ _ z=>z
def c1L(t:TE):TE:=fun σ H Q=>t σ H fun v H1=>(∃ p xs,v = .ref p∧H1 p=some (.lst xs)∧∀ o,Q v (upd H1 p (.frz o (.lst xs))))∨Q v H1
theorem b7m{x:Expr}{t:TE}(h:PE X x t):PE X x (c1L t):=fun pins s σ H Q I q =>
 wpAny_mono (h pins s σ H _ I q) (fun u s1 zz=>by
  obtain⟨v,H1,I1,r,z⟩:=zz
  rcases z with⟨p,xs,e,hp,q1⟩|q1
  ·obtain⟨o,I2⟩:=I1.freeze hp
   exact⟨v,_,I2,r,q1 o⟩
  ·exact⟨v,H1,I1,r,q1⟩) fun _ _ z=>z
def a1w(p:Addr)(xs:List V):HO:=.ext fun h=>xs.length≤sizeLine∧∃(its:List Value) (n:Nat),p0 xs its∧h.get? p=some { cls:=.type "list",data:=.seq its.toArray n }
theorem Inv.hide{xs:List V}(I:Inv X pins σ H s)(hp:H p=some (.lst xs)):Inv X pins σ (upd H p (a1w p xs)) s:=by
 have k:=I.hok p _ hp
 have l:=I.loose hp
 obtain⟨z,its,n,r,e⟩:=id k
 exact I.swap hp ⟨fun _ q=>(nomatch q),fun _ q=>(nomatch q)⟩ l.t l.f l.b ⟨⟨z,its,n,r,e⟩,⟨_,e⟩,fun h1 h2 ⟨z,its,n,r,e⟩ k=>⟨z,its,n,r,k _ e⟩⟩
theorem Inv.show'{xs:List V}(I:Inv X pins σ H s)(l:b9n X p)(hp:H p=some (a1w p xs)):Inv X pins σ (upd H p (.lst xs)) s:=by
 obtain⟨k,_,_⟩:=I.hok p _ hp
 exact I.swap hp ⟨fun _ q=>(nomatch q),fun _ q=>(nomatch q)⟩ l.t l.f l.b k
def b3u(p:Addr)(t:TE):TE:=fun σ H Q=>∃ xs,H p=some (.lst xs)∧t σ (upd H p (a1w p xs)) fun v H1=>H1 p=some (a1w p xs)∧Q v (upd H1 p (.lst xs))
theorem a6E{x:Expr}{t:TE}(h:PE X x t):PE X x fun σ H Q=>∃ p,b3u p t σ H Q:=fun pins s σ H Q I ⟨p,xs,hp,q⟩ =>
 wpAny_mono (h pins s σ _ _ (I.hide hp) q) (fun u s1 ⟨v,H1,I2,r,hp1,q1⟩=>⟨v,_,I2.show' (I.loose hp) hp1,r,q1⟩) fun _ _ z=>z
def b3s(p:Addr)(t:TT):TT:=fun σ H Q=>∃ xs,H p=some (.lst xs)∧t σ (upd H p (a1w p xs)) fun v H1=>H1 p=some (a1w p xs)∧Q v (upd H1 p (.lst xs))
theorem a1S{ifs:List Expr}{t:TT}(h:a15 X ifs t):a15 X ifs fun σ H Q=>∃ p,b3s p t σ H Q:=fun pins s σ H Q I ⟨p,xs,hp,q⟩ =>
 wpAny_mono (h pins s σ _ _ (I.hide hp) q) (fun u s1 ⟨H1,I2,hp1,q1⟩=>⟨_,I2.show' (I.loose hp) hp1,q1⟩) fun _ _ z=>z
def b3t(p:Addr)(g:TG):TG:=fun v σ H Q=>∃ xs,H p=some (.lst xs)∧g v σ (upd H p (a1w p xs)) fun σ1 H1=>H1 p=some (a1w p xs)∧Q σ1 (upd H1 p (.lst xs))
theorem a6C{tg:Expr}{g:TG}(h:PG X tg g):PG X tg fun v σ H Q=>∃ p,b3t p g v σ H Q:=fun pins s σ H v u Q I r ⟨p,xs,hp,q⟩ =>
 wpAny_mono (h pins s σ _ v u _ (I.hide hp) r q) (fun u s1 ⟨σ1,H1,I2,hp1,q1⟩=>⟨σ1,_,I2.show' (I.loose hp) hp1,q1⟩) fun _ _ z=>z
end
section
variable {X:Cx} {pos:Pos}
end
end L2
namespace L2
open PySem PySem.Spec PyProof.Rows
section
variable {X:Cx} {e:Expr} {te:TE} {st:Expr} {ts:TO} {pos p2:Pos}
end
end L2
namespace L2
open PySem PySem.Spec PyProof.Rows
theorem b1U:typeLookup (.type "list_reverseiterator") "__len__" = pure none:=by rw[typeLookup_type,builtinLookup_eq_fast];kernel_rfl
theorem a9P:typeLookup (.type "list_reverseiterator") "__length_hint__" = pure (some (.builtin "list_reverseiterator.__length_hint__")):=by rw[typeLookup_type,builtinLookup_eq_fast];kernel_rfl
section
variable {prog:Program} {w:World} {A:Around} {E:Value→Shared→Prop} {s:Shared}
theorem b3O{it l:Addr}{i:Int}{Q:Bool→Shared→Prop}(hit:s.heap.IsRevIter it l i)(h:Q false s):wpAny (model prog w) A (Builtin.List.listLengthHint (.ref it)) Q E s:=by
 have hT:=hit.typeIs
 unfold Builtin.List.listLengthHint
 refine c6L (wpAny_specialOf hT b1U ?_)
 show wpAny _ A (specialOf (Value.ref it) (Str.ofString "__length_hint__") >>= _) Q E s
 refine c6L (wpAny_specialOf hT a9P ?_)
 generalize hv:("list_reverseiterator.__length_hint__" : String)=nm
 wp_delta
 rw[show splitId nm=some ("list_reverseiterator","__length_hint__")by subst hv;decide +kernel]
 subst hv
 refine c6L (wpAny_isInstance (T := "list_reverseiterator") (b:=true) hT (by rw[isSubtype_type];kernel_rfl) ?_)
 refine wpAny_ite_split (fun z=>absurd z (by decide)) (fun _=>?_)
 refine wpAny_ite_split (fun _=>?_) (fun z=>absurd (by decide +kernel) z)
 refine wpAny_ite_split (fun z=>absurd z (by decide)) (fun _=>?_)
 exact c6U h
abbrev a2t(items:Array Value):Nat→Value→Prop:=fun j x=>items[items.size - 1 - j]? = some x
abbrev a8T(prog:Program)(w:World)(A:Around)(R:Result→Shared→Prop):Fin→Shared→Prop:=fun z s'=>match z with|.done f=>R (.ok f) s'|.again c'=>c'.quiet=true∧codeAny (model prog w) A c' R s'
theorem a9v{R:Result→Shared→Prop}{it l S:Addr}{items:Array Value}{c₀:Nat}(hh:A.handled=none)(hit:s.heap.IsRevIter it l ((items.size:Int) - 1))(hl:s.heap.IsList l items)(hne:l≠it)(hi:S≠it)(hj:S≠l)(hz:items.size≤sizeLine)
  (hS:s.heap.get? S=some { cls:=.type "list",data:=.seq #[] c₀ })
  (fin:∀ h' tk acc c1,(∀ b o,b≠S→b≠it→s.heap.get? b=some o→h'.get? b=some o)→h'.get? S=some { cls:=.type "list",dict:=none,data:=.seq acc c1,slots:=#[] }→ItemsOf (a2t items) acc items.size→R (.ok (.ret .none)) { s with heap:=h',toks:=tk }) :
  wpAny (model prog w) A.in1 (Builtin.List.listExtendWith (.ref S) (.ref it) .none) (a8T prog w A R) (fun e s'=>R (.error e) s') s:=by
 have V:=(Walks.listRev (prog:=prog) (w:=w) (A:=A.in1) hh it l hne items).toS
 have nf:S∉[it,l]:=fun q=>by
  rcases c7h.mp q with q|q
  ·exact hi q
  ·exact hj (c7a.mp q)
 unfold Builtin.List.listExtendWith
 refine c6L (wpAny_typeOf hit.typeIs ?_)
 have n1:Builtin.List.listSameRef (.ref S) (.ref it)=false:=by simp[Builtin.List.listSameRef,hi]
 have n2:(Value.type "list_reverseiterator" == Value.type "list")=false:=by decide
 have n3:(Value.type "list_reverseiterator" == Value.type "tuple")=false:=by decide
 simp only[n1,n2,n3,Bool.or_false,c7R,if_false]
 refine c6L (wpAny_pyIter_revIter hit (c6L (wpAny_holding (b3O hit ?_))))
 refine wpAny_ite_split (fun z=>absurd z (by decide +kernel)) (fun _=>?_)
 refine c6U ⟨plainId_quiet F.plain_extend_loop _,?_⟩
 have h0:((items.size:Int) - 1 - ((0:Nat):Int))=(items.size:Int) - 1:=by omega
 refine codeAny_extend_loopS V hz S nf .none items.size 0 s #[] c₀ rfl (c7L _) ⟨c7L _,by rw[h0];exact hit,hl⟩ hS (ItemsOf.nil _) fun s2 acc c1 mv g1 g2=>?_
 rw[Moved.eq_with mv]
 exact fin s2.heap s2.toks acc c1 (fun b o q1 q2 q3=>mv.heap b o (fun q=>(c7h.mp q).elim q1 fun q'=>q2 (c7a.mp q')) q3) g1 g2
theorem b3N{R:Result→Shared→Prop}{it l S:Addr}{items:Array Value}(hh:A.handled=none)(hit:s.heap.IsRevIter it l ((items.size:Int) - 1))(hl:s.heap.IsList l items)(hne:l≠it)(hi:S≠it)(hj:S≠l)(hz:items.size≤sizeLine)
  (hS:s.heap.get? S=some { cls:=.type "list",data:=.seq #[] })
  (fin:∀ h' tk acc c1,(∀ b o,b≠S→b≠it→s.heap.get? b=some o→h'.get? b=some o)→h'.get? S=some { cls:=.type "list",dict:=none,data:=.seq acc c1,slots:=#[] }→ItemsOf (a2t items) acc items.size→R (.ok (.ret .none)) { s with heap:=h',toks:=tk }) :
  wpAny (model prog w) A.in1 (Builtin.«list.__init__» ⟨[.ref S,.ref it],[]⟩) (a8T prog w A R) (fun e s'=>R (.error e) s') s:=by
 show wpAny _ A.in1 (Builtin.List.listItems (.ref S) >>= fun was=>Builtin.List.listUpdate (.ref S) (fun _=>#[]) >>= fun _=>letGo was.toList.reverse >>= fun _=>Builtin.List.listExtendWith (.ref S) (.ref it) .none) (a8T prog w A R) (fun e s'=>R (.error e) s') s
 unfold Builtin.List.listItems
 refine c6L (c6L (wpAny_seqItems hS rfl (c6U ?_)))
 show wpAny _ A.in1 (updateSeq S (fun _=>#[]) >>= fun _=>letGo (#[]:Array Value).toList.reverse >>= fun _=>Builtin.List.listExtendWith (.ref S) (.ref it) .none) (a8T prog w A R) (fun e s'=>R (.error e) s') s
 refine c6L (wpAny_updateSeq hS rfl (c6L (wpAny_letGo ?_)))
 have g:=c7E (Obj.mapSeq fun _=>(#[]:Array Value)) hS rfl
 have oth:∀ b o,b≠S→s.heap.get? b=some o→(s.heap.update S (Obj.mapSeq fun _=>(#[]:Array Value))).get? b=some o:=fun b o q1 q2=>(c7r _ _ (Ne.symm q1)).trans q2
 refine a9v hh (hit.at fun o e=>oth it o (Ne.symm hi) e) (hl.at fun o e=>oth l o (Ne.symm hj) e) hne hi hj hz g fun h' tk acc c1 q1 q2 q3=>?_
 exact fin h' tk acc c1 (fun b o b1 b2 e=>q1 b o b1 b2 (oth b o b1 e)) q2 q3
theorem a4N{it l:Addr}{items:Array Value}{Q:Value→Shared→Prop}(hh:A.handled=none)(hit:s.heap.IsRevIter it l ((items.size:Int) - 1))(hl:s.heap.IsList l items)(hne:l≠it)(hz:items.size≤sizeLine)
  (fin:∀ h' tk acc c1,(∀ b o,b≠it→s.heap.get? b=some o→h'.get? b=some o)→h'.get? s.heap.objs.size=some { cls:=.type "list",dict:=none,data:=.seq acc c1,slots:=#[] }→ItemsOf (a2t items) acc items.size→Q (.ref s.heap.objs.size) { s with heap:=h',toks:=tk }) :
  wpAny (model prog w) A (call (.type "list") [.ref it]) Q E s:=by
 obtain⟨oi,hoi,_⟩:=id hit
 obtain⟨ol,hol,_⟩:=id hl
 have i1:s.heap.objs.size≠it:=c7U (c6X hoi)
 have i2:s.heap.objs.size≠l:=c7U (c6X hol)
 let h1:=s.heap.push { cls:=.type "list",data:=.seq #[] }
 have up:∀ b o,s.heap.get? b=some o→h1.get? b=some o:=fun b o e=>c6O _ e
 have gS:h1.get? s.heap.objs.size=some { cls:=.type "list",data:=.seq #[] }:=c6W _ rfl
 refine callType_codes (Q₁:=fun x s1=>x = .ref s.heap.objs.size∧s1 = { s with heap:=h1 }) F.called_list (F.typeCall_list_1 _) F.entry_list_init (code_list_new _ ⟨rfl,rfl⟩) ?_
 rintro x s1 ⟨rfl,rfl⟩
 refine⟨⟨_,gS,rfl⟩,F.args_list_init_2 _ _,b3N (A:=A.in1) hh (hit.at fun o e=>up it o e) (hl.at fun o e=>up l o e) hne i1 i2 hz gS fun h' tk acc c1 q1 q2 q3=>?_⟩
 exact⟨rfl,fin h' tk acc c1 (fun b o b1 e=>q1 b o (c7v (c6X e)) b1 (up b o e)) q2 q3⟩
end
section
variable {X:Cx}
def a37(H:Hp)(a:Addr):Hp:=fun b=>if b=a then none else H b
theorem a36{H:Hp}{a b:Addr}(h:b≠a):a37 H a b=H b:=if_neg h
theorem a35{H:Hp}{a:Addr}:a37 H a a=none:=if_pos rfl
theorem b1M{items:Array Value}{acc:Array Value}(h:ItemsOf (a2t items) acc items.size):acc.toList=items.toList.reverse:=by
 obtain⟨h1,h2⟩:=h
 apply c8I
 ·rw[c7B,Array.length_toList,Array.length_toList,h1]
 ·intro j g1 g2
  rw[Array.length_toList]at g1
  have e:=h2 j acc[j] (Array.getElem?_eq_getElem g1)
  have e2:items.size - 1 - j<items.size:=by omega
  have e3:items[items.size - 1 - j]? = some (items[items.size - 1 - j]'e2):=Array.getElem?_eq_getElem e2
  have e4:items[items.size - 1 - j]'e2=acc[j]:=Option.some.inj (e3.symm.trans e)
  rw[List.getElem_reverse,Array.getElem_toList,Array.getElem_toList,← e4]
  congr 1
end
theorem p0.take':∀{xs:List V} {us:List Value} (k:Nat),p0 xs us→p0 (xs.take k) (us.take k)
 | _,_,0,_=>.nil
 | _,_,_+1,.nil=>.nil
 | _,_,k+1,.cons r t=>.cons r (p0.take' k t)
theorem p0.drop':∀{xs:List V} {us:List Value} (k:Nat),p0 xs us→p0 (xs.drop k) (us.drop k)
 | _,_,0,h=>h
 | _,_,_+1,.nil=>.nil
 | _,_,k+1,.cons _ t=>p0.drop' k t
section
variable {X:Cx}
def b0U:V→List V→Hp→VK→Prop:=fun x vs H Q=>∃ l xs y,∃ k:Nat,x = .ref l∧vs=[.int (k:Int),y]∧H l=some (.lst xs)∧k≤xs.length∧xs.length<sizeLine∧Q .non (upd H l (.lst (xs.take k++y :: xs.drop k)))
theorem b1S:MtM X "list.insert" b0U:=by
 intro pins s σ H x vs v us Q I rx rv h
 obtain⟨l,xs,y,k,rfl,rfl,hH,hk,hz,q⟩:=h
 cases rx
 ·obtain⟨u1,u,rfl,⟨t,rfl⟩,ru⟩:=b3n rv
  obtain⟨z,its,n,r,hl,e⟩:=I.lstM hH
  have hlen:=r.length
  have hb:(-(2 ^ 63:Int)≤(k:Int))∧(k:Int)<2 ^ 63:=by
   have h1:k<sizeLine:=c7c hk hz
   have h2:(sizeLine:Int)≤2 ^ 62:=by decide +kernel
   omega
  have hf:Builtin.List.listFitsIndex (k:Int)=true:=by
   unfold Builtin.List.listFitsIndex
   rw[decide_eq_true hb.1,decide_eq_true hb.2];rfl
  generalize hx:(k:Int)=x at *
  refine call_meets F.slot_list_insert ⟨_,e,rfl⟩ F.entry_list_insert (F.args_list_insert_3 _ _ _) (AutoSeq1.list_insert_list_int_val_1 l its.toArray n x t u (by rw[hf];exact c7k) (by rw[c69];omega)) ⟨e,?_⟩
  refine⟨.non,_,I.lset (its':=its.take k++u :: its.drop k) hH e ?_ ((r.take' k).append (.cons ru (r.drop' k))) ?_,rfl,q⟩
  ·have ek:(if x<0 then(x+(its.toArray.size:Int)).toNat else min x.toNat its.toArray.size)=k:=by
    rw[if_neg (by omega),c69];omega
   show(its.toArray.extract 0 (if x<0 then(x+(its.toArray.size:Int)).toNat else min x.toNat its.toArray.size)).push u++its.toArray.extract (if x<0 then(x+(its.toArray.size:Int)).toNat else min x.toNat its.toArray.size)=_
   rw[ek]
   apply Array.toList_inj.mp
   simp
   exact c7W (by rw[c8e];exact c7b _)
  ·rw[c7l,c7P,c7A,c8e];omega
end
section
variable {prog:Program} {w:World} {A:Around} {E:Value→Shared→Prop} {s:Shared}
end
section
variable {prog:Program} {w:World} {A:Around} {E:Value→Shared→Prop} {s:Shared}
end
section
variable {X:Cx}
end
end L2
namespace L2
open PySem PySem.Spec PyProof.Rows
theorem b1F:typeLookup (.type "reversed") "__len__" = pure none:=by rw[typeLookup_type,builtinLookup_eq_fast];kernel_rfl
theorem a80:typeLookup (.type "reversed") "__length_hint__" = pure (some (.builtin "reversed.__length_hint__")):=by rw[typeLookup_type,builtinLookup_eq_fast];kernel_rfl
theorem b1E:typeLookup (.type "tuple") "__reversed__" = pure none:=by rw[typeLookup_type,builtinLookup_eq_fast];kernel_rfl
theorem a9B:Manifest.owners.lookup (String.ofList ['d','e','s','r','e','v','e','r'].reverse)=some Manifest.sig_reversed:=by kernel_rfl
theorem J7:Slot "reversed" "__next__" "reversed.__next__" := .of (owner := "reversed") (n := "__next__")
 (by rw[typeLookup_type,builtinLookup_eq_fast];kernel_rfl) (by decide +kernel) (by decide +kernel) (by decide +kernel)
 (by first|exact .inl (by decide +kernel)|exact .inr (by decide +kernel)) (by rw[isSubtype_type];kernel_rfl)
theorem a2p:entryFor table "reversed.__next__" = some Builtin.«reversed.__next__»:=entryFor_of_tree (by kernel_rfl)
theorem a2s(a:Value):argsOk "reversed.__next__" ⟨[a],[]⟩:=by
 unfold argsOk
 rw[signature?_of (id := "reversed.__next__") (n:=['_','_','t','x','e','n','_','_']) (o:=['d','e','s','r','e','v','e','r']) (by kernel_rfl) a9B]
 kernel_rfl
theorem a2k:Slot "reversed" "__iter__" "reversed.__iter__" := .of (owner := "reversed") (n := "__iter__")
 (by rw[typeLookup_type,builtinLookup_eq_fast];kernel_rfl) (by decide +kernel) (by decide +kernel) (by decide +kernel)
 (by first|exact .inl (by decide +kernel)|exact .inr (by decide +kernel)) (by rw[isSubtype_type];kernel_rfl)
theorem a8M(a:Value):argsOk "reversed.__iter__" ⟨[a],[]⟩:=by
 unfold argsOk
 rw[signature?_of (id := "reversed.__iter__") (n:=['_','_','r','e','t','i','_','_']) (o:=['d','e','s','r','e','v','e','r']) (by kernel_rfl) a9B]
 kernel_rfl
theorem a8B:entryFor table "reversed.__iter__" = some Builtin.«dict_keyiterator.__iter__»:=entryFor_alias (id' := "dict_keyiterator.__iter__")
 (by kernel_rfl) (by first|rfl|decide +kernel|(unfold String.splitOn;simp +decide [String.splitOnAux])) (by decide +kernel) (by kernel_rfl)
theorem a2l:Slot "reversed" "__length_hint__" "reversed.__length_hint__" := .of (owner := "reversed") (n := "__length_hint__")
 (by rw[typeLookup_type,builtinLookup_eq_fast];kernel_rfl) (by decide +kernel) (by decide +kernel) (by decide +kernel)
 (by first|exact .inl (by decide +kernel)|exact .inr (by decide +kernel)) (by rw[isSubtype_type];kernel_rfl)
theorem a8C:entryFor table "reversed.__length_hint__" = some Builtin.«reversed.__length_hint__»:=entryFor_of_tree (by kernel_rfl)
theorem a8N(a:Value):argsOk "reversed.__length_hint__" ⟨[a],[]⟩:=by
 unfold argsOk
 rw[signature?_of (id := "reversed.__length_hint__") (n:=['_','_','t','n','i','h','_','h','t','g','n','e','l','_','_']) (o:=['d','e','s','r','e','v','e','r']) (by kernel_rfl) a9B]
 kernel_rfl
theorem a7W:Slot "reversed" "__init__" "object.__init__" := .of (owner := "object") (n := "__init__")
 (by rw[typeLookup_type,builtinLookup_eq_fast];kernel_rfl) (by decide +kernel) (by decide +kernel) (by decide +kernel)
 (by first|exact .inl (by decide +kernel)|exact .inr (by decide +kernel)) (by rw[isSubtype_type];kernel_rfl)
theorem a9W:TypeCalled "reversed" "reversed.__new__" "object.__init__" :=
 ⟨by decide +kernel,by decide +kernel,⟨_,_,F.mro_reversed⟩,F.made_reversed,by decide +kernel,F.sub_reversed_self,a7W⟩
def a5U(l:Addr)(i:Int):Obj:={ cls:=.type "reversed",data:=.fields #[.ref l,rawInt i] }
def O4(h:Heap)(a l:Addr)(i:Int):Prop:=∃ o,h.get? a=some o∧o.cls = .type "reversed" ∧ o.data = .fields #[.ref l,rawInt i]
theorem O4.typeIs{s:Shared}{a l:Addr}{i:Int}(x:O4 s.heap a l i):s.TypeIs (.ref a) "reversed" := let ⟨o,ho,hc,_⟩:=x;⟨o,ho,hc⟩
theorem O4.at{h h':Heap}{a l:Addr}{i:Int}(x:O4 h a l i)(e:∀ o,h.get? a=some o→h'.get? a=some o):O4 h' a l i:=let ⟨o,ho,r⟩:=x;⟨o,e _ ho,r⟩
theorem b1T(l:Addr)(items:Array Value)(hz:(items.size:Int)<2 ^ 63):Meets (Builtin.«reversed.__new__» ⟨[.type "reversed",.ref l],[]⟩) (fun _ R s=>IsTup s.heap l items∧∀ t,R (.ok (.ret (.ref s.heap.objs.size))) { s with heap:=s.heap.push (a5U l ((items.size:Int) - 1)),toks:=t }) :=
 .of_wp fun prog w A R s h=>by
  obtain⟨ht,h⟩:=h
  unfold Builtin.«reversed.__new__»
  refine c6L (wpAny_of_eq (newClass_reversed _) ?_)
  try dsimp only
  refine c6L (wpAny_of_eq (a:=()) (by first|rfl|kernel_rfl) ?_)
  refine c6L (wpAny_of_eq (a:=()) (by first|rfl|kernel_rfl) ?_)
  try dsimp only
  refine c6L (wpAny_specialOf ht.typeIs b1E ?_)
  try dsimp only
  refine c6L ?_
  wp_delta
  refine c6L (wpAny_isInstance (T := "tuple") (b:=false) ht.typeIs (by rw[isSubtype_type];kernel_rfl) ?_)
  try dsimp only
  rw[if_neg (by decide)]
  refine c6L (wpAny_specialOf ht.typeIs slot_tuple_getitem.lookup ?_)
  try dsimp only
  rw[if_pos (by decide +kernel)]
  refine c6U ?_
  rw[if_neg (by decide)]
  refine c6L (len_tuple ht hz ?_)
  refine c6L (wpAny_of_eq (a:=some (items.size:Int)) rfl ?_)
  try dsimp only
  show wpAny _ _ (newObj (.type "reversed") (.fields #[Value.ref l,rawInt ((items.size:Int) - 1)]) >>= _) _ _ _
  refine c6L (wpAny_newObj_type ?_)
  exact c6U ⟨_,rfl,h _⟩
section
variable {prog:Program} {w:World} {A:Around} {E:Value→Shared→Prop} {s:Shared}
theorem b5t{l:Addr}{items:Array Value}{Q:Value→Shared→Prop}(ht:IsTup s.heap l items)(hz:(items.size:Int)<2 ^ 63)
  (h:∀ t,Q (.ref s.heap.objs.size) { s with heap:=s.heap.push (a5U l ((items.size:Int) - 1)),toks:=t }):wpAny (model prog w) A (call (.type "reversed") [.ref l]) Q E s:=by
 refine callType_new a9W (by decide) (F.typeCall_reversed_1 _) (F.newCall_reversed_1 _) (fun obj=>F.args_object_init_2 obj _) F.entry_reversed_new (b1T l items hz) ⟨ht,fun t=>?_⟩
 exact⟨⟨_,c6W _ rfl,rfl⟩,h t⟩
theorem b4t{it l:Addr}{i:Nat}{items:Array Value}{x:Value}{Q:Option Value→Shared→Prop}(hit:O4 s.heap it l (i:Int))(hl:IsTup s.heap l items)(hz:(items.size:Int)<2 ^ 63)(hx:items[i]? = some x)
  (hQ:∀ h' t,O4 h' it l ((i:Int) - 1)→Heap.SameBut it s.heap h'→Q (some x) { s with heap:=h',toks:=t }):wpAny (model prog w) A (pyNext (.ref it)) Q E s:=by
 obtain⟨o,ho,hc,hd⟩:=id hit
 have hi:i<items.size:=(Array.getElem?_eq_some_iff.mp hx).1
 unfold pyNext
 refine c6L (wpAny_attempt (wpAny_callSpecial?_slot (name:=Str.ofString "__next__") hit.typeIs J7
  (wpAny_call_entry J7 hit.typeIs a2p ?_ (a2s _))))
 unfold Builtin.«reversed.__next__»
 refine c6L (wpAny_of_eq (a:=(Value.ref it,[])) rfl ?_)
 try dsimp only
 refine c6L (wpAny_field ho hd (x:=.ref l) rfl ?_)
 refine c6L (wpAny_field ho hd (x:=rawInt (i:Int)) rfl ?_)
 show wpAny _ _ (if (i:Int)<0 then _ else _) _ _ s
 rw[if_neg (by omega)]
 refine c6L (wpAny_specialOf hl.typeIs slot_tuple_getitem.lookup ?_)
 try dsimp only
 rw[if_neg (by decide)]
 refine c6L (wpAny_mkInt ?_)
 refine c6L (wpAny_attempt (getItem_tuple (j:=i) (x:=x) hl (by omega) (by omega) ?_ hx ?_))
 ·unfold seqIndex?
  rw[if_neg (show ¬ (i:Int)<0 by omega),if_pos (by rw[c8H,decide_eq_true_eq,decide_eq_true_eq];omega)]
  rfl
 ·try dsimp only
  refine c6L (wpAny_field ho hd (x:=rawInt (i:Int)) rfl ?_)
  try dsimp only
  refine c6L (wpAny_setField ho hd (by simp) ?_)
  refine c6U ⟨x,rfl,c6U (hQ _ _ ?_ (Heap.SameBut.update ..))⟩
  exact⟨_,c7E _ ho (Obj.isFreed_of_fields (Obj.data_mapFields hd _)),(Obj.cls_mapFields ..).trans hc,by
   rw[Obj.data_mapFields hd];simp⟩
theorem b3y{it l:Addr}{Q:Option Value→Shared→Prop}(hh:A.handled=none)(hit:O4 s.heap it l (-1))
  (hQ:∀ h',Heap.ExtBut it s.heap h'→Q none { s with heap:=h' }):wpAny (model prog w) A (pyNext (.ref it)) Q E s:=by
 obtain⟨o,ho,hc,hd⟩:=id hit
 unfold pyNext
 refine c6L (wpAny_attempt (wpAny_callSpecial?_slot (name:=Str.ofString "__next__") hit.typeIs J7
  (wpAny_call_entry J7 hit.typeIs a2p ?_ (a2s _))))
 unfold Builtin.«reversed.__next__»
 refine c6L (wpAny_of_eq (a:=(Value.ref it,[])) rfl ?_)
 try dsimp only
 refine c6L (wpAny_field ho hd (x:=.ref l) rfl ?_)
 refine c6L (wpAny_field ho hd (x:=rawInt (-1)) rfl ?_)
 show wpAny _ _ (if (-1:Int)<0 then _ else _) _ _ s
 rw[if_pos (by decide)]
 refine c6L (wpAny_rule ?_)
 refine c6L ?_
 wp_delta
 refine c6L (wpAny_setField ho hd (by simp) ?_)
 have g1:=c7E (Obj.mapFields (·.setIfInBounds 1 (rawInt (-1)))) ho (Obj.isFreed_of_fields (Obj.data_mapFields hd _))
 have d1:(Obj.mapFields (·.setIfInBounds 1 (rawInt (-1))) o).data = .fields (#[Value.ref l,rawInt (-1)].setIfInBounds 1 (rawInt (-1))):=Obj.data_mapFields hd _
 refine wpAny_setField g1 d1 (by simp) ?_
 refine c6L ?_
 show wpAny _ _ (newExc (.type "StopIteration") [] >>= _) _ _ _
 refine c6L ?_
 simp only[newExc,newTuple]
 refine c6L (wpAny_newObj_type ?_ (by size_fits))
 refine c6L (m:=firstArgMember _ _) (wpAny_of_eq (a:=Value.none) (by first|rfl|(simp only[firstArgMember];rfl)) ?_)
 refine wpAny_newObj_type ?_ (by size_fits)
 simp only[raiseNew]
 refine c6L (wpAny_handled ?_)
 rw[show A.in1.handled=none from hh]
 refine c6L (c6U (wpAny_throw ?_))
 refine c6L (wpAny_isInstance (T := "StopIteration") (b:=true) ⟨_,c6W _ rfl,rfl⟩ isSubtype_stop ?_)
 refine c6U (hQ _ ((Heap.ExtBut.push (Heap.ExtBut.push ?_ _) _)))
 exact fun b o hb e=>by
  rw[c7r _ _ (Ne.symm hb),c7r _ _ (Ne.symm hb)];exact e
theorem a8y{it l:Addr}{i:Int}{Q:Value→Shared→Prop}(hit:O4 s.heap it l i)(h:Q (.ref it) s):wpAny (model prog w) A (pyIter (.ref it)) Q E s:=by
 refine wpAny_pyIter_slot hit.typeIs a2k (wpAny_call_entry a2k hit.typeIs a8B ?_ (a8M _))
 show wpAny _ _ (ret (.ref it)) _ _ s
 exact c6U ⟨_,rfl, "reversed",_,hit.typeIs,J7.lookup,h⟩
theorem b4L{it l:Addr}{items:Array Value}{Q:Bool→Shared→Prop}(hit:O4 s.heap it l ((items.size:Int) - 1))(hl:IsTup s.heap l items)(hz:items.size≤sizeLine)(h:∀ t,Q (decide ((items.size:Int)≠0)) { s with toks:=t }):wpAny (model prog w) A (Builtin.List.listLengthHint (.ref it)) Q E s:=by
 have hT:=hit.typeIs
 obtain⟨o,ho,hc,hd⟩:=id hit
 unfold Builtin.List.listLengthHint
 refine c6L (wpAny_specialOf hT b1F ?_)
 show wpAny _ A (specialOf (Value.ref it) (Str.ofString "__length_hint__") >>= _) Q E s
 refine c6L (wpAny_specialOf hT a80 ?_)
 generalize hv:("reversed.__length_hint__" : String)=nm
 wp_delta
 rw[show splitId nm=some ("reversed","__length_hint__")by subst hv;decide +kernel]
 subst hv
 refine c6L (wpAny_isInstance (T := "reversed") (b:=true) hT (by rw[isSubtype_type];kernel_rfl) ?_)
 refine wpAny_ite_split (fun z=>absurd z (by decide)) (fun _=>?_)
 have hzl:(items.size:Int)<2 ^ 63:=by
  have:sizeLine<2 ^ 62:=by decide
  omega
 refine wpAny_ite_split (fun z=>absurd z (by decide +kernel)) (fun _=>?_)
 refine c6L (wpAny_rule ?_)
 refine c6L (wpAny_of_eq (a2l.bind _) ?_)
 try dsimp only
 refine c6L (wpAny_attempt (wpAny_call_entry a2l hT a8C ?_ (a8N _)))
 unfold Builtin.«reversed.__length_hint__»
 refine c6L (wpAny_of_eq (a:=Value.ref it) rfl ?_)
 try dsimp only
 refine c6L (wpAny_field ho hd (x:=.ref l) rfl ?_)
 try dsimp only
 rw[if_neg (show ¬ (Value.ref l == Value.none)=true from c7k)]
 refine c6L (len_tuple hl hzl ?_)
 refine c6L (wpAny_of_eq (a:=some (items.size:Int)) rfl ?_)
 try dsimp only
 refine c6L (wpAny_field ho hd (x:=rawInt ((items.size:Int) - 1)) rfl ?_)
 try dsimp only
 show wpAny _ _ (if (items.size:Int)<((items.size:Int) - 1)+1 then _ else _) _ _ _
 rw[if_neg (by omega)]
 refine c6L (wpAny_mkInt (c6U ⟨_,rfl,?_⟩))
 refine c6L (wpAny_of_eq (a:=some ((items.size:Int) - 1+1)) rfl ?_)
 try dsimp only
 rw[show(items.size:Int) - 1+1=items.size by omega]
 rw[if_neg (by
  unfold Builtin.List.listFitsIndex
  rw[c9W,decide_eq_true (show -(2 ^ 63:Int)≤(items.size:Int)by omega),decide_eq_true hzl];decide),if_neg (by omega),if_neg (by
  unfold Builtin.List.listTooLong
  rw[decide_eq_true_eq,c8a];omega)]
 refine c6U ?_
 have e:((items.size:Int) != 0)=decide ((items.size:Int)≠0):=by
  by_cases z:(items.size:Int)=0
  ·rw[z];rfl
  ·rw[decide_eq_true z,bne_iff_ne.mpr z]
 rw[e]
 exact h _
theorem b1w(hh:A.handled=none)(I l:Addr)(hne:l≠I)(items:Array Value)(hz:(items.size:Int)<2 ^ 63) :
  Walks prog w A I [I,l] [I] items.size (fun i v=>items[items.size - 1 - i]? = some v) (fun i h=>i≤items.size∧O4 h I l ((items.size:Int) - 1 - (i:Int))∧IsTup h l items) where
 sub:=fun b hb=>by simp at hb;simp[hb]
 frame:=fun _ _ _ x hk=>⟨x.1,x.2.1.at fun o e=>hk I (by simp) o e,let ⟨o,ho,r⟩:=x.2.2;⟨o,hk l (by simp) o ho,r⟩⟩
 item:=fun i s Q E hi x hQ=>by
  have e:(items.size:Int) - 1 - (i:Int)=((items.size - 1 - i:Nat):Int):=by omega
  have hit:=x.2.1
  rw[e]at hit
  have hx:items[items.size - 1 - i]? = some (items[items.size - 1 - i]'(by omega)):=Array.getElem?_eq_getElem (by omega)
  refine b4t hit x.2.2 hz hx fun h' t hit' hs'=>?_
  have e2:((items.size - 1 - i:Nat):Int) - 1=(items.size:Int) - 1 - ((i+1:Nat):Int):=by omega
  rw[e2]at hit'
  exact hQ _ h' t hx ⟨hi,hit',let ⟨o,ho,r⟩:=x.2.2;⟨o,(hs'.2 l hne).trans ho,r⟩⟩ fun b o hb eo=>hs'.extBut b o (fun h=>hb (by simp[h])) eo
 done:=fun s Q E x hQ=>by
  have e:(items.size:Int) - 1 - (items.size:Int) = -1:=by omega
  have hit:=x.2.1
  rw[e]at hit
  exact b3y hh hit fun h' he'=>hQ h' s.toks fun b o hb eo=>he' b o (fun h=>hb (by simp[h])) eo
 self:=fun _ _ _ _ x hQ=>a8y x.2.1 hQ
theorem a81{R:Result→Shared→Prop}{it l S:Addr}{items:Array Value}{c₀:Nat}(hh:A.handled=none)(hit:O4 s.heap it l ((items.size:Int) - 1))(hl:IsTup s.heap l items)(hne:l≠it)(hi:S≠it)(hj:S≠l)(hz:items.size≤sizeLine)
  (hS:s.heap.get? S=some { cls:=.type "list",data:=.seq #[] c₀ })
  (fin:∀ h' tk acc c1,(∀ b o,b≠S→b≠it→s.heap.get? b=some o→h'.get? b=some o)→h'.get? S=some { cls:=.type "list",dict:=none,data:=.seq acc c1,slots:=#[] }→ItemsOf (a2t items) acc items.size→R (.ok (.ret .none)) { s with heap:=h',toks:=tk }) :
  wpAny (model prog w) A.in1 (Builtin.List.listExtendWith (.ref S) (.ref it) .none) (a8T prog w A R) (fun e s'=>R (.error e) s') s:=by
 have hz2:(items.size:Int)<2 ^ 63:=by
  have:sizeLine<2 ^ 62:=by decide
  omega
 have V:=(b1w (prog:=prog) (w:=w) (A:=A.in1) hh it l hne items hz2).toS
 have nf:S∉[it,l]:=fun q=>by
  rcases c7h.mp q with q|q
  ·exact hi q
  ·exact hj (c7a.mp q)
 unfold Builtin.List.listExtendWith
 refine c6L (wpAny_typeOf hit.typeIs ?_)
 have n1:Builtin.List.listSameRef (.ref S) (.ref it)=false:=by simp[Builtin.List.listSameRef,hi]
 have n2:(Value.type "reversed" == Value.type "list")=false:=by decide
 have n3:(Value.type "reversed" == Value.type "tuple")=false:=by decide
 simp only[n1,n2,n3,Bool.or_false,c7R,if_false]
 refine c6L (a8y hit (c6L (wpAny_holding (b4L hit hl hz fun t=>?_))))
 have h0:((items.size:Int) - 1 - ((0:Nat):Int))=(items.size:Int) - 1:=by omega
 refine wpAny_ite_split (fun _=>?_) (fun _=>?_)
 ·refine c6L (wpAny_rule ?_)
  refine c6L ?_
  show wpAny _ A.in1 (updateSeq S (·.push .none) >>= fun _=>updateSeq S (·.pop)) _ _ _
  refine c6L (wpAny_updateSeq hS rfl ?_)
  have g2:=c7E (Obj.mapSeq (·.push Value.none)) hS rfl
  refine wpAny_updateSeq (hz:=by seq_fits) g2 rfl ?_
  have g3:=c7E (Obj.mapSeq (·.pop)) g2 rfl
  have oth:∀ b o,b≠S→s.heap.get? b=some o→((s.heap.update S (Obj.mapSeq (·.push Value.none))).update S (Obj.mapSeq (·.pop))).get? b=some o :=
   fun b o q1 q2=>(c7r _ _ (Ne.symm q1)).trans ((c7r _ _ (Ne.symm q1)).trans q2)
  refine c6U ⟨plainId_quiet F.plain_extend_loop _,?_⟩
  refine codeAny_extend_loopS V hz S nf .none items.size 0 _ #[] _ rfl (c7L _) ⟨c7L _,by rw[h0];exact hit.at fun o e=>oth it o (Ne.symm hi) e,let ⟨o,ho,r⟩:=hl;⟨o,oth l o (Ne.symm hj) ho,r⟩⟩ g3 (ItemsOf.nil _) fun s2 acc c1 mv g1 g2=>?_
  rw[Moved.eq_with mv]
  exact fin s2.heap s2.toks acc c1 (fun b o q1 q2 q3=>mv.heap b o (fun q=>(c7h.mp q).elim q1 fun q'=>q2 (c7a.mp q')) (oth b o q1 q3)) g1 g2
 ·refine c6U ⟨plainId_quiet F.plain_extend_loop _,?_⟩
  refine codeAny_extend_loopS V hz S nf .none items.size 0 _ #[] c₀ rfl (c7L _) ⟨c7L _,by rw[h0];exact hit,hl⟩ hS (ItemsOf.nil _) fun s2 acc c1 mv g1 g2=>?_
  rw[Moved.eq_with mv]
  exact fin s2.heap s2.toks acc c1 (fun b o q1 q2 q3=>mv.heap b o (fun q=>(c7h.mp q).elim q1 fun q'=>q2 (c7a.mp q')) q3) g1 g2
theorem b3r{R:Result→Shared→Prop}{it l S:Addr}{items:Array Value}(hh:A.handled=none)(hit:O4 s.heap it l ((items.size:Int) - 1))(hl:IsTup s.heap l items)(hne:l≠it)(hi:S≠it)(hj:S≠l)(hz:items.size≤sizeLine)
  (hS:s.heap.get? S=some { cls:=.type "list",data:=.seq #[] })
  (fin:∀ h' tk acc c1,(∀ b o,b≠S→b≠it→s.heap.get? b=some o→h'.get? b=some o)→h'.get? S=some { cls:=.type "list",dict:=none,data:=.seq acc c1,slots:=#[] }→ItemsOf (a2t items) acc items.size→R (.ok (.ret .none)) { s with heap:=h',toks:=tk }) :
  wpAny (model prog w) A.in1 (Builtin.«list.__init__» ⟨[.ref S,.ref it],[]⟩) (a8T prog w A R) (fun e s'=>R (.error e) s') s:=by
 show wpAny _ A.in1 (Builtin.List.listItems (.ref S) >>= fun was=>Builtin.List.listUpdate (.ref S) (fun _=>#[]) >>= fun _=>letGo was.toList.reverse >>= fun _=>Builtin.List.listExtendWith (.ref S) (.ref it) .none) (a8T prog w A R) (fun e s'=>R (.error e) s') s
 unfold Builtin.List.listItems
 refine c6L (c6L (wpAny_seqItems hS rfl (c6U ?_)))
 show wpAny _ A.in1 (updateSeq S (fun _=>#[]) >>= fun _=>letGo (#[]:Array Value).toList.reverse >>= fun _=>Builtin.List.listExtendWith (.ref S) (.ref it) .none) (a8T prog w A R) (fun e s'=>R (.error e) s') s
 refine c6L (wpAny_updateSeq hS rfl (c6L (wpAny_letGo ?_)))
 have g:=c7E (Obj.mapSeq fun _=>(#[]:Array Value)) hS rfl
 have oth:∀ b o,b≠S→s.heap.get? b=some o→(s.heap.update S (Obj.mapSeq fun _=>(#[]:Array Value))).get? b=some o:=fun b o q1 q2=>(c7r _ _ (Ne.symm q1)).trans q2
 refine a81 hh (hit.at fun o e=>oth it o (Ne.symm hi) e) (let ⟨o,ho,r⟩:=hl;⟨o,oth l o (Ne.symm hj) ho,r⟩) hne hi hj hz g fun h' tk acc c1 q1 q2 q3=>?_
 exact fin h' tk acc c1 (fun b o b1 b2 e=>q1 b o b1 b2 (oth b o b1 e)) q2 q3
theorem a4M{it l:Addr}{items:Array Value}{Q:Value→Shared→Prop}(hh:A.handled=none)(hit:O4 s.heap it l ((items.size:Int) - 1))(hl:IsTup s.heap l items)(hne:l≠it)(hz:items.size≤sizeLine)
  (fin:∀ h' tk acc c1,(∀ b o,b≠it→s.heap.get? b=some o→h'.get? b=some o)→h'.get? s.heap.objs.size=some { cls:=.type "list",dict:=none,data:=.seq acc c1,slots:=#[] }→ItemsOf (a2t items) acc items.size→Q (.ref s.heap.objs.size) { s with heap:=h',toks:=tk }) :
  wpAny (model prog w) A (call (.type "list") [.ref it]) Q E s:=by
 obtain⟨oi,hoi,_⟩:=id hit
 obtain⟨ol,hol,_⟩:=id hl
 have i1:s.heap.objs.size≠it:=c7U (c6X hoi)
 have i2:s.heap.objs.size≠l:=c7U (c6X hol)
 let h1:=s.heap.push { cls:=.type "list",data:=.seq #[] }
 have up:∀ b o,s.heap.get? b=some o→h1.get? b=some o:=fun b o e=>c6O _ e
 have gS:h1.get? s.heap.objs.size=some { cls:=.type "list",data:=.seq #[] }:=c6W _ rfl
 refine callType_codes (Q₁:=fun x s1=>x = .ref s.heap.objs.size∧s1 = { s with heap:=h1 }) F.called_list (F.typeCall_list_1 _) F.entry_list_init (code_list_new _ ⟨rfl,rfl⟩) ?_
 rintro x s1 ⟨rfl,rfl⟩
 refine⟨⟨_,gS,rfl⟩,F.args_list_init_2 _ _,b3r (A:=A.in1) hh (hit.at fun o e=>up it o e) (let ⟨o,ho,r⟩:=hl;⟨o,up l o ho,r⟩) hne i1 i2 hz gS fun h' tk acc c1 q1 q2 q3=>?_⟩
 exact⟨rfl,fin h' tk acc c1 (fun b o b1 e=>q1 b o (c7v (c6X e)) b1 (up b o e)) q2 q3⟩
end
end L2
namespace L2
open PySem PySem.Spec PyProof.Rows
section
variable {X:Cx}
def rvO(k:Bool)(a:Addr)(n:Nat):Obj:=if k=true then revObj a ((n:Int) - 1)else a5U a ((n:Int) - 1)
def rvφ(k:Bool)(p a:Addr)(n:Nat):Heap→Prop:=fun h=>h.get? p=some (rvO k a n)
theorem a62:D2 X (.type "reversed") (fun xs H Q=>∃ a k ys,xs=[.ref a]∧SqK X.K k H a ys∧∀ p,H p=none→p≠a→X.s₀.heap.objs.size≤p→Q (.ref p) (upd H p (.ext (rvφ k p a ys.length)))):=by
 intro pins s σ H xs us Q I rv h
 obtain⟨a,k,ys,rfl,sq,q⟩:=h
 obtain⟨u,rfl,ru⟩:=rv.one
 cases ru
 cases k with
 | true =>
  obtain⟨its,r,ht,hz⟩:=I.list sq
  have hl:=r.length
  obtain⟨o,ho,_⟩:=id ht.isList
  refine call_reversed_list ht.isList ⟨.ref s.heap.objs.size,_,I.laid (t':=s.toks) (o:=.ext (rvφ true s.heap.objs.size a ys.length)) (fun b u e=>c6O _ e) (c7b _) ?_,rfl,q _ I.fresh (c7U (c6X ho)) I.sz⟩
  have e:(s.heap.push (revObj a ((its.toArray.size:Int) - 1))).get? s.heap.objs.size=some (rvO true a ys.length):=by
   rw[c6W _ rfl,hl];rfl
  exact⟨e,⟨_,e⟩,fun h1 h2 z k=>k _ z⟩
 | false =>
  obtain⟨its,r,ht,hz⟩:=I.tuple sq
  have hl:=r.length
  obtain⟨o,ho,_⟩:=id ht
  have hz2:((its.toArray.size:Nat):Int)<2 ^ 63:=by
   have:sizeLine<2 ^ 62:=by decide
   rw[c69]
   omega
  refine b5t ht hz2 fun t=>⟨.ref s.heap.objs.size,_,I.laid (t':=t) (o:=.ext (rvφ false s.heap.objs.size a ys.length)) (fun b u e=>c6O _ e) (c7b _) ?_,rfl,q _ I.fresh (c7U (c6X ho)) I.sz⟩
  have e:(s.heap.push (a5U a ((its.toArray.size:Int) - 1))).get? s.heap.objs.size=some (rvO false a ys.length):=by
   rw[c6W _ rfl,hl];rfl
  exact⟨e,⟨_,e⟩,fun h1 h2 z k=>k _ z⟩
theorem a8G(hc:X.calm=true):D2 X (.type "list") (fun xs H Q=>∃ it a k ys,xs=[.ref it]∧H it=some (.ext (rvφ k it a ys.length))∧SqK X.K k H a ys∧a≠it∧X.s₀.heap.objs.size≤it∧∀ p,H p=none→Q (.ref p) (a37 (upd H p (.lst ys.reverse)) it)):=by
 intro pins s σ H xs us Q I rv h
 obtain⟨it,a,k,ys,rfl,hit,sq,hne,hge,q⟩:=h
 obtain⟨u,rfl,ru⟩:=rv.one
 cases ru
 have hob:s.heap.get? it=some (rvO k a ys.length):=(I.hok it _ hit).1
 obtain⟨its,r,hz,hcall⟩:∃ its:List Value,p0 ys its∧ys.length≤sizeLine∧∀(A:Around) (E:Value→Shared→Prop) (Q:Value→Shared→Prop),A.handled=none→(∀ h' tk acc c1,(∀ b o,b≠it→s.heap.get? b=some o→h'.get? b=some o)→h'.get? s.heap.objs.size=some { cls:=.type "list",dict:=none,data:=.seq acc c1,slots:=#[] }→ItemsOf (a2t its.toArray) acc its.toArray.size→Q (.ref s.heap.objs.size) { s with heap:=h',toks:=tk })→wpAny (model X.prog X.w) A (call (.type "list") [.ref it]) Q E s:=by
  cases k with
  | true =>
   obtain⟨its,r,ht,hz⟩:=I.list sq
   have hsz:its.toArray.size=ys.length:=by rw[c69];exact r.length.symm
   exact⟨its,r,hz,fun A E Q hA fin=>a4N hA ⟨_,hob,rfl,by rw[hsz];rfl⟩ ht.isList hne (by rw[hsz];exact hz) fin⟩
  | false =>
   obtain⟨its,r,ht,hz⟩:=I.tuple sq
   have hsz:its.toArray.size=ys.length:=by rw[c69];exact r.length.symm
   exact⟨its,r,hz,fun A E Q hA fin=>a4M hA ⟨_,hob,rfl,by rw[hsz];rfl⟩ ht hne (by rw[hsz];exact hz) fin⟩
 refine hcall _ _ _ (I.ok.hd hc) fun h' tk acc c1 k1 k2 k3=>?_
 have hacc:=b1M k3
 have fr:=I.fresh
 have ex:∀{b o},s.heap.get? b=some o→b≠s.heap.objs.size:=fun e=>c7v (c6X e)
 have old:∀{b u},H b=some u→b≠s.heap.objs.size:=fun{b u} e z=>by rw[z,fr]at e;cases e
 have nit:∀{b u},H b=some u→u ≠ .ext (rvφ k it a ys.length)→b≠it:=fun{b u} e n z=>by
  rw[z,hit]at e;exact n (Option.some.inj e).symm
 have here:∀{b},b≠s.heap.objs.size→b≠it→a37 (upd H s.heap.objs.size (.lst ys.reverse)) it b=H b:=fun b1 b2=>by rw[a36 b2,j6 b1]
 have un:Un (frs X.stack) [it] H (a37 (upd H s.heap.objs.size (.lst ys.reverse)) it) s.heap h':={
  keep:=fun b o e n _ hx=>k1 b o (fun z=>hx (by simp[z])) e
  slot:=fun b o e n _ hx=>⟨o.slots,k1 b o (fun z=>hx (by simp[z])) e⟩
  free:=fun b o e n hx=>by rw[here (ex e) (fun z=>hx (by simp[z]))];exact n
  there:=fun b o e hx=>⟨o,k1 b o (fun z=>hx (by simp[z])) e⟩
  tups:=fun b xs e=>by rw[here (old e) (nit e (by simp))];exact e
  frzs:=fun b o u e=>by rw[here (old e) (nit e (by simp))];exact e
  tbls:=fun b ps e=>⟨#[],by rw[here (old e) (nit e (by simp))];simpa using e⟩ }
 have ok:HOk X.prog X.w (a37 (upd H s.heap.objs.size (.lst ys.reverse)) it) h':=fun b u e=>by
  have b2:b≠it:=fun z=>by rw[z,a35]at e;cases e
  rw[a36 b2]at e
  by_cases b1:b=s.heap.objs.size
  ·subst b1
   rw[j7]at e
   cases e
   exact⟨by rw[c7B];exact hz,acc.toList,c1,by rw[hacc];exact r.reverse,k2⟩
  ·rw[j6 b1]at e
   refine(I.hok b u e).stay (fun c v hcv z=>k1 c v ?_ z) (fun c z=>?_) fun c xs z=>?_
   ·rcases hcv with z2|z2
    ·rw[z2];exact b2
    ·exact nit z2 (by simp)
   ·rw[here (old z) (nit z (by simp))];exact z
   ·rw[here (old z) (nit z (by simp))];exact z
 refine⟨.ref s.heap.objs.size,_,I.call (g':=s.gens) (d':=s.drawn) (t':=tk) un ok I.bare (fun b hb=>?_),rfl,q _ fr⟩
 obtain rfl:b=it:=by simpa using hb
 refine⟨.inr hge,fun z=>?_,fun x c e z=>?_,fun p hp z=>?_⟩
 ·rw[z,I.free]at hit;cases hit
 ·rw[← z,I.freeC x c e]at hit;cases hit
 ·rw[← z,(I.pin p hp).2.1]at hit;cases hit
end
end L2
namespace L2
open PySem PySem.Spec PyProof.Rows
section
variable {prog:Program} {w:World} {A:Around} {E:Value→Shared→Prop} {s:Shared}
theorem b01{h h2:Heap}{a b:Addr}{its:Array Value}(x:h.IsList a its)(hs:Heap.ExtBut b h h2)(ne:a≠b):h2.IsList a its:=x.at fun o e=>hs a o ne e
theorem a8D{it l:Addr}{its:Array Value}(hne:l≠it):∀(n i:Nat) (s:Shared) (Q:List Value→Shared→Prop),s.heap.IsListIter it l i→s.heap.IsList l its→i+n≤its.size →
  (∀ h2,h2.IsListIter it l (i+n)→Heap.SameBut it s.heap h2→Q ((its.toList.drop i).take n) { s with heap:=h2 })→wpAny (model prog w) A (draw (.ref it) n) Q E s
 | 0,i,s,Q,hi,_,_,k=>by
  show wpAny _ _ (pure []) Q E s
  refine c6U ?_
  simpa using k s.heap hi (Heap.SameBut.refl ..)
 | n+1,i,s,Q,hi,hl,hle,k=>by
  have lt:i<its.size:=by omega
  show wpAny _ _ (pyNext (.ref it) >>= _) Q E s
  refine c6L (wpAny_pyNext_list_item hi hl (x:=its[i]) (by simp[lt]) fun h1 hi1 hs1=>c6L (wpAny_holding ?_))
  refine a8D hne n (i+1) _ _ hi1 (b01 hl hs1.extBut hne) (by omega) fun h2 hi2 hs2=>c6U ?_
  have e:its.toList.drop i=its[i] :: its.toList.drop (i+1):=by simp[List.drop_eq_getElem_cons,lt]
  have z:=k h2 (by rw[show i+(n+1)=i+1+n by omega];exact hi2) (hs1.trans hs2)
  rw[e,List.take_succ_cons]at z
  exact z
theorem a8X{l:Addr}{its:Array Value}{ts:List (Bool × (Value→Sem Unit))}{Q:Unit→Shared→Prop}(hh:A.handled=none)(hl:s.heap.IsList l its)(hn:ts.length=its.size)(hst:ts.findIdx? (·.1)=none)
  (k:∀ h2,Heap.ExtBut s.heap.objs.size s.heap h2→wpAny (model prog w) A (assignInOrder (ts.map (·.2)) its.toList) Q E { s with heap:=h2 }):wpAny (model prog w) A (unpack (.ref l) ts) Q E s:=by
 have ne:l≠s.heap.objs.size:=by obtain⟨o,ho,_⟩:=hl;exact c7v (c6X ho)
 unfold unpack
 rw[hn,hst]
 refine c6L (wpAny_holding ?_)
 unfold unpackItems
 refine c6L ?_
 unfold notIterableAtAll
 refine c6L (wpAny_specialOf hl.typeIs F.slot_list_iter.lookup (c6U ?_))
 simp only[c7R,if_false]
 refine c6L (wpAny_holding (wpAny_pyIter_list hl ?_))
 refine c6L (wpAny_holding (a8D ne its.size 0 _ _ ⟨_,c6W _ rfl,rfl,rfl⟩ (hl.at fun o e=>c6O _ e) (by omega) fun h1 hi1 hs1=>?_))
 have all:List.take its.size (List.drop 0 its.toList)=its.toList:=by
  rw[List.drop_zero];exact c7W (by simp)
 rw[all,if_neg (by simp)]
 have hl1:h1.IsList l its:=b01 (hl.at fun o e=>c6O _ e) hs1.extBut ne
 refine c6L (wpAny_holding (wpAny_pyNext_list_end hh hi1 hl1 (by simp) fun h2 he=>?_))
 simp only[Option.isSome_none,c7R,if_false]
 exact c6U (k h2 fun b o hb e=>he b o hb (hs1.extBut b o hb (c6O _ e)))
end
section
variable {X:Cx} {pos:Pos}
def c0J(K:c6M)(n:Nat)(t:TGs):TG:=fun v σ H Q=>∃ a xs,v = .ref a∧SqL K H a xs∧xs.length=n∧t xs σ H Q
theorem b7i{es:List Expr}{k:Nat}{t:TGs}{n:Nat}(hc:X.calm=true)(h:PGs X es t)(hn:(assignEach es X.env).length=n:=by rfl)
  (hst:(assignEach es X.env).findIdx? (·.1)=none:=by rfl):PG X (.Tuple es k pos) (c0J X.K n t):=by
 intro pins s σ H v u Q I r hw
 obtain⟨a,xs,e1,hq,hl,hw⟩:=hw
 subst e1
 cases r
 obtain⟨its,rv,ht,hz⟩:=I.list hq
 rw[assign_Tuple]
 refine c6L (wpAny_standAt (a8X (I.ok.hd hc) ht.isList (by simp[hn,← hl,rv.length]) hst fun h2 hx=>?_))
 have I1:Inv X pins σ H { s with heap:=h2 }:=I.kept (t':=s.toks) fun b o e=>hx b o (c7v (c6X e)) e
 exact h pins _ σ H xs _ Q I1 (by simpa using rv) hw
end
end L2
namespace L2
open PySem PySem.Spec PyProof.Rows
def Itb(K:c6M)(a:Addr)(n:Nat):It :=
 ⟨fun i H=>i<n∧∃ xs x,SqL K H a xs∧xs[n - 1 - i]? = some x,fun i H x H'=>H'=H∧∀ xs,SqL K H a xs→xs[n - 1 - i]? = some x,fun i _=>n≤i⟩
theorem b1C{P:Program}{w:World}{K:c6M}{tg:Expr}(a it:Addr)(n:Nat):a8Q P w K tg (Itb K a n) [it] it (fun i h=>i≤n∧h.IsRevIter it a ((n:Int) - 1 - (i:Int))) where
 mem:=by simp
 obj:=fun i h st b hb=>by
  obtain rfl:b=it:=by simpa using hb
  obtain⟨_,o,e,c,d⟩:=st
  exact⟨o,e,fun v z=>by rw[d]at z;cases z⟩
 keep:=fun i h h2 st k=>⟨st.1,st.2.at fun o e=>k it (by simp) o e⟩
 item:=by
  intro X hP hw hK hc i pins s σ H E I hf st hg
  subst hP hw hK
  obtain⟨hi,xs,x,hq,hx⟩:=hg
  obtain⟨its,rv,p,hz⟩:=I.list hq
  obtain⟨u,hu,ru⟩:=rv.get hx
  obtain⟨f0,f1,f2,f3,f4,f5⟩:=hf it (by simp)
  have e:(n:Int) - 1 - (i:Int)=((n - 1 - i:Nat):Int):=by omega
  have st2:=st.2
  rw[e]at st2
  refine wpAny_pyNext_rev_item st2 p.isList (x:=u) (by simpa using hu) fun h2 st3 sb=>?_
  have I1:Inv X pins σ H { s with heap:=h2 }:=I.turned (t':=s.toks) (fun b o hb e=>(sb.2 b hb).trans e) f0 f1 f3 f4 f5
  have e2:((n - 1 - i:Nat):Int) - 1=(n:Int) - 1 - ((i+1:Nat):Int):=by omega
  rw[e2]at st3
  obtain⟨o,e3,c,d⟩:=id st3
  exact⟨u,rfl,b1b (s:={ s with heap:=h2 }) e3 c d (by decide) ⟨x,H,I1,ru,⟨rfl,fun ys hy=>by rw[I.list_inj hy hq];exact hx⟩,⟨by omega,st3⟩,fun b hb=>(hf b hb).1⟩⟩
 done:=by
  intro X hP hw hK hc i pins s σ H E I hf st hg
  subst hP hw hK
  have hi:i=n:=Nat.le_antisymm st.1 hg
  obtain⟨f0,f1,f2,f3,f4,f5⟩:=hf it (by simp)
  have st2:=st.2
  rw[hi,show(n:Int) - 1 - (n:Int) = -1 by omega]at st2
  refine wpAny_pyNext_rev_end (I.ok.hd hc) st2 fun h2 he=>?_
  exact⟨rfl,I.turned (t':=s.toks) (fun b o hb e=>he b o hb e) f0 f1 f3 f4 f5⟩
 self:=fun A i s Q E st k=>wpAny_pyIter_revIter st.2 k
section
variable {X:Cx}
def c2z(K:c6M)(ta:TA):TI:=fun σ H R=>ta σ H fun vs H1=>∃ a xs,vs=[.ref a]∧SqL K H1 a xs∧R (Itb K a xs.length) H1
theorem b7g{tg e:Expr}{ta:TA}{p pos:Pos}(hg:Gl X "reversed")(hm:X.mg "reversed" = none)(hv:bootBuiltins "reversed" = some (.type "reversed"))(ha:PA X [e] ta)
  (hs:starEach [e] X.env=[(false,eval e X.env)]:=by rfl):PI X tg (.Call (.Name "reversed" p) [e] [] pos) (c2z X.K ta):=by
 intro pins s σ H R I h
 refine Call_ (Q0 I hg hm hv (PyProof.Rows.callWith_type1 (thn (ha pos pins s σ H _ I h) fun us s1 zz=>?_) hs rfl))
 ·obtain⟨vs,H1,I1,r1,a,xs,rfl,hq,q⟩:=zz
  obtain⟨u,rfl,ru⟩:=a2i r1
  cases ru
  obtain⟨its,rv,pl,hz⟩:=I1.list hq
  have hl:=rv.length
  refine call_reversed_list pl.isList ?_
  have I2:Inv X pins σ H1 { s1 with heap:=s1.heap.push (revObj a ((its.toArray.size:Int) - 1)) }:=I1.kept (t':=s1.toks) fun b o e=>c6O _ e
  have st:(s1.heap.push (revObj a ((its.toArray.size:Int) - 1))).IsRevIter s1.heap.objs.size a ((xs.length:Int) - 1 - ((0:Nat):Int)):=by
   refine⟨_,c6W _ rfl,rfl,?_⟩
   rw[c69,← hl]
   show Data.fields _=_
   rw[show(xs.length:Int) - 1 - ((0:Nat):Int)=(xs.length:Int) - 1 by omega]
  refine wpAny_pyIter_revIter st ⟨s1.heap.objs.size,[s1.heap.objs.size],_,_,H1,rfl,I2,b1C a _ xs.length,⟨c7L _,st⟩,fun b hb=>?_,q⟩
  obtain rfl:b=s1.heap.objs.size:=by simpa using hb
  exact I1.fpOk (c7b _) (I1.hok.fresh (c7b _))
end
end L2
namespace L2
open PySem PySem.Spec PyProof.Rows
section
variable {prog:Program} {w:World} {A:Around} {E:Value→Shared→Prop} {s:Shared}
end
end L2
namespace L2
open PySem
section
variable {prog:Program} {w:World} {A:Around} {E:Value→Shared→Prop} {s:Shared}
theorem b5b{k:Bool}{e p l:Addr}{n:Nat}{xs:Array Value}{v old:Value}{Q:Option Value→Shared→Prop}(ie:IsEnum s.heap e p n old)(g:SI k s.heap p l n)(m:SS k s.heap l xs)(hv:xs[n]? = some v)(hne:e≠p)
  (q:∀ h',IsEnumOut h' e p ((n:Int)+1) v s.heap.objs.size→SI k h' p l (n+1)→h'.get? s.heap.objs.size=some { cls:=.type "tuple",data:=.seq #[.int n s.toks,v] }→h'.objs.size=s.heap.objs.size+1 →
   (∀ b o,b≠e→b≠p→s.heap.get? b=some o→h'.get? b=some o)→Q (some (.ref s.heap.objs.size)) { s with heap:=h',toks:=s.toks+1 }):wpAny (model prog w) A (pyNext (.ref e)) Q E s:=by
 have ty:s.TypeIs (.ref e) "enumerate" := ⟨_,ie,rfl⟩
 unfold pyNext
 refine c6L (wpAny_attempt (wpAny_callSpecial?_slot (name:=Str.ofString "__next__") ty F.slot_enumerate_next (wpAny_call_entry F.slot_enumerate_next ty F.entry_enumerate_next ?_ (F.args_enumerate_next_1 _))))
 obtain⟨hp,gs,dr,tk,os⟩:=s
 show wpAny _ _ (field (.ref e) 2 >>= _) _ _ _
 refine c6L (wpAny_field ie rfl (x:=.ref p) rfl (c6L (a2B g m hv fun ha ga sa=>?_)))
 replace sa:Heap.SameBut p hp ha:=sa
 have ea:IsEnum ha e p n old:=(sa.2 e hne).trans ie
 show wpAny _ _ (field (.ref e) 3 >>= _) _ _ ⟨ha,gs,dr,tk,os⟩
 refine c6L (wpAny_field ea rfl (x:=rawInt n) rfl ?_)
 show wpAny _ _ (field (.ref e) 4 >>= _) _ _ ⟨ha,gs,dr,tk,os⟩
 refine c6L (wpAny_field ea rfl (x:=.none) rfl ?_)
 show wpAny _ _ (mkInt n >>= _) _ _ ⟨ha,gs,dr,tk,os⟩
 refine c6L (wpAny_mkInt ?_)
 show wpAny _ _ (setField (.ref e) 3 (rawInt ((n:Int)+1)) >>= _) _ _ ⟨ha,gs,dr,tk+1,os⟩
 refine c6L (wpAny_setField_rec ea (by simp) fun hb eb sb=>?_)
 replace sb:Heap.SameBut e ha hb:=sb
 replace eb:IsEnum hb e p ((n:Int)+1) old:=eb
 show wpAny _ _ (setField (.ref e) 4 .none >>= _) _ _ ⟨hb,gs,dr,tk+1,os⟩
 refine c6L (wpAny_setField_rec eb (by simp) fun hc ec sc=>?_)
 replace sc:Heap.SameBut e hb hc:=sc
 replace ec:IsEnum hc e p ((n:Int)+1) old:=ec
 show wpAny _ _ (newTuple [.int n tk,v] >>= _) _ _ ⟨hc,gs,dr,tk+1,os⟩
 refine c6L (wpAny_newTuple ?_)
 have zc:hc.objs.size=hp.objs.size:=by rw[sc.1,sb.1,sa.1]
 have ltE:e<hp.objs.size:=c6X ie
 obtain⟨hd,hhd⟩:∃ hd,hd=hc.push { cls:=.type "tuple",data:=.seq #[.int n tk,v] }:=⟨_,rfl⟩
 have ed:IsEnum hd e p ((n:Int)+1) old:=by rw[hhd];exact c6O _ ec
 have td:hd.get? hp.objs.size=some { cls:=.type "tuple",data:=.seq #[.int n tk,v] }:=by rw[hhd,← zc];exact c6W _ rfl
 have zd:hd.objs.size=hp.objs.size+1:=by rw[hhd,c7O,zc]
 have kd:∀ b o,b≠e→b≠p→hp.get? b=some o→hd.get? b=some o:=fun b o b1 b2 z=>by rw[hhd];exact c6O _ (sc.extBut b o b1 (sb.extBut b o b1 (sa.extBut b o b2 z)))
 have gd:SI k hd p l (n+1):=((ga.but sb.extBut (Ne.symm hne)).but sc.extBut (Ne.symm hne)).at fun o z=>by rw[hhd];exact c6O _ z
 show wpAny _ _ (Builtin.SmallTypes.ownedTupleIsFree (.ref e) >>= _) _ _ ⟨hc.push { cls:=.type "tuple",data:=.seq #[.int n tk,v] },gs,dr,tk+1,os⟩
 rw[← hhd,zc]
 refine c6L ?_;unfold Builtin.SmallTypes.ownedTupleIsFree
 refine c6L (wpAny_field ed rfl (x:=.none) rfl (c6U ?_));simp only[if_true]
 refine c6L (wpAny_rule (c6L (wpAny_field ed rfl (x:=old) rfl (c6L (wpAny_setField_rec ed (by simp) fun hf ef sf=>?_)))))
 replace sf:Heap.SameBut e hd hf:=sf
 replace ef:IsEnum hf e p ((n:Int)+1) v:=ef
 show wpAny _ _ (Builtin.SmallTypes.ownedTupleHandOut (.ref e) (.ref hp.objs.size) >>= _) _ _ ⟨hf,gs,dr,tk+1,os⟩
 refine c6L ?_;unfold Builtin.SmallTypes.ownedTupleHandOut
 refine c6L (wpAny_setField_rec ef (by simp) fun hg eg sg=>?_)
 replace sg:Heap.SameBut e hf hg:=sg
 replace eg:IsEnumOut hg e p ((n:Int)+1) v hp.objs.size:=eg
 refine wpAny_setField_rec eg (by simp) fun hh eh sh=>?_
 replace sh:Heap.SameBut e hg hh:=sh
 replace eh:IsEnumOut hh e p ((n:Int)+1) v hp.objs.size:=eh
 refine c6L (wpAny_letGo (c6U ⟨_,rfl,c6U (q hh eh ?_ ?_ ?_ ?_)⟩))
 ·exact((gd.but sf.extBut (Ne.symm hne)).but sg.extBut (Ne.symm hne)).but sh.extBut (Ne.symm hne)
 ·exact sh.extBut _ _ (c7U ltE) (sg.extBut _ _ (c7U ltE) (sf.extBut _ _ (c7U ltE) td))
 ·show hh.objs.size=hp.objs.size+1
  rw[sh.1,sg.1,sf.1,zd]
 ·exact fun b o b1 b2 z=>sh.extBut b o b1 (sg.extBut b o b1 (sf.extBut b o b1 (kd b o b1 b2 z)))
theorem b7W{k:Bool}{e p l:Addr}{n:Nat}{xs:Array Value}{old:Value}{Q:Option Value→Shared→Prop}(hA:A.handled=none)(ie:IsEnum s.heap e p n old)(g:SI k s.heap p l n)(m:SS k s.heap l xs)(hv:xs[n]? = none)
  (q:∀ h',Heap.ExtBut p s.heap h'→Q none { s with heap:=h' }):wpAny (model prog w) A (pyNext (.ref e)) Q E s:=by
 have ty:s.TypeIs (.ref e) "enumerate" := ⟨_,ie,rfl⟩
 unfold pyNext
 refine c6L (wpAny_attempt (wpAny_callSpecial?_slot (name:=Str.ofString "__next__") ty F.slot_enumerate_next (wpAny_call_entry F.slot_enumerate_next ty F.entry_enumerate_next ?_ (F.args_enumerate_next_1 _))))
 show wpAny _ _ (field (.ref e) 2 >>= _) _ _ _
 refine c6L (wpAny_field ie rfl (x:=.ref p) rfl (c6L (a88 hA g m hv fun h' x he' zz=>?_)))
 obtain⟨o,ho,hc⟩:=zz
 exact c6L (wpAny_isInstance (T := "StopIteration") (b:=true) ⟨o,ho,hc⟩ isSubtype_stop (c6U (q _ he')))
end
set_option maxHeartbeats 2000000 in
theorem b5c(l:Addr)(xs:Array Value)(n:Nat)(dct:Option Addr)(sl:Array (Option Value)) :
  Meets (Builtin.«enumerate.__new__» ⟨[.type "enumerate",.ref l],[]⟩) (fun _ R s=>s.heap.get? l=some { cls:=.type "tuple",dict:=dct,data:=.seq xs n,slots:=sl } ∧
   R (.ok (.ret (.ref (zA false s.heap l).objs.size))) { s with heap:=(zA false s.heap l).push { cls:=.type "enumerate",data:=.fields #[.none,.bool false,.ref s.heap.objs.size,rawInt 0,.none,.none] } }) :=
 .of_wp fun prog w A R s h=>by
  obtain⟨hp,g,d,tk,os⟩:=s
  obtain⟨hl,h⟩:=h
  have hsub:=sub_enumerate
  have hT:Heap.IsTuple (Shared.heap ⟨hp,g,d,tk,os⟩) l xs:=⟨_,hl,rfl,n,rfl⟩
  wp_walk using AutoSeq1.wpAny_loadPart' hl
  refine wpAny_stack_any fun st=>c6U ?_
  split
  ·rename_i c _ _ _ _ _
   cases(c == Value.type "enumerate")
   ·wp_walk using AutoSeq1.wpAny_loadPart' hl,wpAny_pyIter_tuple hT
    exact⟨_,rfl,h⟩
   ·wp_walk using AutoSeq1.wpAny_loadPart' hl,wpAny_pyIter_tuple hT
    exact⟨_,rfl,h⟩
  ·wp_walk using AutoSeq1.wpAny_loadPart' hl,wpAny_pyIter_tuple hT
   exact⟨_,rfl,h⟩
section
variable {prog:Program} {w:World} {A:Around} {E:Value→Shared→Prop} {s:Shared}
theorem b5v{k:Bool}{l:Addr}{xs:Array Value}{Q:Value→Shared→Prop}(m:SS k s.heap l xs)
  (q:∀ h',IsEnum h' (s.heap.objs.size+1) s.heap.objs.size 0 .none→SI k h' s.heap.objs.size l 0→h'.objs.size=s.heap.objs.size+2→(∀ b o,s.heap.get? b=some o→h'.get? b=some o)→Q (.ref (s.heap.objs.size+1)) { s with heap:=h' }) :
  wpAny (model prog w) A (call (.type "enumerate") [.ref l]) Q E s:=by
 cases k with
 | true=>exact call_enumerate_list m q
 | false =>
  obtain⟨⟨c,dct,dt,sl⟩,hl,hc,n,hd⟩:=m
  simp only at hc hd
  subst hc;subst hd
  refine callType_new F.called_enumerate (by decide) (F.typeCall_enumerate_1 _) (F.newCall_enumerate_1 _) (fun obj=>F.args_object_init_2 obj _) F.entry_enumerate_new (b5c l xs n dct sl) ⟨hl,?_⟩
  have s1:(zA false s.heap l).objs.size=s.heap.objs.size+1:=c7O ..
  have o1:((zA false s.heap l).push { cls:=.type "enumerate",data:=.fields #[.none,.bool false,.ref s.heap.objs.size,rawInt 0,.none,.none] }).get? (zA false s.heap l).objs.size=some _:=c6W _ rfl
  show _∧_
  rw[s1]at o1 ⊢
  exact⟨⟨_,o1,rfl⟩,q _ o1 ⟨_,c6O _ (c6W _ rfl),rfl,rfl⟩ (by rw[c7O,s1]) fun b o e=>c6O _ (c6O _ e)⟩
end
end L2
namespace L2
open PySem PySem.Spec PyProof.Rows
def Ite(K:c6M)(k:Bool)(l:Addr):It :=
 ⟨fun i H=>∃ xs x,SqK K k H l xs∧xs[i]? = some x,
  fun i H v H'=>∃ T x,H T=none∧v = .ref T∧H'=upd H T (.tup [.int i,x])∧∀ xs,SqK K k H l xs→xs[i]? = some x,
  fun i H=>∃ xs,SqK K k H l xs∧xs.length≤i⟩
def c09(k:Bool)(e p l:Addr)(i:Nat)(h:Heap):Prop:=(∃ old,IsEnum h e p i old)∧SI k h p l i
theorem b1B{P:Program}{w:World}{K:c6M}{elts:List Expr}{kx:Nat}{tp:Pos}{k:Bool}{e p l:Addr}(hne:e≠p):a8Q P w K (.Tuple elts kx tp) (Ite K k l) [e,p] e (c09 k e p l) where
 mem:=by simp
 obj:=fun i h ⟨⟨old,ie⟩,g⟩ c hc=>by
  simp only[c7h,c7p,or_false]at hc
  rcases hc with rfl|rfl
  ·exact⟨_,ie,fun v z=>by cases z⟩
  ·exact g.obj
 keep:=fun i h h' ⟨⟨old,ie⟩,g⟩ kk=>⟨⟨old,kk e (by simp) _ ie⟩,g.at fun o z=>kk p (by simp) o z⟩
 item:=by
  intro X hP hw hK hc i pins s σ H E I hf st hg
  subst hP hw hK
  obtain⟨⟨old,ie⟩,g⟩:=st
  obtain⟨xs,x,q1,hx⟩:=hg
  obtain⟨is1,r1,m1⟩:=I.sqk q1
  obtain⟨u1,hu1,ru1⟩:=r1.get hx
  refine b5b ie g m1 (v:=u1) (by simpa using hu1) hne fun h' a1 a2 a3 a4 kk=>?_
  refine⟨_,rfl,?_⟩
  refine wpAny_letOwnedTupleGo_enum (s:={ s with heap:=h',toks:=s.toks+1 }) a1 fun h2 b1 b2=>?_
  have lt:∀{c o},s.heap.get? c=some o→c≠s.heap.objs.size:=fun z=>c7v (c6X z)
  have I1:Inv X pins σ (upd H s.heap.objs.size (.tup [.int i,x])) { s with heap:=s.heap.push { cls:=.type "tuple",data:=.seq #[.int i s.toks,u1] },toks:=s.toks+1 } :=
   I.laid (o:=.tup [.int i,x]) (fun b ob q=>c6O _ q) (c7b _) ⟨(show 2≤sizeLine by decide),[.int i s.toks,u1],.cons ⟨_,rfl⟩ (.cons ru1 .nil),IsTup.new _ _⟩
  have nfp:∀ c∈[e,p],c≠s.heap.objs.size:=fun c hc=>by
   simp only[c7h,c7p,or_false]at hc
   rcases hc with rfl|rfl
   ·exact lt ie
   ·obtain⟨o,z,_⟩:=g.obj;exact lt z
  have hf':∀ c∈[e,p],a00 X pins (upd H s.heap.objs.size (.tup [.int i,x])) c:=fun c hc=>by
   obtain⟨f0,f1⟩:=hf c hc
   exact⟨by rw[j6 (nfp c hc)];exact f0,f1⟩
  have I2:Inv X pins σ (upd H s.heap.objs.size (.tup [.int i,x])) { s with heap:=h2,toks:=s.toks+1 }:=by
   refine Inv.turnedN (s:={ s with heap:=s.heap.push { cls:=.type "tuple",data:=.seq #[.int i s.toks,u1] },toks:=s.toks+1 }) (t':=s.toks+1) (h':=h2) (ch:=[e,p]) I1 (fun c o hcn z=>?_) hf'
   simp only[c7h,c7p,or_false,not_or]at hcn
   obtain⟨n1,n2⟩:=hcn
   refine b2.extBut c o n1 ?_
   have z':(s.heap.push { cls:=.type "tuple",data:=.seq #[.int i s.toks,u1] }).get? c=some o:=z
   by_cases hcs:c=s.heap.objs.size
   ·subst hcs
    rw[c6W _ rfl]at z'
    cases z'
    exact a3
   ·rw[c9V _ _ _ hcs]at z'
    exact kk c o n1 n2 z'
  refine⟨.ref s.heap.objs.size,_,I2,rfl,⟨_,x,I.hok.fresh (c7b _),rfl,rfl,fun zs hz=>by rw[I.sqk_inj hz q1];exact hx⟩,?_,fun c hc=>(hf' c hc).1⟩
  have ec:((i+1:Nat):Int)=(i:Int)+1:=by omega
  exact⟨⟨u1,by rw[ec];exact b1⟩,a2.at fun o z=>b2.extBut p o (Ne.symm hne) z⟩
 done:=by
  intro X hP hw hK hc i pins s σ H E I hf st hg
  subst hP hw hK
  obtain⟨⟨old,ie⟩,g⟩:=st
  obtain⟨xs,q1,hx⟩:=hg
  obtain⟨is1,r1,m1⟩:=I.sqk q1
  have e1:=r1.length
  refine b7W (I.ok.hd hc) ie g m1 (by simp;omega) fun h' kk=>⟨rfl,?_⟩
  refine I.turnedN (t':=s.toks) (ch:=[e,p]) (fun c o hcn z=>?_) hf
  simp only[c7h,c7p,or_false,not_or]at hcn
  exact kk c o hcn.2 z
 self:=fun _ _ _ _ _ st h=>let ⟨⟨_,ie⟩,_⟩:=st;wpAny_pyIter_enum ie h
def c2y(K:c6M)(ta:TA):TI:=fun σ H R=>ta σ H fun vs H1=>∃ k l,vs=[.ref l]∧(∃ xs,SqK K k H1 l xs)∧R (Ite K k l) H1
theorem b7f{X:Cx}{elts:List Expr}{kx:Nat}{tp:Pos}{a:Expr}{ta:TA}{p pos:Pos}(hg:Gl X "enumerate")(hm:X.mg "enumerate" = none)(ha:PA X [a] ta)(hs:starEach [a] X.env=[(false,eval a X.env)]:=by rfl) :
  PI X (.Tuple elts kx tp) (.Call (.Name "enumerate" p) [a] [] pos) (c2y X.K ta):=by
 intro pins s σ H R I h
 refine Call_ (Q0 I hg hm PyProof.Rows.boot_enumerate (PyProof.Rows.callWith_type1 (thn (ha pos pins s σ H _ I h) fun us s1 ⟨vs,H1,I1,r1,q1⟩=>?_) hs rfl))
 obtain⟨k,l,e,⟨xs,q2⟩,q⟩:=q1
 subst e
 cases r1 with
 | cons r rr =>
  cases rr
  cases r
  obtain⟨is1,_,m1⟩:=I1.sqk q2
  refine b5v m1 fun h' a1 a2 a3 kk=>?_
  refine wpAny_pyIter_enum (s:={ s1 with heap:=h' }) a1 ?_
  refine⟨s1.heap.objs.size+1,_,_,_,H1,rfl,I1.kept (t':=s1.toks) kk,b1B (Nat.succ_ne_self _),⟨⟨_,a1⟩,a2⟩,fun c hc=>?_,q⟩
  have hge:s1.heap.objs.size≤c:=by
   simp only[c7h,c7p,or_false]at hc
   rcases hc with rfl|rfl
   ·exact c8s _ _
   ·exact c7b _
  exact I1.fpOk hge (I1.hok.fresh hge)
end L2
namespace L2
open PySem
theorem PE.imp{X:Cx}{x:Expr}{t t':TE}(h:PE X x t)(i:∀ σ H Q,t' σ H Q→t σ H Q):PE X x t':=fun pins s σ H Q I q=>h pins s σ H Q I (i σ H Q q)
theorem PT.imp{X:Cx}{x:Expr}{t t':TT}(h:PT X x t)(i:∀ σ H Q,t' σ H Q→t σ H Q):PT X x t':=fun pins s σ H Q I q=>h pins s σ H Q I (i σ H Q q)
theorem PW.imp{X:Cx}{x:Expr}{t t':TT}(h:PW X x t)(i:∀ σ H Q,t' σ H Q→t σ H Q):PW X x t':=fun wh pins s σ H Q I q=>h wh pins s σ H Q I (i σ H Q q)
theorem PA.imp{X:Cx}{x:List Expr}{t t':TA}(h:PA X x t)(i:∀ σ H Q,t' σ H Q→t σ H Q):PA X x t':=fun pos pins s σ H Q I q=>h pos pins s σ H Q I (i σ H Q q)
theorem PS.imp{X:Cx}{x:Stmt}{t t':TS}(h:PS X x t)(i:∀ E σ H,t' E σ H→t E σ H):PS X x t':=fun pins s σ H D I q=>h pins s σ H D I (i D σ H q)
theorem PSs.imp{X:Cx}{x:List Stmt}{t t':TS}(h:PSs X x t)(i:∀ E σ H,t' E σ H→t E σ H):PSs X x t':=fun pins s σ H D I q=>h pins s σ H D I (i D σ H q)
theorem OpR.imp{X:Cx}{f:Value→Value→Sem Value}{r r':R2}(h:OpR X f r)(i:∀ x y H Q,r' x y H Q→r x y H Q):OpR X f r':=fun pins s σ H x y v u Q I rx ry q=>h pins s σ H x y v u Q I rx ry (i x y H Q q)
theorem IxR.imp{X:Cx}{r r':R2}(h:IxR X r)(i:∀ x y H Q,r' x y H Q→r x y H Q):IxR X r':=fun va sl pins s σ H x y v u Q I rx ry q=>h va sl pins s σ H x y v u Q I rx ry (i x y H Q q)
theorem PG.imp{X:Cx}{x:Expr}{t t':TG}(h:PG X x t)(i:∀ v σ H Q,t' v σ H Q→t v σ H Q):PG X x t':=fun pins s σ H v u Q I r q=>h pins s σ H v u Q I r (i v σ H Q q)
theorem PGs.imp{X:Cx}{x:List Expr}{t t':TGs}(h:PGs X x t)(i:∀ v σ H Q,t' v σ H Q→t v σ H Q):PGs X x t':=fun pins s σ H v u Q I r q=>h pins s σ H v u Q I r (i v σ H Q q)
end L2
namespace DL
open PySem PySem.Spec L2
open PyProof.Rows hiding St
inductive D where
 | non|bl (b:Bool)|int (i:Int)|str (x:Str)|ref (a:Addr)|tup (ds:List D)|vl (ds:List D)|ty (n:String)|dic
def KL(K:c6M)(a:Addr)(xs:List V):Prop:=∀ H:Hp,SqL K H a xs
mutual
inductive Has (K:c6M) (H:Hp):V→D→Prop
 | non:Has K H .non .non
 | bl (b:Bool):Has K H (.bl b) (.bl b)
 | int (i:Int):Has K H (.int i) (.int i)
 | str (x:Str):Has K H (.str x) (.str x)
 | ref (a:Addr):Has K H (.ref a) (.ref a)
 | ty (n:String):Has K H (.ty n) (.ty n)
 | tup {a:Addr} {xs:List V} {ds:List D}:SqT K H a xs→HasL K H xs ds→Has K H (.ref a) (.tup ds)
 | vl {a:Addr} {xs:List V} {ds:List D}:((∃ o,H a=some (.frz o (.lst xs)))∨KL K a xs)→HasL K H xs ds→Has K H (.ref a) (.vl ds)
 | dic {a:Addr}:(∃ o:Obj,H a=some (.frz o (.own 0))∧o.cls = .type "dict")→Has K H (.ref a) .dic
inductive HasL (K:c6M) (H:Hp):List V→List D→Prop
 | nil:HasL K H [] []
 | cons {v:V} {d:D} {vs:List V} {ds:List D}:Has K H v d→HasL K H vs ds→HasL K H (v :: vs) (d :: ds)
end
structure KT0(H H':Hp):Prop where
 tp:∀ a xs,Rd H a (.tup xs)→Rd H' a (.tup xs)
 fz:∀ a o u,H a=some (.frz o u)→H' a=some (.frz o u)
structure KT(H H':Hp):Prop extends KT0 H H' where
 ex:∀ a φ,H a=some (.ext φ)→H' a=some (.ext φ)
theorem KT.refl(H:Hp):KT H H:=⟨⟨fun _ _ h=>h,fun _ _ _ h=>h⟩,fun _ _ h=>h⟩
theorem KT.trans{H H1 H2:Hp}(a:KT H H1)(b:KT H1 H2):KT H H2:=⟨⟨fun p xs h=>b.tp p xs (a.tp p xs h),fun p o xs h=>b.fz p o xs (a.fz p o xs h)⟩,fun p φ h=>b.ex p φ (a.ex p φ h)⟩
theorem KT0.sq{K:c6M}{H H':Hp}(k:KT0 H H'){a:Addr}{xs:List V}(h:SqT K H a xs):SqT K H' a xs:=h.elim (fun z=>.inl (k.tp a xs z)) .inr
theorem KT.sq{K:c6M}{H H':Hp}(k:KT H H'){a:Addr}{xs:List V}(h:SqT K H a xs):SqT K H' a xs:=k.toKT0.sq h
theorem KT0.at{H:Hp}{p:Addr}{o:HO}(h1:∀ xs,¬ Rd H p (.tup xs))(h2:∀ q u,H p≠some (.frz q u)):KT0 H (upd H p o) where
 tp:=fun a xs r=>by
  have hn:a≠p:=by intro e;subst e;exact h1 xs r
  rcases r with r|⟨q,r⟩
  ·exact .inl (by rw[j6 hn];exact r)
  ·exact .inr ⟨q,by rw[j6 hn];exact r⟩
 fz:=fun a q xs r=>by
  have hn:a≠p:=by intro e;subst e;exact h2 q xs r
  rw[j6 hn];exact r
theorem KT.at{H:Hp}{p:Addr}{o:HO}(h1:∀ xs,¬ Rd H p (.tup xs))(h2:∀ q u,H p≠some (.frz q u))(h3:∀ φ,H p≠some (.ext φ)):KT H (upd H p o):=⟨KT0.at h1 h2,fun a φ r=>by
  have hn:a≠p:=by intro e;subst e;exact h3 φ r
  rw[j6 hn];exact r⟩
theorem KT.alloc{H:Hp}{p:Addr}{o:HO}(h:H p=none):KT H (upd H p o):=KT.at (fun xs r=>by rcases r with r|⟨_,r⟩<;>(rw[h]at r;cases r)) (fun q xs r=>by rw[h]at r;cases r) fun φ r=>by rw[h]at r;cases r
theorem KT.any{H:Hp}{p:Addr}{xs:List V}{o:HO}(h:H p=some (.lst xs)):KT H (upd H p o):=KT.at (fun xs r=>by rcases r with r|⟨_,r⟩<;>(rw[h]at r;cases r)) (fun q xs r=>by rw[h]at r;cases r) fun φ r=>by rw[h]at r;cases r
theorem KT.write{H:Hp}{p:Addr}{xs ys:List V}(h:H p=some (.lst xs)):KT H (upd H p (.lst ys)):=KT.any h
theorem KT0.ext{H:Hp}{p:Addr}{φ:Heap→Prop}{o:HO}(h:H p=some (.ext φ)):KT0 H (upd H p o):=KT0.at (fun xs r=>by rcases r with r|⟨_,r⟩<;>(rw[h]at r;cases r)) fun q xs r=>by rw[h]at r;cases r
theorem KT.new{H H':Hp}{p:Addr}{o:HO}(k:KT H H')(h:H p=none):KT H (upd H' p o) where
 tp:=fun a xs r=>by
  have hn:a≠p:=by intro e;subst e;rcases r with r|⟨_,r⟩<;>(rw[h]at r;cases r)
  rcases k.tp a xs r with r|⟨q,r⟩
  ·exact .inl (by rw[j6 hn];exact r)
  ·exact .inr ⟨q,by rw[j6 hn];exact r⟩
 fz:=fun a q xs r=>by
  have hn:a≠p:=by intro e;subst e;rw[h]at r;cases r
  rw[j6 hn];exact k.fz a q xs r
 ex:=fun a φ r=>by
  have hn:a≠p:=by intro e;subst e;rw[h]at r;cases r
  rw[j6 hn];exact k.ex a φ r
mutual
theorem Has.mono0{K:c6M}{H H':Hp}(k:KT0 H H'):∀{v:V} {d:D},Has K H v d→Has K H' v d
 | _,_,.non=>.non
 | _,_,.bl b=>.bl b
 | _,_,.int i=>.int i
 | _,_,.str x=>.str x
 | _,_,.ref a=>.ref a
 | _,_,.ty n=>.ty n
 | _,_,.tup s l=>.tup (k.sq s) (HasL.mono0 k l)
 | _,_,.vl h l=>.vl (h.elim (fun⟨o,e⟩=>.inl ⟨o,k.fz _ _ _ e⟩) .inr) (HasL.mono0 k l)
 | _,_,.dic h=>.dic (let ⟨o,e,c⟩:=h;⟨o,k.fz _ _ _ e,c⟩)
theorem HasL.mono0{K:c6M}{H H':Hp}(k:KT0 H H'):∀{v:List V} {d:List D},HasL K H v d→HasL K H' v d
 | _,_,.nil=>.nil
 | _,_,.cons a b=>.cons (Has.mono0 k a) (HasL.mono0 k b)
end
theorem Has.mono{K:c6M}{H H':Hp}(k:KT H H'){v:V}{d:D}(h:Has K H v d):Has K H' v d:=h.mono0 k.toKT0
theorem HasL.mono{K:c6M}{H H':Hp}(k:KT H H'){v:List V}{d:List D}(h:HasL K H v d):HasL K H' v d:=h.mono0 k.toKT0
section
variable {K:c6M} {H H':Hp}
theorem HasL.length:∀{vs:List V} {ds:List D},HasL K H vs ds→vs.length=ds.length
 | _,_,.nil=>rfl
 | _,_,.cons _ b=>congrArg Nat.succ (HasL.length b)
theorem HasL.get:∀{vs:List V} {ds:List D} {i:Nat} {d:D},HasL K H vs ds→ds[i]? = some d→∃ v,vs[i]? = some v∧Has K H v d
 | _,_,_,_,.nil,e=>by simp at e
 | _,_,0,_,.cons a _,e=>by simp at e;subst e;exact⟨_,rfl,a⟩
 | _,_,i+1,d,.cons _ b,e=>by
  obtain⟨v,h1,h2⟩:=HasL.get (i:=i) (d:=d) b (by simpa using e)
  exact⟨v,by simpa using h1,h2⟩
theorem HasL.getV:∀{vs:List V} {ds:List D} {i:Nat} {v:V},HasL K H vs ds→vs[i]? = some v→∃ d,ds[i]? = some d∧Has K H v d
 | _,_,_,_,.nil,e=>by simp at e
 | _,_,0,_,.cons a _,e=>by simp at e;subst e;exact⟨_,rfl,a⟩
 | _,_,i+1,d,.cons _ b,e=>by
  obtain⟨v,h1,h2⟩:=HasL.getV (i:=i) (v:=d) b (by simpa using e)
  exact⟨v,by simpa using h1,h2⟩
theorem HasL.set{v:V}{d:D}(r:Has K H v d):∀{vs:List V} {ds:List D} (i:Nat),HasL K H vs ds→HasL K H (vs.set i v) (ds.set i d)
 | _,_,_,.nil=>.nil
 | _,_,0,.cons _ t=>.cons r t
 | _,_,i+1,.cons q t=>.cons q (HasL.set r i t)
theorem HasL.append:∀{xs ys:List V} {us ws:List D},HasL K H xs us→HasL K H ys ws→HasL K H (xs++ys) (us++ws)
 | _,_,_,_,.nil,s=>s
 | _,_,_,_,.cons r t,s=>.cons r (HasL.append t s)
theorem HasL.take:∀{xs:List V} {us:List D} (n:Nat),HasL K H xs us→HasL K H (xs.take n) (us.take n)
 | _,_,0,_=>.nil
 | _,_,_+1,.nil=>.nil
 | _,_,n+1,.cons r t=>.cons r (HasL.take n t)
theorem HasL.drop:∀{xs:List V} {us:List D} (n:Nat),HasL K H xs us→HasL K H (xs.drop n) (us.drop n)
 | _,_,0,r=>r
 | _,_,_+1,.nil=>.nil
 | _,_,n+1,.cons _ t=>HasL.drop n t
theorem HasL.ints:∀(ns:List Int),HasL K H (ns.map V.int) (ns.map D.int)
 | []=>.nil
 | n :: r=>.cons (.int n) (HasL.ints r)
end
inductive MO where
 | lst (ds:List D)
abbrev Mem:=Addr→Option MO
def C1(M:Mem)(a:Addr)(o:MO):Mem:=fun b=>if b=a then some o else M b
theorem i7{M:Mem}{a:Addr}{o:MO}:C1 M a o a=some o:=by unfold C1;rw[if_pos rfl]
theorem F9{M:Mem}{a b:Addr}{o:MO}(h:b≠a):C1 M a o b=M b:=by unfold C1;rw[if_neg h]
theorem a3i{M:Mem}{a:Addr}{o u:MO}:C1 (C1 M a o) a u=C1 M a u:=by
 funext b;unfold C1;by_cases h:b=a<;>simp[h]
def MOk(K:c6M)(H:Hp)(a:Addr):MO→Prop
 | .lst ds=>∃ xs,H a=some (.lst xs)∧HasL K H xs ds
def u7(K:c6M)(H:Hp)(M:Mem):Prop:=∀ a o,M a=some o→MOk K H a o
section
variable {K:c6M} {H H':Hp} {M:Mem}
theorem u7.fresh(h:u7 K H M){p:Addr}(e:H p=none):M p=none:=by
 cases q:M p with
 | none=>rfl
 | some o =>
  cases o with
  | lst ds=>obtain⟨xs,z,_⟩:=h p _ q;rw[e]at z;cases z
theorem u7.alloc(h:u7 K H M){p:Addr}{u:HO}(e:H p=none):u7 K (upd H p u) M:=fun a o m=>by
 have k:KT H (upd H p u):=KT.alloc e
 cases o with
 | lst ds =>
  obtain⟨xs,z,l⟩:=h a _ m
  have hn:a≠p:=J1 z e
  exact⟨xs,by rw[j6 hn];exact z,l.mono k⟩
theorem u7.new(h:u7 K H M){p:Addr}{xs:List V}{ds:List D}(e:H p=none)(l:HasL K H xs ds):u7 K (upd H p (.lst xs)) (C1 M p (.lst ds)):=fun a o m=>by
 by_cases q:a=p
 ·subst q
  rw[i7]at m;cases m
  exact⟨xs,j7,l.mono (KT.alloc e)⟩
 ·rw[F9 q]at m
  exact h.alloc e a o m
theorem u7.write(h:u7 K H M){p:Addr}{xs ys:List V}{ds:List D}(e:H p=some (.lst xs))(l:HasL K H ys ds):u7 K (upd H p (.lst ys)) (C1 M p (.lst ds)):=fun a o m=>by
 have k:KT H (upd H p (.lst ys)):=KT.write e
 by_cases q:a=p
 ·subst q
  rw[i7]at m;cases m
  exact⟨ys,j7,l.mono k⟩
 ·rw[F9 q]at m
  cases o with
  | lst es =>
   obtain⟨zs,z,l⟩:=h a _ m
   exact⟨zs,by rw[j6 q];exact z,l.mono k⟩
theorem u7.lst(h:u7 K H M){a:Addr}{ds:List D}(m:M a=some (.lst ds)):∃ xs,H a=some (.lst xs)∧HasL K H xs ds:=h a _ m
end
abbrev Ev:=List (Option D)
structure B2(K:c6M)(H:Hp)(σ:St)(e:Ev):Prop where
 len:σ.length=e.length
 has:∀(i:Nat) (d:D),e[i]? = some (some d)→∃ v,σ[i]? = some (some v)∧Has K H v d
section
variable {K:c6M} {H H':Hp} {σ:St} {e:Ev}
theorem B2.mono(k:KT H H')(h:B2 K H σ e):B2 K H' σ e:=⟨h.len,fun i d z=>let ⟨v,a,b⟩:=h.has i d z;⟨v,a,b.mono k⟩⟩
theorem B2.set(h:B2 K H σ e){v:V}{d:D}(r:Has K H v d)(i:Nat):B2 K H (σ.set i (some v)) (e.set i (some d)):=by
 refine⟨by simp[h.len],fun j x z=>?_⟩
 rw[c9X]at z ⊢
 by_cases q:i=j
 ·subst q
  rw[if_pos rfl]at z ⊢
  by_cases l:i<e.length
  ·rw[if_pos l]at z
   rw[if_pos (by rw[h.len];exact l)]
   cases z
   exact⟨v,rfl,r⟩
  ·rw[if_neg l]at z;cases z
 ·rw[if_neg q]at z ⊢
  exact h.has j x z
end
def a0X(N:List Str)(ds:List D):Ev:=ds.map some++c8f (N.length - ds.length) none
theorem B2.start0{K:c6M}{H:Hp}{N:List Str}{vs:List V}{ds:List D}(h:HasL K H vs ds):B2 K H (L2.start N vs) (a0X N ds):=by
 have hl:=h.length
 refine⟨by simp[L2.start,a0X,hl],fun i d z=>?_⟩
 unfold a0X at z
 unfold L2.start
 rw[c8N]at z ⊢
 simp only[c6Q]at z ⊢
 rw[hl]
 by_cases q:i<ds.length
 ·rw[if_pos q]at z ⊢
  rw[c6Y]at z ⊢
  cases e:ds[i]? with
  | none=>rw[e]at z;cases z
  | some x =>
   rw[e]at z
   have z':x=d:=by simpa using z
   subst z'
   obtain⟨v,a,b⟩:=h.get e
   exact⟨v,by rw[a];rfl,b⟩
 ·rw[if_neg q]at z
  rw[c70]at z
  split at z<;>cases z
abbrev DK:=D→Mem→Prop
abbrev DTE:=Ev→Mem→DK→Prop
abbrev DTT:=Ev→Mem→(Bool→Mem→Prop)→Prop
abbrev DTA:=Ev→Mem→(List D→Mem→Prop)→Prop
structure a1G where
 nx:Ev→Mem→Prop
 rt:DK
 bk:Ev→Mem→Prop:=fun _ _=>False
 ct:Ev→Mem→Prop:=fun _ _=>False
abbrev DTS:=a1G→Ev→Mem→Prop
def a4b(K:c6M)(H:Hp)(R:DK)(Q:VK):Prop:=∀ d M',R d M'→∀ v H',KT H H'→u7 K H' M'→Has K H' v d→Q v H'
def b5J(K:c6M)(H:Hp)(R:Bool→Mem→Prop)(Q:Bool→Hp→Prop):Prop:=∀ b M',R b M'→∀ H',KT H H'→u7 K H' M'→Q b H'
def b79(K:c6M)(H:Hp)(R:List D→Mem→Prop)(Q:List V→Hp→Prop):Prop:=∀ ds M',R ds M'→∀ vs H',KT H H'→u7 K H' M'→HasL K H' vs ds→Q vs H'
def a8S(K:c6M)(H:Hp)(R:Ev→Mem→Prop)(Q:St→Hp→Prop):Prop:=∀ e M',R e M'→∀ σ H',KT H H'→u7 K H' M'→B2 K H' σ e→Q σ H'
structure Fit(K:c6M)(H:Hp)(F:a1G)(E:a8U):Prop where
 nx:a8S K H F.nx E.nx
 rt:a4b K H F.rt E.rt
 bk:a8S K H F.bk E.bk
 ct:a8S K H F.ct E.ct
section
variable {K:c6M} {H H':Hp}
theorem a4b.mono{R:DK}{Q:VK}(h:a4b K H R Q)(k:KT H H'):a4b K H' R Q:=fun d M r v H2 k2 a b=>h d M r v H2 (k.trans k2) a b
theorem b5J.mono{R:Bool→Mem→Prop}{Q:Bool→Hp→Prop}(h:b5J K H R Q)(k:KT H H'):b5J K H' R Q:=fun d M r H2 k2 a=>h d M r H2 (k.trans k2) a
theorem b79.mono{R:List D→Mem→Prop}{Q:List V→Hp→Prop}(h:b79 K H R Q)(k:KT H H'):b79 K H' R Q:=fun d M r v H2 k2 a b=>h d M r v H2 (k.trans k2) a b
theorem a8S.mono{R:Ev→Mem→Prop}{Q:St→Hp→Prop}(h:a8S K H R Q)(k:KT H H'):a8S K H' R Q:=fun d M r v H2 k2 a b=>h d M r v H2 (k.trans k2) a b
theorem Fit.mono{F:a1G}{E:a8U}(h:Fit K H F E)(k:KT H H'):Fit K H' F E:=⟨h.nx.mono k,h.rt.mono k,h.bk.mono k,h.ct.mono k⟩
end
def up(K:c6M)(t:DTE):TE:=fun σ H Q=>∃ e M R,B2 K H σ e∧u7 K H M∧t e M R∧a4b K H R Q
def upT(K:c6M)(t:DTT):TT:=fun σ H Q=>∃ e M R,B2 K H σ e∧u7 K H M∧t e M R∧b5J K H R Q
def upA(K:c6M)(t:DTA):TA:=fun σ H Q=>∃ e M R,B2 K H σ e∧u7 K H M∧t e M R∧b79 K H R Q
def upS(K:c6M)(t:DTS):TS:=fun E σ H=>∃ e M F,B2 K H σ e∧u7 K H M∧t F e M∧Fit K H F E
abbrev DPE(X:Cx)(x:Expr)(t:DTE):Prop:=PE X x (up X.K t)
abbrev DPT(X:Cx)(x:Expr)(t:DTT):Prop:=PT X x (upT X.K t)
abbrev DPW(X:Cx)(x:Expr)(t:DTT):Prop:=PW X x (upT X.K t)
abbrev DPA(X:Cx)(x:List Expr)(t:DTA):Prop:=PA X x (upA X.K t)
abbrev DPS(X:Cx)(x:Stmt)(t:DTS):Prop:=PS X x (upS X.K t)
abbrev c3Y(X:Cx)(x:List Stmt)(t:DTS):Prop:=PSs X x (upS X.K t)
structure JE(X:Cx)(x:Expr)(t:DTE):Prop where
 out:DPE X x t
structure JT(X:Cx)(x:Expr)(t:DTT):Prop where
 out:DPT X x t
structure JW(X:Cx)(x:Expr)(t:DTT):Prop where
 out:DPW X x t
structure JA(X:Cx)(x:List Expr)(t:DTA):Prop where
 out:DPA X x t
structure JS(X:Cx)(x:Stmt)(t:DTS):Prop where
 out:DPS X x t
structure JSs(X:Cx)(x:List Stmt)(t:DTS):Prop where
 out:c3Y X x t
section
variable {X:Cx} {a b c:Expr} {ta tb tc:DTE} {pos:Pos}
def a0q(i:Nat):DTE:=fun e M R=>∃ d,e[i]? = some (some d)∧R d M
def dC(d:D):DTE:=fun _ M R=>R d M
theorem a8(i:Nat){x:Str}{pos:Pos}(hN:X.N[i]? = some x:=by rfl)(hv:Vis X.env.scope x:=by first|exact Or.inl rfl|exact Or.inr (Or.inl rfl)|exact Or.inr (Or.inr rfl))(hd:(x == ("__debug__" : Str))=false:=by decide)
  (hcd:(x == ("__classdict__" : Str))=false:=by decide):JE X (.Name x pos) (a0q i):=⟨(b4c hN hv hd hcd).imp (by
  rintro σ H Q ⟨e,M,R,ok,am,⟨d,z,r⟩,f⟩
  obtain⟨v,h1,h2⟩:=ok.has i d z
  exact⟨v,h1,f d M r v H (KT.refl H) am h2⟩)⟩
theorem a0n{v:V}{d:D}(h:PE X a (tC v))(r:∀ H,Has X.K H v d):DPE X a (dC d) :=
 h.imp (by rintro σ H Q ⟨e,M,R,ok,am,z,f⟩;exact f d M z v H (KT.refl H) am (r H))
theorem d3{i j pos}:JE X (.Constant (.int i) j pos) (dC (.int i)):=⟨a0n c0f fun _=>.int i⟩
theorem B1{b j pos}:JE X (.Constant (.bool b) j pos) (dC (.bl b)):=⟨a0n c2f fun _=>.bl b⟩
theorem M9{j pos}:JE X (.Constant .none j pos) (dC .non):=⟨a0n c0e fun _=>.non⟩
theorem g8{x j pos}:JE X (.Constant (.str x) j pos) (dC (.str x)):=⟨a0n c0b fun _=>.str x⟩
def c3g(K:c6M)(v:V)(d:D):Prop:=∀ H,Has K H v d
theorem c0Q{x:Str}{v:V}{d:D}{u:Value}{pos:Pos}(hg:Gl X x)(hm:X.mg x=some u)(r:u0 v u)(hk:c3g X.K v d)(hd:(x == ("__debug__" : Str))=false:=by decide):DPE X (.Name x pos) (dC d) :=
 a0n (b7l hg hm r hd) hk
abbrev DR2:=D→D→Mem→DK→Prop
def upR(K:c6M)(g:DR2):R2:=fun x y H Q=>∃ dx dy M R,Has K H x dx∧Has K H y dy∧u7 K H M∧g dx dy M R∧a4b K H R Q
def DOp(X:Cx)(f:Value→Value→Sem Value)(g:DR2):Prop:=OpR X f (upR X.K g)
def dOp(g:DR2)(ta tb:DTE):DTE:=fun e M R=>ta e M fun x M1=>tb e M1 fun y M2=>g x y M2 R
theorem a5T{ta tb:DTE}{g:DR2}{σ:St}{H:Hp}{Q:VK}(h:up X.K (dOp g ta tb) σ H Q):tOp (upR X.K g) (up X.K ta) (up X.K tb) σ H Q:=by
 obtain⟨e,M,R,ok,am,t,f⟩:=h
 refine⟨e,M,_,ok,am,t,fun x M1 h1 v H1 k1 a1 r1=>?_⟩
 refine⟨e,M1,_,ok.mono k1,a1,h1,fun y M2 h2 u H2 k2 a2 r2=>?_⟩
 exact⟨x,y,M2,R,r1.mono k2,r2,a2,h2,f.mono (k1.trans k2)⟩
theorem f9{op:Operator}{g:DR2}(ho:DOp X (binaryOp op) g)(ha:JE X a ta)(hb:JE X b tb):JE X (.BinOp a op b pos) (dOp g ta tb):=⟨have ha:=ha.out;have hb:=hb.out;(b8V ho ha hb).imp fun _ _ _ h=>a5T h⟩
theorem c0B{op:CmpOp}{g:DR2}(ho:DOp X (compareOp op) g)(ha:JE X a ta)(hb:JE X b tb)(hm:behindInMarks op b=false):JE X (.Compare a [op] [b] pos) (dOp g ta tb):=⟨have ha:=ha.out;have hb:=hb.out;(b7n ho ha hb hm).imp fun _ _ _ h=>a5T h⟩
def b1m(t:DTE):DTT:=fun e M R=>t e M fun x M'=>∃ k,x = .bl k∧R k M'
theorem a7Q{K:c6M}{H:Hp}{R:Bool→Mem→Prop}{Q:Bool→Hp→Prop}(f:b5J K H R Q):a4b K H (fun x M'=>∃ k,x = .bl k∧R k M') (fun x H'=>∃ k,x = .bl k∧Q k H'):=by
 rintro d M' ⟨k,rfl,r⟩ v H' kt am h
 cases h
 exact⟨k,rfl,f k M' r H' kt am⟩
theorem b7I{op:CmpOp}{g:DR2}(ho:DOp X (compareOp op) g)(ha:JE X a ta)(hb:JE X b tb)(hm:behindInMarks op b=false):JT X (.Compare a [op] [b] pos) (b1m (dOp g ta tb)):=⟨have ha:=ha.out;have hb:=hb.out;(b6Z ho ha hb hm).imp (by rintro σ H Q ⟨e,M,R,ok,am,t,f⟩;exact a5T (Q:=fun x H'=>∃ k,x = .bl k∧Q k H') ⟨e,M,_,ok,am,t,a7Q f⟩)⟩
theorem p8{x:Expr}{t:DTE}(h:JE X x t)(he:∀ whole,isTrue x X.env whole=(do let v ← whole;standAt x.pos;holding [v] (truthy v)):=by intro _;rfl):JT X x (b1m t):=⟨have h:=h.out;(b9Z h he).imp (by rintro σ H Q ⟨e,M,R,ok,am,t,f⟩;exact⟨e,M,_,ok,am,t,a7Q f⟩)⟩
def fI(f:Int→Int→D):D→D→Option D
 | .int i,.int j=>some (f i j)
 | _,_=>none
def gF(f:D→D→Option D):DR2:=fun x y M R=>∃ z,f x y=some z∧R z M
def gI(C:Int→Int→Prop)(f:Int→Int→D):DR2:=fun x y M R=>∃ i j,x = .int i∧y = .int j∧C i j∧R (f i j) M
theorem a6Y{f:Int→Int→D}{x y z:D}(h:fI f x y=some z):∃ i j,x = .int i∧y = .int j∧z=f i j:=by
 cases x with
 | int i =>
  cases y with
  | int j=>exact⟨i,j,rfl,rfl,(Option.some.inj h).symm⟩
  | _=>cases h
 | _=>cases h
theorem b1i{f:Value→Value→Sem Value}{C:Int→Int→Prop}{g:Int→Int→V}{g':Int→Int→D}(h:OpR X f (rI C g))(hg:∀ i j H,Has X.K H (g i j) (g' i j)):DOp X f (gI C g') :=
 OpR.imp h (by
  rintro x y H Q ⟨dx,dy,M,R,hx,hy,am,⟨i,j,e1,e2,hc,r⟩,f⟩
  subst e1;subst e2
  cases hx;cases hy
  exact⟨i,j,rfl,rfl,hc,f _ M r _ H (KT.refl H) am (hg i j H)⟩)
theorem a38{f:Value→Value→Sem Value}{g:Int→Int→V}{g':Int→Int→D}(h:OpR X f (rI0 g))(hg:∀ i j H,Has X.K H (g i j) (g' i j)):DOp X f (gF (fI g')) :=
 OpR.imp h (by
  rintro x y H Q ⟨dx,dy,M,R,hx,hy,am,⟨z,e,r⟩,f⟩
  obtain⟨i,j,e1,e2,e3⟩:=a6Y e
  subst e1;subst e2;subst e3
  cases hx;cases hy
  exact⟨i,j,rfl,rfl,f _ M r _ H (KT.refl H) am (hg i j H)⟩)
theorem F1:DOp X (binaryOp .Add) (gF (fI fun i j=>.int (i+j))):=a38 c0l fun _ _ _=>.int _
theorem X7:DOp X (binaryOp .Sub) (gF (fI fun i j=>.int (i - j))):=a38 c0i fun _ _ _=>.int _
theorem a0T:DOp X (compareOp .Lt) (gF (fI fun i j=>.bl (decide (i<j)))):=a38 c2i fun _ _ _=>.bl _
theorem c3H:DOp X (compareOp .LtE) (gF (fI fun i j=>.bl (decide (i≤j)))):=a38 c2j fun _ _ _=>.bl _
theorem a4J:DOp X (compareOp .Gt) (gF (fI fun i j=>.bl (decide (j<i)))):=a38 c2k fun _ _ _=>.bl _
theorem a3V:DOp X (binaryOp .Mod) (gI (fun _ j=>0<j) fun i j=>.int (i % j)):=b1i c0k fun _ _ _=>.int _
theorem a0u:DOp X (binaryOp .Pow) (gI a8V fun i j=>.int (i ^ j.toNat)):=b1i c0j fun _ _ _=>.int _
def gU(f:Int→D):D→Mem→DK→Prop:=fun x M R=>∃ i,x = .int i∧R (f i) M
def dUn(g:D→Mem→DK→Prop)(ta:DTE):DTE:=fun e M R=>ta e M fun x M1=>g x M1 R
theorem A3(ha:JE X a ta):JE X (.UnaryOp .USub a pos) (dUn (gU fun i=>.int (-i)) ta):=⟨have ha:=ha.out;(c2b b9D ha).imp (by rintro σ H Q ⟨e,M,R,ok,am,t,f⟩;exact⟨e,M,_,ok,am,t,fun x M1 ⟨i,z,r⟩ v H1 k1 a1 r1=>by
  subst z;cases r1;exact⟨i,rfl,f _ M1 r _ H1 k1 a1 (.int _)⟩⟩)⟩
variable {tA tB':DTT} {E8:List Expr}
def c2V(t u:DTT):DTT:=fun e M R=>t e M fun c M1=>if c=true then u e M1 R else R false M1
def dOr(t u:DTT):DTT:=fun e M R=>t e M fun c M1=>if c=true then R true M1 else u e M1 R
def c2O(t:DTT):DTT:=fun e M R=>t e M fun c M1=>R (!c) M1
theorem a0j(ha:JT X a tA):JW X (.BoolOp .And [a] pos) tA:=⟨have ha:=ha.out;b6Y ha⟩
theorem C5(ha:JT X a tA):JW X (.BoolOp .Or [a] pos) tA:=⟨have ha:=ha.out;b9W ha⟩
theorem a12(ha:JT X a tA)(hb:JW X (.BoolOp .And (b :: E8) pos) tB'):JW X (.BoolOp .And (a :: b :: E8) pos) (c2V tA tB'):=⟨have ha:=ha.out;have hb:=hb.out;(b9X ha hb).imp (by rintro σ H Q ⟨e,M,R,ok,am,t,f⟩;exact⟨e,M,_,ok,am,t,fun k M1 h1 H1 k1 a1=>by
  cases k with
  | true=>exact⟨e,M1,R,ok.mono k1,a1,h1,f.mono k1⟩
  | false=>exact f false M1 h1 H1 k1 a1⟩)⟩
theorem D6(ha:JT X a tA)(hb:JW X (.BoolOp .Or (b :: E8) pos) tB'):JW X (.BoolOp .Or (a :: b :: E8) pos) (dOr tA tB'):=⟨have ha:=ha.out;have hb:=hb.out;(c1Y ha hb).imp (by rintro σ H Q ⟨e,M,R,ok,am,t,f⟩;exact⟨e,M,_,ok,am,t,fun k M1 h1 H1 k1 a1=>by
  cases k with
  | true=>exact f true M1 h1 H1 k1 a1
  | false=>exact⟨e,M1,R,ok.mono k1,a1,h1,f.mono k1⟩⟩)⟩
theorem A9(ha:JT X a tA):JT X (.UnaryOp .Not a pos) (c2O tA):=⟨have ha:=ha.out;(b90 ha).imp (by rintro σ H Q ⟨e,M,R,ok,am,t,f⟩;exact⟨e,M,_,ok,am,t,fun k M1 h1 H1 k1 a1=>f (!k) M1 h1 H1 k1 a1⟩)⟩
theorem C9{x:Expr}{t:DTT}(h:JW X x t):JT X x t:=⟨have h:=h.out;PW.pt h⟩
def b9g(ta tb:DTE):DTE:=fun e M R=>ta e M fun x M1=>∃ c,x = .bl c∧if c=true then tb e M1 R else R (.bl false) M1
def c2N(ta tb:DTE):DTE:=fun e M R=>ta e M fun x M1=>∃ c,x = .bl c∧if c=true then R (.bl true) M1 else tb e M1 R
def b9a(ta:DTE):DTE:=fun e M R=>ta e M fun x M1=>∃ c,x = .bl c∧R (.bl (!c)) M1
theorem v8{op}{t:DTE}(h:JE X a t):JE X (.BoolOp op [a] pos) t:=⟨have h:=h.out;c0c h⟩
theorem C8(ha:JE X a ta)(hb:JE X (.BoolOp .And (b :: E8) pos) tb):JE X (.BoolOp .And (a :: b :: E8) pos) (b9g ta tb):=⟨have ha:=ha.out;have hb:=hb.out;(c0h ha hb).imp (by rintro σ H Q ⟨e,M,R,ok,am,t,f⟩;exact⟨e,M,_,ok,am,t,fun x M1 ⟨k,z,h1⟩ v H1 k1 a1 r1=>by
  subst z;cases r1
  refine⟨k,rfl,?_⟩
  cases k with
  | true=>exact⟨e,M1,R,ok.mono k1,a1,h1,f.mono k1⟩
  | false=>exact f _ M1 h1 _ H1 k1 a1 (.bl _)⟩)⟩
theorem a0W(ha:JE X a ta)(hb:JE X (.BoolOp .Or (b :: E8) pos) tb):JE X (.BoolOp .Or (a :: b :: E8) pos) (c2N ta tb):=⟨have ha:=ha.out;have hb:=hb.out;(c2c ha hb).imp (by rintro σ H Q ⟨e,M,R,ok,am,t,f⟩;exact⟨e,M,_,ok,am,t,fun x M1 ⟨k,z,h1⟩ v H1 k1 a1 r1=>by
  subst z;cases r1
  refine⟨k,rfl,?_⟩
  cases k with
  | true=>exact f _ M1 h1 _ H1 k1 a1 (.bl _)
  | false=>exact⟨e,M1,R,ok.mono k1,a1,h1,f.mono k1⟩⟩)⟩
theorem U0(ha:JE X a ta):JE X (.UnaryOp .Not a pos) (b9a ta):=⟨have ha:=ha.out;(c0d ha).imp (by rintro σ H Q ⟨e,M,R,ok,am,t,f⟩;exact⟨e,M,_,ok,am,t,fun x M1 ⟨k,z,h1⟩ v H1 k1 a1 r1=>by
  subst z;cases r1
  exact⟨k,rfl,f _ M1 h1 _ H1 k1 a1 (.bl _)⟩⟩)⟩
def dIf(t:DTT)(ta tb:DTE):DTE:=fun e M R=>t e M fun c M1=>if c=true then ta e M1 R else tb e M1 R
theorem a1v(hc:JT X c tA)(ha:JE X a ta)(hb:JE X b tb):JE X (.IfExp c a b pos) (dIf tA ta tb):=⟨have hc:=hc.out;have ha:=ha.out;have hb:=hb.out;(b4f hc ha hb).imp (by rintro σ H Q ⟨e,M,R,ok,am,t,f⟩;exact⟨e,M,_,ok,am,t,fun k M1 h1 H1 k1 a1=>by
  cases k with
  | true=>exact⟨e,M1,R,ok.mono k1,a1,h1,f.mono k1⟩
  | false=>exact⟨e,M1,R,ok.mono k1,a1,h1,f.mono k1⟩⟩)⟩
def c2P:DTA:=fun _ M R=>R [] M
def b9e(ta:DTE)(tr:DTA):DTA:=fun e M R=>ta e M fun x M1=>tr e M1 fun xs M2=>R (x :: xs) M2
variable {es:List Expr} {tr:DTA}
theorem a9:JA X [] c2P:=⟨a9A.imp (by rintro σ H Q ⟨e,M,R,ok,am,t,f⟩;exact f [] M t [] H (KT.refl H) am .nil)⟩
theorem a7(ha:JE X a ta)(hr:JA X es tr)(hs:starEach (a :: es) X.env=(false,eval a X.env) :: starEach es X.env:=by rfl):JA X (a :: es) (b9e ta tr):=⟨have ha:=ha.out;have hr:=hr.out;(a6F ha hr hs).imp (by rintro σ H Q ⟨e,M,R,ok,am,t,f⟩;exact⟨e,M,_,ok,am,t,fun x M1 h1 v H1 k1 a1 r1 =>
  ⟨e,M1,_,ok.mono k1,a1,h1,fun xs M2 h2 vs H2 k2 a2 r2=>f _ M2 h2 _ H2 (k1.trans k2) a2 (.cons (r1.mono k2) r2)⟩⟩)⟩
def c2I(t:DTA):DTE:=fun e M R=>t e M fun ds M1=>ds.length≤sizeLine∧R (.tup ds) M1
def c2Q(t:DTA):DTE:=fun e M R=>t e M fun ds M1=>ds.length≤sizeLine∧∀ p,M1 p=none→R (.ref p) (C1 M1 p (.lst ds))
theorem f6{x1}(h:JA X es tr):JE X (.Tuple es x1 pos) (c2I tr):=⟨have h:=h.out;(c0a h).imp (by rintro σ H Q ⟨e,M,R,ok,am,t,f⟩;exact⟨e,M,_,ok,am,t,fun ds M1 ⟨hz,h1⟩ vs H1 k1 a1 r1=>by
  refine⟨by rw[r1.length];exact hz,fun p hp=>?_⟩
  have k2:KT H1 (upd H1 p (.tup vs)):=KT.alloc hp
  exact f _ M1 h1 _ _ (k1.trans k2) (a1.alloc hp) (.tup (SqT.of j7) (r1.mono k2))⟩)⟩
theorem a11(h:JA X es tr):JE X (.List es pos) (c2Q tr):=⟨have h:=h.out;(b4e h).imp (by rintro σ H Q ⟨e,M,R,ok,am,t,f⟩;exact⟨e,M,_,ok,am,t,fun ds M1 ⟨hz,h1⟩ vs H1 k1 a1 r1=>by
  refine⟨by rw[r1.length];exact hz,fun p hp=>?_⟩
  have k2:KT H1 (upd H1 p (.lst vs)):=KT.alloc hp
  exact f _ _ (h1 p (a1.fresh hp)) _ _ (k1.trans k2) (a1.new hp r1) (.ref p)⟩)⟩
theorem HasL.at{K:c6M}{H:Hp}{vs:List V}{ds:List D}(h:HasL K H vs ds){i:Int}{z:D}(e:atI ds i=some z):∃ v,atI vs i=some v∧Has K H v z:=by
 unfold atI at e ⊢
 rw[h.length]
 cases q:ixN ds.length i with
 | none=>rw[q]at e;cases e
 | some j =>
  rw[q]at e
  exact h.get e
def DIx(X:Cx)(g:DR2):Prop:=IxR X (upR X.K g)
theorem c2t{g:DR2}(hr:DIx X g)(ha:JE X a ta)(hb:JE X b tb)(hs:a7b b):JE X (.Subscript a b pos) (dOp g ta tb):=⟨have ha:=ha.out;have hb:=hb.out;(c2d hr ha hb hs).imp fun _ _ _ h=>a5T h⟩
abbrev DXK:=Value→Mem→Prop
abbrev DSp:=List D→Mem→DK→DXK→Prop
def c08(K:c6M)(H:Hp)(Y:DXK)(E:XK):Prop:=∀ c M',Y c M'→∀ o H',KT H H'→u7 K H' M'→E c o H'
def a7O(K:c6M)(sp:DSp):Sp:=fun vs H Q E=>∃ ds M R Y,HasL K H vs ds∧u7 K H M∧sp ds M R Y∧a4b K H R Q∧c08 K H Y E
def b1o(sp:DSp)(dds:List D)(Y:DXK)(t:DTA):DTE:=fun e M R=>t e M fun ds M1=>sp (ds++dds) M1 R Y
end
section
variable {X:Cx} {CX:CXT} {k:Nat} {f C:Addr} {fd:FuncData} {ps:List Str} {sp:DSp} {dvs:List V} {dds:List D} {ds:List Value} {E:XK} {Y:DXK} {x m:Str} {p pos apos:Pos} {e o:Expr} {es:List Expr} {t:DTA}
theorem c0R(F:V4 X.prog X.w X.K X.mg X.base CX k f fd ps (a7O X.K sp))(hr:K4 k X.A)(hg:Gl X x)(hm:X.mg x=some (.ref f))(hk:PySem.W.keepIn X.K (.ref f)=true)(hb:a4c X.K fd ps ds)(hd:p0 dvs ds)(hdd:∀ H,HasL X.K H dvs dds)(hx:a7c CX X E)(hY:∀ H,c08 X.K H Y E)
  (ha:DPA X (e :: es) t) (hdb:(x == ("__debug__" : Str))=false:=by decide) (he:starEach (e :: es) X.env=(false,eval e X.env) :: starEach es X.env:=by rfl) (hpl:(backTo pos (starEach es X.env)).any (·.1)=false:=by rfl) :
  DPE X (.Call (.Name x p) (e :: es) [] pos) (b1o sp dds Y t) :=
 (b7o F hr hg hm hk hb hd hx ha hdb he hpl).imp (by rintro σ H Q ⟨e,M,R,ok,am,t,f⟩;exact⟨e,M,_,ok,am,t,fun xs M1 h1 vs H1 k1 a1 r1 =>
  ⟨xs++dds,M1,R,Y,r1.append (hdd H1),a1,h1,f.mono k1,hY H1⟩⟩)
end
section
variable {X:Cx} {st:Stmt} {E8:List Stmt} {t u:DTS} {e:Expr} {te:DTE} {pos:Pos}
def b9b:DTS:=fun F e M=>F.nx e M
def c2K(t u:DTS):DTS:=fun F e M=>t { F with nx:=u F } e M
theorem f7:JSs X [] b9b:=⟨b69.imp (by rintro E σ H ⟨e,M,F,ok,am,t,f⟩;exact f.nx e M t σ H (KT.refl H) am ok)⟩
theorem d4(h1:JS X st t)(h2:JSs X E8 u):JSs X (st :: E8) (c2K t u):=⟨have h1:=h1.out;have h2:=h2.out;(a8b h1 h2).imp (by rintro E σ H ⟨e,M,F,ok,am,t,f⟩;exact⟨e,M,{ F with nx:=u F },ok,am,t,⟨fun e' M' h σ' H' k a o=>⟨e',M',F,o,a,h,f.mono k⟩,f.rt,f.bk,f.ct⟩⟩)⟩
theorem d5(h1:JS X st t):JSs X [st] t:=⟨have h1:=h1.out;b68 h1⟩
def b9d(te:DTE):DTS:=fun F e M=>te e M fun _ M1=>F.nx e M1
theorem D5(he:JE X e te)(hs:swapsWith e none pos.line X.env=pure false:=by rfl):JS X (.Expr e pos) (b9d te):=⟨have he:=he.out;(b7b he hs).imp (by rintro E σ H ⟨e,M,F,ok,am,t,f⟩;exact⟨e,M,_,ok,am,t,fun d M1 h1 v H1 k1 a1 r1=>f.nx e M1 h1 σ H1 k1 a1 (ok.mono k1)⟩)⟩
def c2L(te:DTE):DTS:=fun F e M=>te e M F.rt
theorem d7(he:JE X e te):JS X (.Return (some e) pos) (c2L te):=⟨have he:=he.out;(b92 he).imp (by rintro E σ H ⟨e,M,F,ok,am,t,f⟩;exact⟨e,M,_,ok,am,t,f.rt⟩)⟩
def c2R(c:DTT)(t u:DTS):DTS:=fun F e M=>c e M fun b M1=>if b=true then t F e M1 else u F e M1
theorem f8{c:Expr}{a b:List Stmt}{tc:DTT}(hc:JT X c tc)(ha:JSs X a t)(hb:JSs X b u):JS X (.If c a b pos) (c2R tc t u):=⟨have hc:=hc.out;have ha:=ha.out;have hb:=hb.out;(c1Z hc ha hb).imp (by rintro E σ H ⟨e,M,F,ok,am,t,f⟩;exact⟨e,M,_,ok,am,t,fun k M1 h1 H1 k1 a1=>by
  cases k with
  | true=>exact⟨e,M1,F,ok.mono k1,a1,h1,f.mono k1⟩
  | false=>exact⟨e,M1,F,ok.mono k1,a1,h1,f.mono k1⟩⟩)⟩
def b5j:DTS:=fun _ _ _=>False
theorem a5G:JS X st b5j:=⟨b3W.imp (by rintro E σ H ⟨_,_,_,_,_,t,_⟩;exact t)⟩
abbrev DTG:=D→Ev→Mem→(Ev→Mem→Prop)→Prop
abbrev Z0:=List D→Ev→Mem→(Ev→Mem→Prop)→Prop
def upG(K:c6M)(g:DTG):TG:=fun v σ H Q=>∃ d e M R,Has K H v d∧B2 K H σ e∧u7 K H M∧g d e M R∧a8S K H R Q
def c3n(K:c6M)(g:Z0):TGs:=fun vs σ H Q=>∃ ds e M R,HasL K H vs ds∧B2 K H σ e∧u7 K H M∧g ds e M R∧a8S K H R Q
abbrev DPG(X:Cx)(x:Expr)(g:DTG):Prop:=PG X x (upG X.K g)
abbrev c3Z(X:Cx)(x:List Expr)(g:Z0):Prop:=PGs X x (c3n X.K g)
structure JG(X:Cx)(x:Expr)(g:DTG):Prop where
 out:DPG X x g
structure JGs(X:Cx)(x:List Expr)(g:Z0):Prop where
 out:c3Z X x g
def a13(i:Nat):DTG:=fun d e M R=>R (e.set i (some d)) M
theorem b4F{i:Nat}{x:Str}(hN:X.N.Nodup)(hi:X.N[i]? = some x)(hx:Loc X.env.scope x)(hf:X.fn x=true∨X.env.scope.names.lookup x=some .local:=by first|exact .inl rfl|exact .inr rfl|assumption):JG X (.Name x pos) (a13 i):=⟨PG.imp (b7j hN hi hx hf) (by rintro v σ H Q ⟨d,e,M,R,r,ok,am,g,f⟩;exact f _ M g _ H (KT.refl H) am (ok.set r i))⟩
def b86:Z0:=fun ds e M R=>ds=[]∧R e M
def b5h(t:DTG)(u:Z0):Z0:=fun ds e M R=>∃ d r,ds=d :: r∧t d e M fun e' M'=>u r e' M' R
theorem h8:JGs X [] b86:=⟨PGs.imp b7h (by
 rintro v σ H Q ⟨ds,e,M,R,r,ok,am,⟨z,g⟩,f⟩
 subst z;cases r;exact⟨rfl,f e M g σ H (KT.refl H) am ok⟩)⟩
end
end DL
namespace DL
open PySem PySem.Spec L2
open PyProof.Rows hiding St
section
variable {X:Cx} {st:Stmt} {E8:List Stmt} {t u:DTS} {e:Expr} {te:DTE} {pos:Pos}
theorem d6{x:Expr}{xs:List Expr}{t:DTG}{u:Z0}(h1:JG X x t)(h2:JGs X xs u)
  (hs:(assignEach (x :: xs) X.env).map (·.2)=assign x X.env :: (assignEach xs X.env).map (·.2):=by rfl):JGs X (x :: xs) (b5h t u):=⟨have h1:=h1.out;have h2:=h2.out;PGs.imp (b4b h1 h2 hs) (by
  rintro vs σ H Q ⟨ds,e,M,R,r,ok,am,⟨d,dr,z,g⟩,f⟩
  subst z
  cases r with
  | cons r rr=>exact⟨_,_,rfl,d,e,M,_,r,ok,am,g,fun e1 M1 h1 σ1 H1 k1 a1 ok1=>⟨dr,e1,M1,R,rr.mono k1,ok1,a1,h1,f.mono k1⟩⟩)⟩
def a8E(n:Nat)(t:Z0):DTG:=fun d e M R=>∃ ds,d = .tup ds∧ds.length=n∧t ds e M R
theorem i8{xs:List Expr}{k:Nat}{t:Z0}{n:Nat}(hc:X.calm=true)(h:JGs X xs t)
  (hn:(assignEach xs X.env).length=n:=by rfl) (hst:(assignEach xs X.env).findIdx? (·.1)=none:=by rfl):JG X (.Tuple xs k pos) (a8E n t):=⟨have h:=h.out;PG.imp (b98 hc h hn hst) (by
  rintro v σ H Q ⟨d,e,M,R,r,ok,am,⟨ds,z,hl,g⟩,f⟩
  subst z
  cases r with
  | tup s l=>exact⟨_,_,rfl,s,by rw[l.length];exact hl,ds,e,M,R,l,ok,am,g,f⟩)⟩
abbrev b5L:=D→D→D→Mem→(Mem→Prop)→Prop
def c2A:b5L:=fun o i v M R=>∃ p ds k j,o = .ref p∧i = .int k∧M p=some (.lst ds)∧ixN ds.length k=some j∧R (C1 M p (.lst (ds.set j v)))
def b85(to ti:DTE)(t:b5L):DTG:=fun d e M R=>to e M fun o M1=>ti e M1 fun i M2=>t o i d M2 fun M3=>R e M3
theorem b05{o i:Expr}{to ti:DTE}(ho:JE X o to)(hi:JE X i ti)
  (ha:∀ v,assign (.Subscript o i pos) X.env v=(do
   let ov ← holding [v] (eval o X.env)
   let iv ← holding [v,ov] (eval i X.env)
   standAt pos
   holding [v,ov,iv] (setItem ov iv v)
   release [v,ov,iv] []):=by intro _;rfl):JG X (.Subscript o i pos) (b85 to ti c2A):=⟨have ho:=ho.out;have hi:=hi.out;PG.imp (b99 ho hi b3z ha) fun v σ H Q ⟨d,e,M,R,r,ok,am,g,f⟩ =>
  ⟨e,M,_,ok,am,g,fun x M1 h1 vo H1 k1 a1 r1=>⟨e,M1,_,ok.mono k1,a1,h1,fun y M2 ⟨p,ds,k,j,e1,e2,e3,e4,h2⟩ vi H2 k2 a2 r2=>by
   subst e1;subst e2
   cases r1;cases r2
   obtain⟨xs,hx,l⟩:=a2.lst e3
   have kt:KT H H2:=k1.trans k2
   have kw:KT H2 (upd H2 p (.lst (xs.set j v))):=KT.write hx
   exact⟨p,xs,k,j,rfl,rfl,hx,by rw[l.length];exact e4,f e _ h2 σ _ (kt.trans kw) (a2.write hx (l.set (r.mono kt) j)) ((ok.mono kt).mono kw)⟩⟩⟩⟩
def b5m(te:DTE)(g:DTG):DTS:=fun F e M=>te e M fun x M1=>g x e M1 F.nx
theorem p7{tg x:Expr}{tx:DTE}{g:DTG}(he:JE X x tx)(hg:JG X tg g)(hs:swapsWithSole [tg] x pos.line X.env=pure false:=by rfl)(hw:swappedStores [tg] x X.env=pure none:=by rfl)
  (h1:(assignEach [tg] X.env).map (·.2)=[assign tg X.env]:=by rfl):JS X (.Assign [tg] x pos) (b5m tx g):=⟨have he:=he.out;have hg:=hg.out;(b95 he hg hs hw h1).imp (by rintro E σ H ⟨e,M,F,ok,am,t,f⟩;exact⟨e,M,_,ok,am,t,fun d M1 h1 v H1 k1 a1 r1=>⟨d,e,M1,F.nx,r1,ok.mono k1,a1,h1,f.nx.mono k1⟩⟩)⟩
theorem b7H{i:Nat}{x:Str}{tx:DTE}{pos':Pos}(hN:X.N.Nodup)(hi:X.N[i]? = some x)(hx:Loc X.env.scope x)(he:JE X e tx)(hs:swapsWith e (some (.Name x pos')) pos.line X.env=pure false:=by rfl)(hf:X.fn x=true∨X.env.scope.names.lookup x=some .local:=by first|exact .inl rfl|exact .inr rfl|assumption):JS X (.Assign [.Name x pos'] e pos) (b5m tx (a13 i)):=⟨have he:=he.out;(b91 hN hi hx he hs hf).imp (by rintro E σ H ⟨e,M,F,ok,am,t,f⟩;exact⟨e,M,_,ok,am,t,fun d M1 h1 v H1 k1 a1 r1=>f.nx _ M1 h1 _ H1 k1 a1 ((ok.mono k1).set r1 i)⟩)⟩
def c2M(i j:Nat)(ta:DTA):DTS:=fun F e M=>ta e M fun ds M1=>∃ x y,ds=[x,y]∧F.nx ((e.set i (some x)).set j (some y)) M1
theorem b04{i j:Nat}{x y:Str}{a b:Expr}{ta:DTA}{px py pt:Pos}{kt k2 pt2}(hc:X.calm=true)(hN:X.N.Nodup)(hi:X.N[i]? = some x)(hj:X.N[j]? = some y)(hij:i≠j)
  (hx:X.env.scope.names.lookup x=some .local) (hy:X.env.scope.names.lookup y=some .local) (ha:JA X [a,b] ta)
  (hw:swappedStores [.Tuple [.Name x px,.Name y py] kt pt] (.Tuple [a,b] k2 pt2) X.env=pure (some [x,y]):=by rfl)
  (hs:swapsWithSole [.Tuple [.Name x px,.Name y py] kt pt] (.Tuple [a,b] k2 pt2) pos.line X.env=pure false:=by rfl):JS X (.Assign [.Tuple [.Name x px,.Name y py] kt pt] (.Tuple [a,b] k2 pt2) pos) (c2M i j ta):=⟨have ha:=ha.out;(b93 hc hN hi hj hij hx hy ha hw hs).imp (by rintro E σ H ⟨e,M,F,ok,am,t,f⟩;exact⟨e,M,_,ok,am,t,fun ds M1 ⟨x,y,z,h1⟩ vs H1 k1 a1 r1=>by
  subst z
  cases r1 with
  | cons r1 rr =>
   cases rr with
   | cons r2 rr =>
    cases rr
    exact⟨_,_,rfl,f.nx _ M1 h1 _ H1 k1 a1 (((ok.mono k1).set r1 i).set r2 j)⟩⟩)⟩
def b5i(c:DTT)(tb:DTS):DTS:=fun F e M=>∃ W:Nat→Ev→Mem→Prop,(∃ m,W m e M)∧∀ m e M,W m e M →
 c e M fun b M1=>if b=true then tb { F with nx:=fun e' M'=>∃ m',m'<m∧W m' e' M',ct:=fun e' M'=>∃ m',m'<m∧W m' e' M',bk:=F.nx } e M1 else F.nx e M1
theorem a1Z{c:Expr}{body:List Stmt}{tc:DTT}{tb:DTS}(hp:PassesOwn (model X.prog X.w) X.A X.env X.xe)(hc:JT X c tc)(hb:JSs X body tb):JS X (.While c body [] pos) (b5i tc tb):=⟨have hc:=hc.out;have hb:=hb.out;(b3V hp hc hb).imp (by
  rintro E σ H ⟨e,M,F,ok,am,⟨W,⟨m0,w0⟩,turn⟩,f⟩
  refine⟨fun m σ' H'=>∃ e' M',KT H H'∧B2 X.K H' σ' e'∧u7 X.K H' M'∧W m e' M',⟨m0,e,M,KT.refl H,ok,am,w0⟩,?_⟩
  rintro m σ1 H1 ⟨e1,M1,k1,ok1,a1,w1⟩
  refine⟨e1,M1,_,ok1,a1,turn m e1 M1 w1,fun b M2 h2 H2 k2 a2=>?_⟩
  cases b with
  | false=>exact f.nx e1 M2 h2 σ1 H2 (k1.trans k2) a2 (ok1.mono k2)
  | true =>
   refine⟨fun σ' H'=>∃ m',m'<m∧∃ e' M',KT H H'∧B2 X.K H' σ' e'∧u7 X.K H' M'∧W m' e' M',fun σ' H' h=>h,e1,M2,_,ok1.mono k2,a2,h2,?_⟩
   have kk:=k1.trans k2
   exact⟨fun e' M' ⟨m',l,w⟩ σ' H' k' a' o'=>⟨m',l,e',M',kk.trans k',o',a',w⟩,f.rt.mono kk,f.nx.mono kk,fun e' M' ⟨m',l,w⟩ σ' H' k' a' o'=>⟨m',l,e',M',kk.trans k',o',a',w⟩⟩)⟩
abbrev DTI:=Ev→Mem→(List D→(Mem→Prop)→Mem→Prop)→Prop
def c2T(ti:DTI)(g:DTG)(tb:DTS):DTS:=fun F e M=>ti e M fun ds stay M1=>∃ W:Nat→Ev→Mem→Prop,W 0 e M1∧(∀ i e M,i≤ds.length→W i e M→stay M) ∧
 (∀(i:Nat) (d:D) e M,ds[i]? = some d→W i e M→g d e M fun e2 M2=>tb { F with nx:=W (i+1),ct:=W (i+1),bk:=F.nx } e2 M2)∧∀ e M,W ds.length e M→F.nx e M
def T9(lo:Int)(n:Nat):List D:=(c7K n).map fun(i:Nat)=>D.int (lo+(i:Int))
theorem q9(lo:Int)(n:Nat):(T9 lo n).length=n:=by simp[T9]
theorem a3I{lo:Int}{n i:Nat}(h:i<n):(T9 lo n)[i]? = some (D.int (lo+(i:Int))):=by simp[T9,h]
theorem b1O{lo:Int}{n i:Nat}{d:D}(h:(T9 lo n)[i]? = some d):i<n∧d=D.int (lo+(i:Int)):=by
 have hl:i<n:=by
  have:=(c6P.mp h).1
  rw[q9]at this;exact this
 rw[a3I hl]at h
 exact⟨hl,(Option.some.inj h).symm⟩
def b84(ta:DTA):DTI:=fun e M R=>ta e M fun ds M1=>∃ j:Int,ds=[.int j]∧-(2 ^ 62)≤j∧j<2 ^ 62∧R (T9 0 j.toNat) (fun _=>True) M1
theorem b4U{K:c6M}{H H1 H2:Hp}{F:a1G}{E:a8U}{W:Nat→Ev→Mem→Prop}{g:DTG}{tb:DTS}{i:Nat}{x:V}{d:D}{σ2:St}{e2:Ev}{M2:Mem}(f:Fit K H F E)(k1:KT H H1)(k2:KT H1 H2)(ok2:B2 K H2 σ2 e2)(a2:u7 K H2 M2)(r:Has K H2 x d)
  (h:g d e2 M2 fun e3 M3=>tb { F with nx:=W (i+1),ct:=W (i+1),bk:=F.nx } e3 M3) :
  upG K g x σ2 H2 fun σ3 H3=>upS K tb { E with nx:=fun σ' H'=>∃ e' M',KT H1 H'∧B2 K H' σ' e'∧u7 K H' M'∧W (i+1) e' M',ct:=fun σ' H'=>∃ e' M',KT H1 H'∧B2 K H' σ' e'∧u7 K H' M'∧W (i+1) e' M',bk:=E.nx } σ3 H3:=by
 refine⟨d,e2,M2,_,r,ok2,a2,h,fun e3 M3 h3 σ3 H3 k3 a3 ok3=>⟨e3,M3,_,ok3,a3,h3,?_⟩⟩
 have kk:KT H H3:=k1.trans (k2.trans k3)
 exact⟨fun e' M' w σ' H' k' a' o'=>⟨e',M',k2.trans (k3.trans k'),o',a',w⟩,f.rt.mono kk,f.nx.mono kk,fun e' M' w σ' H' k' a' o'=>⟨e',M',k2.trans (k3.trans k'),o',a',w⟩⟩
variable {tg iter:Expr} {body:List Stmt} {ti:DTE} {ta:DTA} {g:DTG} {tb:DTS}
theorem Has.il{K:c6M}{H:Hp}{v:V}{ds:List D}(h:Has K H v (.vl ds)):∃ a xs,v = .ref a∧SqL K H a xs∧HasL K H xs ds:=by
 cases h with
 | vl h l=>exact⟨_,_,rfl,h.elim (fun⟨o,e⟩=>.inl (.inr ⟨o,e⟩)) (fun k=>k H),l⟩
end
section
variable {P:Program} {w:World} {K:c6M} {mg:Str→Option Value} {base:Heap}
end
section
variable {X:Cx} {x:Str} {p pos:Pos} {e:Expr} {es:List Expr} {t:DTA} {id T:String}
abbrev DRC:=List D→Mem→DK→Prop
def upC(K:c6M)(g:DRC):List V→Hp→VK→Prop:=fun xs H Q=>∃ ds M R,HasL K H xs ds∧u7 K H M∧g ds M R∧a4b K H R Q
def a1H(X:Cx)(f:Value)(g:DRC):Prop:=D2 X f (upC X.K g)
def dCB(g:DRC)(t:DTA):DTE:=fun e M R=>t e M fun ds M1=>g ds M1 R
theorem b9i{g:DRC}{σ:St}{H:Hp}{Q:VK}(h:up X.K (dCB g t) σ H Q):tCB (upC X.K g) (upA X.K t) σ H Q:=by
 obtain⟨e,M,R,ok,am,t,f⟩:=h
 exact⟨e,M,_,ok,am,t,fun ds M1 h1 vs H1 k1 a1 r1=>⟨ds,M1,R,r1,a1,h1,f.mono k1⟩⟩
theorem D2.imp{f:Value}{r r':List V→Hp→VK→Prop}(h:D2 X f r)(i:∀ xs H Q,r' xs H Q→r xs H Q):D2 X f r':=fun pins s σ H xs us Q I rv q=>h pins s σ H xs us Q I rv (i xs H Q q)
theorem HasL.one{K:c6M}{H:Hp}{vs:List V}{d:D}(h:HasL K H vs [d]):∃ v,vs=[v]∧Has K H v d:=by
 cases h with
 | cons r rr=>cases rr;exact⟨_,rfl,r⟩
theorem HasL.two{K:c6M}{H:Hp}{vs:List V}{d d':D}(h:HasL K H vs [d,d']):∃ v v',vs=[v,v']∧Has K H v d∧Has K H v' d':=by
 cases h with
 | cons r rr=>cases rr with|cons r2 rr=>cases rr;exact⟨_,_,rfl,r,r2⟩
def c2G:DRC:=fun ds M R=>∃ i:Int,ds=[.int i]∧R (.int (i.natAbs:Int)) M
theorem a1B:a1H X (.builtin "abs") c2G:=D2.imp b5u (by
 rintro xs H Q ⟨ds,M,R,hl,am,⟨i,z,r⟩,f⟩
 subst z
 obtain⟨v,rfl,h⟩:=hl.one
 cases h
 have e:(if i<0 then -i else i)=(i.natAbs:Int):=by split<;>omega
 exact⟨i,rfl,by rw[e];exact f _ M r _ H (KT.refl H) am (.int _)⟩)
def c2B:DRC:=fun ds M R=>∃ i j:Int,ds=[.int i,.int j]∧R (.int (max i j)) M
theorem b9j(hc:X.calm=true):a1H X (.builtin "max") c2B:=D2.imp (b2h hc) (by
 rintro xs H Q ⟨ds,M,R,hl,am,⟨i,j,z,r⟩,f⟩
 subst z
 obtain⟨v,v',rfl,h,h'⟩:=hl.two
 cases h;cases h'
 have e:(if j > i then j else i)=max i j:=by
  rw[Int.max_def];split<;>split<;>omega
 exact⟨i,j,rfl,by rw[e];exact f _ M r _ H (KT.refl H) am (.int _)⟩)
def b4y(M:Mem):D→Option Nat
 | .tup ds=>some ds.length
 | .ref p=>match M p with
  | some (.lst ds)=>some ds.length
  | _=>none
 | .vl ds=>some ds.length
 | _=>none
def b2b:DRC:=fun ds M R=>∃ d n,ds=[d]∧b4y M d=some n∧R (.int (n:Int)) M
theorem G9:a1H X (.builtin "len") b2b:=D2.imp a65 (by
 rintro xs H Q ⟨ds,M,R,hl,am,⟨d,n,z,hn,r⟩,f⟩
 subst z
 obtain⟨v,rfl,h⟩:=hl.one
 cases d with
 | tup es =>
  cases h with
  | tup s l =>
   cases hn
   exact⟨_,_,rfl,.inr s,by rw[l.length];exact f _ M r _ H (KT.refl H) am (.int _)⟩
 | ref p =>
  cases h
  unfold b4y at hn
  cases q:M p with
  | none=>simp[q]at hn
  | some o =>
   cases o with
   | lst es =>
    simp only[q]at hn
    cases hn
    obtain⟨ys,hy,l⟩:=am.lst q
    exact⟨p,ys,rfl,.inl (SqL.of hy),by rw[l.length];exact f _ M r _ H (KT.refl H) am (.int _)⟩
 | vl es =>
  cases hn
  obtain⟨a,xs,rfl,sq,l⟩:=h.il
  exact⟨a,_,rfl,.inl sq,by rw[l.length];exact f _ M r _ H (KT.refl H) am (.int _)⟩
 | _=>cases hn)
end
end DL
namespace DL
open PySem PySem.Spec L2
open PyProof.Rows hiding St
theorem U8:bootBuiltins "abs" = some (.builtin "abs"):=by decide +kernel
theorem b5x:bootBuiltins "max" = some (.builtin "max"):=by decide +kernel
theorem c0V:bootBuiltins "min" = some (.builtin "min"):=by decide +kernel
theorem C6:bootBuiltins "len" = some (.builtin "len"):=by decide +kernel
theorem u5:bootBuiltins "isinstance" = some (.builtin "isinstance"):=by decide +kernel
theorem a9Y:bootBuiltins "int" = some (.type "int"):=by decide +kernel
theorem a66:bootBuiltins "bool" = some (.type "bool"):=by decide +kernel
theorem R1:bootBuiltins "tuple" = some (.type "tuple"):=by decide +kernel
theorem a2R:bootBuiltins "list" = some (.type "list"):=by decide +kernel
theorem a2r:bootBuiltins "reversed" = some (.type "reversed"):=by decide +kernel
section
variable {X:Cx} {a b c:Expr} {ta tb tc:DTE} {pos:Pos}
theorem b7s:OpR X (binaryOp .Mult) (rI IntMulOk fun i j=>.int (i*j)):=opI fun _ _ _ _ _ _ _ hc q=>mul_int q hc
def CFd(i j:Int):Prop:=j≠0∧j.natAbs.log2<9000
theorem b4j:OpR X (binaryOp .FloorDiv) (rI CFd fun i j=>.int (i.fdiv j)):=opI fun _ _ _ _ _ _ _ hc q=>floordiv_int hc.1 q (.inl (PyProof.noPylong_of_log2 hc.2))
theorem p5:DOp X (binaryOp .Mult) (gI IntMulOk fun i j=>.int (i*j)):=b1i b7s fun _ _ _=>.int _
theorem E9:DOp X (binaryOp .FloorDiv) (gI CFd fun i j=>.int (i.fdiv j)):=b1i b4j fun _ _ _=>.int _
def ixD(M:Mem):D→D→Option D
 | .tup ds,.int i=>atI ds i
 | .ref p,.int i=>match M p with
  | some (.lst ds)=>atI ds i
  | _=>none
 | .vl ds,.int i=>atI ds i
 | _,_=>none
def gIx:DR2:=fun x y M R=>∃ z,ixD M x y=some z∧R z M
theorem IxR.or'{r r':R2}(h:IxR X r)(h':IxR X r'){g:R2}(i:∀ x y H Q,g x y H Q→r x y H Q∨r' x y H Q):IxR X g:=IxR.imp (IxR.or h h') i
theorem c2w:DIx X gIx:=IxR.or' c0C b7L (by
 rintro x y H Q ⟨dx,dy,M,R,hx,hy,am,⟨z,e,r⟩,f⟩
 cases dy with
 | int i =>
  cases hy
  cases dx with
  | tup ds =>
   cases hx with
   | tup s l =>
    obtain⟨v,h1,h2⟩:=l.at (show atI ds i=some z from e)
    exact .inl ⟨_,_,i,v,rfl,rfl,s,h1,f z M r v H (KT.refl H) am h2⟩
  | ref p =>
   cases hx
   unfold ixD at e
   cases q:M p with
   | none=>simp[q]at e
   | some o =>
    cases o with
    | lst ds =>
     simp only[q]at e
     obtain⟨xs,h1,h2⟩:=am.lst q
     obtain⟨v,h3,h4⟩:=h2.at e
     exact .inr ⟨_,_,i,v,rfl,rfl,SqL.of h1,h3,f z M r v H (KT.refl H) am h4⟩
  | vl ds =>
   obtain⟨a,xs,rfl,sq,l⟩:=hx.il
   obtain⟨v,h1,h2⟩:=l.at (show atI ds i=some z from e)
   exact .inr ⟨_,_,i,v,rfl,rfl,sq,h1,f z M r v H (KT.refl H) am h2⟩
  | _=>simp[ixD]at e
 | _=>cases dx<;>simp[ixD]at e)
theorem a0k{M:Mem}{p:Addr}{ds:List D}{i:Int}{z:D}(m:M p=some (.lst ds))(h:atI ds i=some z):ixD M (.ref p) (.int i)=some z:=by
 unfold ixD;simp only[m];exact h
def isD:D→D→Option Bool
 | .bl a,.bl b=>some (a == b)
 | .non,.non=>some true
 | .bl _,.non=>some false
 | .int _,.non=>some false
 | .str _,.non=>some false
 | .ref _,.non=>some false
 | .tup _,.non=>some false
 | .vl _,.non=>some false
 | _,_=>none
theorem a5H{x y:D}{b:Bool}(h:isD x y=some b):(∃ p q,x = .bl p∧y = .bl q∧b=(p == q))∨(y = .non∧((x = .non∧b=true)∨(x ≠ .non∧b=false))):=by
 cases x<;>cases y<;>simp[isD]at h<;>simp[h]
theorem b08{K:c6M}{H:Hp}{v:V}{x:D}(h:Has K H v x)(n:x ≠ .non):v ≠ .non:=by
 intro e;subst e;cases h;exact n rfl
def gIs(neg:Bool):DR2:=fun x y M R=>∃ b,isD x y=some b∧R (.bl (neg.xor b)) M
theorem c0p:DOp X (compareOp .Is) (gIs false):=by
 intro pins s σ H x y v u Q I rx ry h
 obtain⟨dx,dy,M,R,hx,hy,am,⟨b,e,r⟩,f⟩:=h
 have fin:EP X pins σ Q (.bool b) s:=⟨.bl b,H,I,rfl,by have:=f _ M r (.bl b) H (KT.refl H) am (by simpa using Has.bl (K:=X.K) (H:=H) b);exact this⟩
 rcases a5H e with⟨p,q,rfl,rfl,rfl⟩|⟨rfl,hx'⟩
 ·cases hx;cases hy;cases rx;cases ry
  exact is_bool fin
 ·cases hy;cases ry
  refine is_none_gen ?_
  rw[u0.none_iff rx]
  rcases hx' with⟨rfl,rfl⟩|⟨n,rfl⟩
  ·cases hx;exact fin
  ·rw[decide_eq_false (b08 hx n)];exact fin
theorem a6Q:DOp X (compareOp .IsNot) (gIs true):=by
 intro pins s σ H x y v u Q I rx ry h
 obtain⟨dx,dy,M,R,hx,hy,am,⟨b,e,r⟩,f⟩:=h
 have fin:EP X pins σ Q (.bool (!b)) s:=⟨.bl (!b),H,I,rfl,by have:=f _ M r (.bl (!b)) H (KT.refl H) am (by simpa using Has.bl (K:=X.K) (H:=H) (!b));exact this⟩
 rcases a5H e with⟨p,q,rfl,rfl,rfl⟩|⟨rfl,hx'⟩
 ·cases hx;cases hy;cases rx;cases ry
  exact isnot_bool fin
 ·cases hy;cases ry
  refine isnot_none_gen ?_
  rw[u0.none_iff rx]
  rcases hx' with⟨rfl,rfl⟩|⟨n,rfl⟩
  ·cases hx;exact fin
  ·rw[decide_eq_false (b08 hx n)];exact fin
mutual
inductive PyR (M:Mem):D→PyData→Prop
 | non:PyR M .non .none
 | bl (b:Bool):PyR M (.bl b) (.bool b)
 | int (i:Int):PyR M (.int i) (.int i)
 | str (x:Str):PyR M (.str x) (.str x)
 | tup {ds:List D} {ps:List PyData}:PyRL M ds ps→PyR M (.tup ds) (.tuple ps)
 | lst {p:Addr} {ds:List D} {ps:List PyData}:M p=some (.lst ds)→PyRL M ds ps→PyR M (.ref p) (.list ps)
 | vl {ds:List D} {ps:List PyData}:PyRL M ds ps→PyR M (.vl ds) (.list ps)
inductive PyRL (M:Mem):List D→List PyData→Prop
 | nil:PyRL M [] []
 | cons {d:D} {p:PyData} {ds:List D} {ps:List PyData}:PyR M d p→PyRL M ds ps→PyRL M (d :: ds) (p :: ps)
end
mutual
theorem X5{pins:List (Addr × Obj)}{s:Shared}{σ:St}{H:Hp}{M:Mem}(I:Inv X pins σ H s)(am:u7 X.K H M):∀{d:D} {p:PyData},PyR M d p→∀{v:V} {u:Value},Has X.K H v d→u0 v u→∃ as,Reads s.heap u p as
 | _,_,.non,_,_,h,r=>by cases h;cases r;exact⟨_,.none⟩
 | _,_,.bl b,_,_,h,r=>by cases h;cases r;exact⟨_,.bool b⟩
 | _,_,.int i,_,_,h,r=>by cases h;obtain⟨t,rfl⟩:=r;exact⟨_,.int i t⟩
 | _,_,.str x,_,_,h,r=>by cases h;obtain⟨t,rfl⟩:=r;exact⟨_,.str x t⟩
 | _,_,.tup l,_,_,h,r=>by
  cases h with
  | tup s' hl =>
   cases r
   obtain⟨its,rv,⟨o,e,hc,n,hd⟩,_⟩:=I.tuple s'
   obtain⟨as,ra⟩:=readsL_of I am l hl rv
   exact⟨as,.tuple e hc hd (by simpa using ra)⟩
 | _,_,.lst m l,_,_,h,r=>by
  cases h
  cases r
  obtain⟨xs,hx,hl⟩:=am.lst m
  obtain⟨its,rv,⟨o,n,e,hc,_,hd⟩,_⟩:=I.list (SqL.of hx)
  obtain⟨as,ra⟩:=readsL_of I am l hl rv
  exact⟨_,.list e hc hd (by simpa using ra)⟩
 | _,_,.vl l,_,_,h,r=>by
  obtain⟨a,xs,rfl,sq,hl⟩:=h.il
  cases r
  obtain⟨its,rv,⟨o,n,e,hc,_,hd⟩,_⟩:=I.list sq
  obtain⟨as,ra⟩:=readsL_of I am l hl rv
  exact⟨_,.list e hc hd (by simpa using ra)⟩
theorem readsL_of{pins:List (Addr × Obj)}{s:Shared}{σ:St}{H:Hp}{M:Mem}(I:Inv X pins σ H s)(am:u7 X.K H M):∀{ds:List D} {ps:List PyData},PyRL M ds ps→∀{vs:List V} {us:List Value},HasL X.K H vs ds→p0 vs us→∃ as,ReadsAll s.heap us ps as
 | _,_,.nil,_,_,h,r=>by cases h;cases r;exact⟨_,.nil⟩
 | _,_,.cons a l,_,_,h,r=>by
  cases h with
  | cons h hl =>
   cases r with
   | cons r rl =>
    obtain⟨as,q⟩:=X5 I am a h r
    obtain⟨bs,q2⟩:=readsL_of I am l hl rl
    exact⟨_,.cons q q2⟩
end
def gEq(neg:Bool):DR2:=fun x y M R=>∃ px py,PyR M x px∧PyR M y py∧SeqAt.shaped px=true∧SeqAt.shaped py=true∧R (.bl (neg.xor (PyData.eqv px py))) M
theorem c3I(hu:X.A.units+64<cLine):DOp X (compareOp .Eq) (gEq false):=by
 intro pins s σ H x y v u Q I rx ry h
 obtain⟨dx,dy,M,R,hx,hy,am,⟨px,py,p1,p2,s1,s2,r⟩,f⟩:=h
 obtain⟨as,r1⟩:=X5 I am p1 hx rx
 obtain⟨bs,r2⟩:=X5 I am p2 hy ry
 exact eq_dataH r1 r2 s1 s2 hu ⟨.bl _,H,I,rfl,by have:=f _ M r _ H (KT.refl H) am (.bl _);simpa using this⟩
theorem c3G(hu:X.A.units+64<cLine):DOp X (compareOp .NotEq) (gEq true):=by
 intro pins s σ H x y v u Q I rx ry h
 obtain⟨dx,dy,M,R,hx,hy,am,⟨px,py,p1,p2,s1,s2,r⟩,f⟩:=h
 obtain⟨as,r1⟩:=X5 I am p1 hx rx
 obtain⟨bs,r2⟩:=X5 I am p2 hy ry
 exact ne_dataH r1 r2 s1 s2 hu ⟨.bl _,H,I,rfl,by have:=f _ M r _ H (KT.refl H) am (.bl _);simpa using this⟩
mutual
def pyD:D→PyData
 | .int i=>.int i
 | .str x=>.str x
 | .bl b=>.bool b
 | .tup ds=>.tuple (pyDL ds)
 | .vl ds=>.list (pyDL ds)
 | _=>.none
def pyDL:List D→List PyData
 | []=>[]
 | d :: r=>pyD d :: pyDL r
end
mutual
def cl:Nat→D→Bool
 | _,.int _=>true
 | _,.non=>true
 | _,.str x=>PyData.canLay0 (.str x)
 | k+1,.tup ds=>clL k ds
 | k+1,.vl ds=>clL k ds
 | _,_=>false
def clL:Nat→List D→Bool
 | _,[]=>true
 | k,d :: r=>cl k d && clL k r
end
mutual
theorem b5q{M:Mem}:∀{k:Nat} {d:D},cl k d=true→PyR M d (pyD d)∧(pyD d).canLay0=true∧(pyD d).depth≤k
 | _,.int i,_=>⟨.int i,rfl,c7L _⟩
 | _,.non,_=>⟨.non,rfl,c7L _⟩
 | 0,.tup ds,h=>by simp[cl]at h
 | k+1,.tup ds,h=>by
  obtain⟨a,b,c⟩:=clL_py (M:=M) (k:=k) (ds:=ds) (by simpa[cl]using h)
  exact⟨.tup a,by simpa[pyD,PyData.canLay0]using b,by simp only[pyD,PyData.depth];omega⟩
 | _,.str x,h=>⟨.str x,by simpa[cl,pyD]using h,c7L _⟩
 | _,.bl _,h=>by simp[cl]at h
 | _,.ref _,h=>by simp[cl]at h
 | 0,.vl ds,h=>by simp[cl]at h
 | k+1,.vl ds,h=>by
  obtain⟨a,b,c⟩:=clL_py (M:=M) (k:=k) (ds:=ds) (by simpa[cl]using h)
  exact⟨.vl a,by simpa[pyD,PyData.canLay0]using b,by simp only[pyD,PyData.depth];omega⟩
 | _,.ty _,h=>by simp[cl]at h
theorem clL_py{M:Mem}:∀{k:Nat} {ds:List D},clL k ds=true→PyRL M ds (pyDL ds)∧PyData.canLayAll0 (pyDL ds)=true∧PyData.depthAll (pyDL ds)≤k
 | _,[],_=>⟨.nil,rfl,c7L _⟩
 | k,d :: r,h=>by
  have h':cl k d=true∧clL k r=true:=by simpa[clL]using h
  obtain⟨a,b,c⟩:=b5q (M:=M) h'.1
  obtain⟨a2,b2,c2⟩:=clL_py (M:=M) h'.2
  exact⟨.cons a a2,by simp[pyDL,PyData.canLayAll0,b,b2],by simp only[pyDL,PyData.depthAll];omega⟩
end
mutual
theorem b5s:∀{k j:Nat} {x y:D},cl k x=true→cl j y=true→(PyData.eqv (pyD x) (pyD y)=true↔x=y)
 | _,_,.int i,.int j,_,_=>by simp[pyD,PyData.eqv]
 | _,_,.int i,.non,_,_=>by simp[pyD,PyData.eqv]
 | _,_,.non,.int i,_,_=>by simp[pyD,PyData.eqv]
 | _,_,.non,.non,_,_=>by simp[pyD,PyData.eqv]
 | _,_,.int i,.tup ds,_,_=>by simp[pyD,PyData.eqv]
 | _,_,.non,.tup ds,_,_=>by simp[pyD,PyData.eqv]
 | _,_,.tup ds,.int i,_,_=>by simp[pyD,PyData.eqv]
 | _,_,.tup ds,.non,_,_=>by simp[pyD,PyData.eqv]
 | k+1,j+1,.tup ds,.tup es,h,h'=>by
  have:=clL_eqv (k:=k) (j:=j) (xs:=ds) (ys:=es) (by simpa[cl]using h) (by simpa[cl]using h')
  simp only[pyD,PyData.eqv,D.tup.injEq]
  exact this
 | 0,_,.tup ds,.tup es,h,_=>by simp[cl]at h
 | _,0,.tup ds,.tup es,_,h=>by simp[cl]at h
 | _,_,.str x,.str y,_,_=>by simp[pyD,PyData.eqv]
 | _,_,.str x,.int i,_,_=>by simp[pyD,PyData.eqv]
 | _,_,.str x,.non,_,_=>by simp[pyD,PyData.eqv]
 | _,_,.str x,.tup ds,_,_=>by simp[pyD,PyData.eqv]
 | _,_,.int i,.str x,_,_=>by simp[pyD,PyData.eqv]
 | _,_,.non,.str x,_,_=>by simp[pyD,PyData.eqv]
 | _,_,.tup ds,.str x,_,_=>by simp[pyD,PyData.eqv]
 | k+1,j+1,.vl ds,.vl es,h,h'=>by
  have:=clL_eqv (k:=k) (j:=j) (xs:=ds) (ys:=es) (by simpa[cl]using h) (by simpa[cl]using h')
  simp only[pyD,PyData.eqv,D.vl.injEq]
  exact this
 | 0,_,.vl ds,.vl es,h,_=>by simp[cl]at h
 | _,0,.vl ds,.vl es,_,h=>by simp[cl]at h
 | _,_,.vl ds,.int i,_,_=>by simp[pyD,PyData.eqv]
 | _,_,.vl ds,.non,_,_=>by simp[pyD,PyData.eqv]
 | _,_,.vl ds,.str x,_,_=>by simp[pyD,PyData.eqv]
 | _,_,.vl ds,.tup es,_,_=>by simp[pyD,PyData.eqv]
 | _,_,.int i,.vl ds,_,_=>by simp[pyD,PyData.eqv]
 | _,_,.non,.vl ds,_,_=>by simp[pyD,PyData.eqv]
 | _,_,.str x,.vl ds,_,_=>by simp[pyD,PyData.eqv]
 | _,_,.tup es,.vl ds,_,_=>by simp[pyD,PyData.eqv]
 | _,_,.bl _,_,h,_=>by simp[cl]at h
 | _,_,.ref _,_,h,_=>by simp[cl]at h
 | _,_,.ty _,_,h,_=>by simp[cl]at h
 | _,_,_,.bl _,_,h=>by simp[cl]at h
 | _,_,_,.ref _,_,h=>by simp[cl]at h
 | _,_,_,.ty _,_,h=>by simp[cl]at h
theorem clL_eqv:∀{k j:Nat} {xs ys:List D},clL k xs=true→clL j ys=true→(PyData.eqvAll (pyDL xs) (pyDL ys)=true↔xs=ys)
 | _,_,[],[],_,_=>by simp[pyDL,PyData.eqvAll]
 | _,_,[],_ :: _,_,_=>by simp[pyDL,PyData.eqvAll]
 | _,_,_ :: _,[],_,_=>by simp[pyDL,PyData.eqvAll]
 | k,j,x :: xs,y :: ys,h,h'=>by
  have h1:cl k x=true∧clL k xs=true:=by simpa[clL]using h
  have h2:cl j y=true∧clL j ys=true:=by simpa[clL]using h'
  have e1:=b5s h1.1 h2.1
  have e2:=clL_eqv h1.2 h2.2
  simp only[pyDL,PyData.eqvAll,c8H,e1,e2,List.cons.injEq]
end
open Classical in
theorem b4T{neg:Bool}{x y:D}{M:Mem}{R:DK}(h:R (.bl (neg.xor (decide (x=y)))) M)(hx:cl 60 x=true:=by rfl)(hy:cl 60 y=true:=by rfl):gEq neg x y M R:=by
 obtain⟨a,b,c⟩:=b5q (M:=M) hx
 obtain⟨a2,b2,c2⟩:=b5q (M:=M) hy
 refine⟨_,_,a,a2,?_,?_,?_⟩
 ·simp only[SeqAt.shaped,b,c9d];exact decide_eq_true (by omega)
 ·simp only[SeqAt.shaped,b2,c9d];exact decide_eq_true (by omega)
 ·have e:PyData.eqv (pyD x) (pyD y)=decide (x=y):=by
   have:=b5s hx hy
   by_cases q:x=y
   ·rw[decide_eq_true q];exact this.mpr q
   ·rw[decide_eq_false q]
    cases z:PyData.eqv (pyD x) (pyD y)with
    | false=>rfl
    | true=>exact absurd (this.mp z) q
  rw[e];exact h
def tyD(M:Mem):D→Option String
 | .non=>some "NoneType"
 | .bl _=>some "bool"
 | .int _=>some "int"
 | .str _=>some "str"
 | .tup _=>some "tuple"
 | .ref p=>match M p with
  | some (.lst _)=>some "list"
  | _=>none
 | .vl _=>some "list"
 | .ty _=>none
 | .dic=>some "dict"
def b6K(t T:String):Option Bool:=if t=T then some true else
 match t,T with
 | "bool","int" => some true
 | _,_=>if (t∈["NoneType","bool","int","str","tuple","list","dict"])∧(T∈["bool","int","str","tuple","list"])then some false else none
def b5F(K:c6M):Prop:=∀ t T b,b6K t T=some b→PySem.W.kitOne K (.type t) (.type T)=some b
theorem X8{x:Str}{n:String}(hg:Gl X x)(hm:X.mg x=none)(hv:bootBuiltins x=some (.type n))(hn:x ≠ "__name__" := by decide)(hd:(x == ("__debug__" : Str))=false:=by decide):JE X (.Name x pos) (dC (.ty n)):=⟨a0n (v:=.ty n) (b7p hg hm hv rfl hn hd) fun _=>.ty n⟩
def C0:DRC:=fun ds M R=>∃ d t T b,ds=[d,.ty T]∧tyD M d=some t∧b6K t T=some b∧R (.bl b) M
theorem Y6(hk:b5F X.K):a1H X (.builtin "isinstance") C0:=by
 intro pins s σ H xs us Q I rv h
 obtain⟨ds,M,R,hl,am,⟨d,t,T,b,rfl,ht,hb,r⟩,f⟩:=h
 obtain⟨v,v',rfl,h1,h2⟩:=hl.two
 cases h2
 obtain⟨u,w',rfl,r1,r2⟩:=b3n rv
 cases(show w'=Value.type T from r2)
 have e:=hk t T b hb
 have fin:∀ tk,EP X pins σ Q (.bool b) { s with toks:=tk }:=fun tk=>⟨.bl b,H,I.tok tk,rfl,f _ M r _ H (KT.refl H) am (.bl b)⟩
 cases h1 with
 | non=>cases ht;exact Q8 I r1 .non e fin
 | bl q=>cases ht;exact Q8 I r1 (.bl q) e fin
 | int q=>cases ht;exact Q8 I r1 (.int q) e fin
 | str q=>cases ht;exact Q8 I r1 (.str q) e fin
 | ty q=>cases ht
 | ref p =>
  unfold tyD at ht
  cases q:M p with
  | none=>simp[q]at ht
  | some o =>
   cases o with
   | lst es =>
    simp only[q]at ht
    cases ht
    obtain⟨ys,hy,_⟩:=am.lst q
    exact Q8 I r1 (.lst hy) e fin
 | tup s' l =>
  cases ht
  cases(show u=Value.ref _ from r1)
  obtain⟨its,_,⟨o,h1,h2,_⟩,_⟩:=I.tuple s'
  exact PySem.W.kia_one PySem.W.kitx_tuple I.kIn ⟨o,h1,h2⟩ e (fun z=>nomatch z) fin
 | vl hq hl' =>
  cases ht
  cases(show u=Value.ref _ from r1)
  obtain⟨_,_,ea,sq,_⟩:=Has.il (.vl hq hl')
  cases ea
  obtain⟨its,_,⟨o,n,h1,h2,_⟩,_⟩:=I.list sq
  exact PySem.W.kia_one PySem.W.kitx_list I.kIn ⟨o,h1,h2⟩ e (fun z=>nomatch z) fin
 | dic hq =>
  cases ht
  cases(show u=Value.ref _ from r1)
  obtain⟨o,g1,g2⟩:=hq
  exact PySem.W.kia_one PySem.W.kitx_dict I.kIn ⟨o,(I.hok _ _ g1).1,g2⟩ e (fun z=>nomatch z) fin
theorem b7E:MtR X "int.bit_length" (fun x xs H Q=>∃ i,x = .int i∧xs=[]∧Q (.int (Builtin.Int.intBits i:Nat)) H):=by
 intro pins s σ H x xs v us Q I rx rv h
 obtain⟨i,rfl,rfl,q⟩:=h
 cases rv
 obtain⟨t,rfl⟩:=rx
 exact call_int_bit_length ⟨.int _,H,I.tok _,⟨_,rfl⟩,q⟩
end
end DL
namespace DL
open PySem PySem.Spec L2
open PyProof.Rows hiding St
section
variable {X:Cx} {a b c:Expr} {ta tb tc:DTE} {pos:Pos}
def Y0:DXK:=fun _ _=>False
theorem c3S{K:c6M}{H:Hp}{E:XK}:c08 K H Y0 E:=fun _ _ h=>h.elim
structure b78(K:c6M)(x:Str)(st:Stmt)(f:Addr)(fd:FuncData):Prop where
 ex:∃(oc:Value) (od:Option Addr) (dV kV doc pm:Value) (an:Option Addr) (cdv ct:Value) (osl:Array (Option Value)),
  fd=PySem.W.fnOf x x (U5 st) (L4 st) (e8 st) dV kV doc pm an cdv ct∧K.lookup f=some ⟨oc,od,.func fd,osl⟩∧PySem.W.codeIn K cdv x=true
 kp:PySem.W.keepIn K (.ref f)=true
structure Df(K:c6M)(mg:Str→Option Value)(x:Str)(st:Stmt)(ps:List Str):Prop where
 ex:∃(f:Addr) (fd:FuncData),b78 K x st f fd∧mg x=some (.ref f)∧a4c K fd ps []
structure DfL(K:c6M)(mg:Str→Option Value)(x:Str)(st:Stmt)(ps:List Str):Prop where
 ex:∃(f:Addr) (fd:FuncData),b78 K x st f fd∧mg x=some (.ref f)∧∀ us:List Value,us.length=ps.length→bindArgs fd ⟨us,[]⟩=pure (ps.zip us)
structure Fn(P:Program)(w:World)(K:c6M)(mg:Str→Option Value)(base:Heap)(x:Str)(k:Nat)(ps:List Str)(sp:DSp):Prop where
 ex:∃(f:Addr) (fd:FuncData),V4 P w K mg base CX0 k f fd ps (a7O K sp)∧mg x=some (.ref f)∧PySem.W.keepIn K (.ref f)=true∧a4c K fd ps []
theorem b4I{x:Str}{j:Nat}{ps:List Str}{sp:DSp}{p:Pos}{e:Expr}{es:List Expr}{t:DTA}(G:Fn X.prog X.w X.K X.mg X.base x j ps sp)(hr:K4 j X.A)(hg:Gl X x)(ha:JA X (e :: es) t)
  (hdb:(x == ("__debug__" : Str))=false:=by decide) (he:starEach (e :: es) X.env=(false,eval e X.env) :: starEach es X.env:=by rfl) (hpl:(backTo pos (starEach es X.env)).any (·.1)=false:=by rfl):JE X (.Call (.Name x p) (e :: es) [] pos) (b1o sp [] Y0 t):=⟨have ha:=ha.out;by
 obtain⟨f,fd,F,hm,hk,hb⟩:=G.ex
 exact c0R F hr hg hm hk hb .nil (fun _=>.nil) c2g (fun _=>c3S) ha hdb he hpl⟩
end
section
variable {P:Program} {w:World} {K:c6M} {mg:Str→Option Value} {base:Heap}
theorem b81{x:Str}{st:Stmt}{f:Addr}{fd:FuncData}{N ps:List Str}{k:Nat}{sp:DSp}(F:b78 K x st f fd)(S:g6 N ps (e8 st))(len:∀ ds M R Y,sp ds M R Y→ds.length=ps.length)
  (hbody:∀(cdv:Value) (A:Around) (outer:List Env) (s:Shared) (H:Hp) (E:XK) (ds:List D) (M:Mem) (R:DK) (Y:DXK),K4 k (A.deeper (envOfC x (e8 st) s.heap.objs.size f cdv))→sp ds M R Y →
   ∃ t,JSs (a9V CX0 P w K mg base N x (e8 st) f cdv A outer s H E).nox (L4 st) t∧t { nx:=fun _ M'=>R .non M',rt:=R } (a0X N ds) M):V4 P w K mg base CX0 (k+1) f fd ps (a7O K sp):=by
 obtain⟨oc,od,dV,kV,doc,pm,an,cdv,ct,osl,rfl,lk,hcd⟩:=F.ex
 refine c2H lk hcd S (fun vs H Q E ⟨ds,M,R,Y,hl,_,hs,_,_⟩=>by rw[hl.length];exact len ds M R Y hs) fun A outer s H vs Q E hr zz=>?_
 obtain⟨ds,M,R,Y,hl,am,hs,fv,fx⟩:=zz
 obtain⟨t,h1,h2⟩:=hbody cdv A outer s H E ds M R Y hr hs
 refine⟨_,h1.out.nox,a0X N ds,M,_,B2.start0 hl,am,h2,⟨?_,fv,fun _ _ h=>h.elim,fun _ _ h=>h.elim⟩⟩
 exact fun e M' h σ' H' kt a o=>fv .non M' h .non H' kt a .non
theorem i9{x:Str}{st:Stmt}{N ps:List Str}{k:Nat}{sp:DSp}(d:Df K mg x st ps)(S:g6 N ps (e8 st))(len:∀ ds M R Y,sp ds M R Y→ds.length=ps.length)
  (hbody:∀(f:Addr) (cdv:Value) (A:Around) (outer:List Env) (s:Shared) (H:Hp) (E:XK) (ds:List D) (M:Mem) (R:DK) (Y:DXK),K4 k (A.deeper (envOfC x (e8 st) s.heap.objs.size f cdv))→sp ds M R Y →
   ∃ t,JSs (a9V CX0 P w K mg base N x (e8 st) f cdv A outer s H E).nox (L4 st) t∧t { nx:=fun _ M'=>R .non M',rt:=R } (a0X N ds) M):Fn P w K mg base x (k+1) ps sp:=by
 obtain⟨f,fd,F,hm,hb⟩:=d.ex
 exact⟨f,fd,b81 F S len (hbody f),hm,F.kp,hb⟩
theorem j5{x:Str}{st:Stmt}{ps:List Str}{h:Heap}{f:Addr}{oc:Value}{od an:Option Addr}{osl:Array (Option Value)}{dV kV doc pm cdv ct:Value}(X:K.In h)(G:h.Ns mainGlobals mg)
  (n:PySem.W.nsIn K mainGlobals x=some (some (.ref f)))
  (l:K.lookup f=some ⟨oc,od,.func (PySem.W.fnOf x x (U5 st) (L4 st) (e8 st) dV kV doc pm an cdv ct),osl⟩)
  (c:PySem.W.codeIn K cdv x=true) (k:PySem.W.keepIn K (.ref f)=true)
  (hb:∀ us:List Value,us.length=ps.length→bindArgs (PySem.W.fnOf x x (U5 st) (L4 st) (e8 st) dV kV doc pm an cdv ct) ⟨us,[]⟩=pure (ps.zip us)):Df K mg x st ps :=
 ⟨f,_,⟨⟨oc,od,dV,kV,doc,pm,an,cdv,ct,osl,rfl,l,c⟩,k⟩,PySem.W.mg_of X G n,.all hb⟩
theorem c0N{x:Str}{st:Stmt}{ps:List Str}{h:Heap}{f:Addr}{oc:Value}{od an:Option Addr}{osl:Array (Option Value)}{dV kV doc pm cdv ct:Value}(X:K.In h)(G:h.Ns mainGlobals mg)
  (n:PySem.W.nsIn K mainGlobals x=some (some (.ref f)))
  (l:K.lookup f=some ⟨oc,od,.func (PySem.W.fnOf x x (U5 st) (L4 st) (e8 st) dV kV doc pm an cdv ct),osl⟩)
  (c:PySem.W.codeIn K cdv x=true) (k:PySem.W.keepIn K (.ref f)=true)
  (hb:∀ us:List Value,us.length=ps.length→bindArgs (PySem.W.fnOf x x (U5 st) (L4 st) (e8 st) dV kV doc pm an cdv ct) ⟨us,[]⟩=pure (ps.zip us)):DfL K mg x st ps :=
 ⟨f,_,⟨⟨oc,od,dV,kV,doc,pm,an,cdv,ct,osl,rfl,l,c⟩,k⟩,PySem.W.mg_of X G n,hb⟩
theorem c0O{x:Str}{st:Stmt}{ps:List Str}{h:Heap}{f:Addr}{oc:Value}{od an:Option Addr}{osl:Array (Option Value)}{dV kV doc pm cdv ct:Value}(X:K.In h)(G:h.Ns mainGlobals mg)
  (n:PySem.W.nsIn K mainGlobals x=some (some (.ref f)))
  (l:K.lookup f=some ⟨oc,od,.func (PySem.W.fnOf x x (U5 st) (L4 st) (e8 st) dV kV doc pm an cdv ct),osl⟩)
  (c:PySem.W.codeIn K cdv x=true) (k:PySem.W.keepIn K (.ref f)=true)
  (hb:∀ us:List Value,us.length=ps.length→∀ S,PySem.W.peek K S (bindArgs (PySem.W.fnOf x x (U5 st) (L4 st) (e8 st) dV kV doc pm an cdv ct) ⟨us,[]⟩)=some (ps.zip us)):Df K mg x st ps :=
 ⟨f,_,⟨⟨oc,od,dV,kV,doc,pm,an,cdv,ct,osl,rfl,l,c⟩,k⟩,PySem.W.mg_of X G n,fun s us X' hl=>by rw[c74]at hl ⊢;exact PySem.W.kp_binds X' (hb us hl)⟩
end
section
variable {X:Cx} {x:Str} {p pos:Pos} {e:Expr} {es:List Expr} {t:DTA} {id T:String} {o:Expr} {to:DTE} {a b c:Expr} {ta tb tc:DTE}
theorem o9{g:DRC}(hc:a1H X (.builtin id) g)(hg:Gl X x)(hm:X.mg x=none)(hv:bootBuiltins x=some (.builtin id))(ha:JA X (e :: es) t)
  (hn:x ≠ "__name__" := by decide) (hdb:(x == ("__debug__" : Str))=false:=by decide) (he:starEach (e :: es) X.env=(false,eval e X.env) :: starEach es X.env:=by rfl) (hpl:(backTo pos (starEach es X.env)).any (·.1)=false:=by rfl):JE X (.Call (.Name x p) (e :: es) [] pos) (dCB g t):=⟨have ha:=ha.out;(b4g hc hg hm hv ha hn hdb he hpl).imp fun _ _ _ h=>b9i h⟩
theorem b06{g:DRC}(hc:a1H X (.type T) g)(hg:Gl X x)(hm:X.mg x=none)(hv:bootBuiltins x=some (.type T))(ha:JA X (e :: es) t)
  (hn:x ≠ "__name__" := by decide) (hdb:(x == ("__debug__" : Str))=false:=by decide) (he:starEach (e :: es) X.env=(false,eval e X.env) :: starEach es X.env:=by rfl) (hpl:(backTo pos (starEach es X.env)).any (·.1)=false:=by rfl):JE X (.Call (.Name x p) (e :: es) [] pos) (dCB g t):=⟨have ha:=ha.out;(a0h hc hg hm hv ha hn hdb he hpl).imp fun _ _ _ h=>b9i h⟩
def c2E:D→Mem→DK→Prop:=fun x M R=>∃ i,x = .int i∧R (.int (Builtin.Int.intBits i:Nat)) M
theorem b7K{apos cpos:Pos}(ho:JE X o to)(hbase:attributeBase o "bit_length" X.env (eval o X.env)=eval o X.env:=by rfl)(hline:(apos.endLine == cpos.line)=true:=by rfl):JE X (.Call (.Attribute o "bit_length" apos) [] [] cpos) (dUn c2E to):=⟨have ho:=ho.out;(c0g PySem.F.plainAttrs_int PySem.F.slot_int_bit_length PySem.F.type_int_bit_length b7E ho hbase hline).imp (by rintro σ H Q ⟨e,M,R,ok,am,t,f⟩;exact⟨e,M,_,ok,am,t,fun x M1 ⟨i,z,r⟩ v H1 k1 a1 r1=>by
  subst z;cases r1;exact⟨rfl,i,rfl,rfl,f _ M1 r _ H1 k1 a1 (.int _)⟩⟩)⟩
theorem b7u:OpR X (binaryOp .Add) (fun x y H Q=>∃ l b xs zs,x = .ref l∧y = .ref b∧SqL X.K H l xs∧SqL X.K H b zs∧xs.length+zs.length≤sizeLine∧∀ p,H p=none→Q (.ref p) (upd H p (.lst (xs++zs)))):=by
 intro pins s σ H x y v u Q I rx ry h
 obtain⟨l,b,xs,zs,rfl,rfl,hH,hB,hz,q⟩:=h
 cases rx
 cases ry
 obtain⟨its,r,pl,z1⟩:=I.list hH
 obtain⟨its2,r2,pl2,z2⟩:=I.list hB
 have hl:=r.length
 have hl2:=r2.length
 obtain⟨⟨cls,dd,data,sl⟩,ho,hc,n,hd⟩:=pl.isList
 obtain⟨⟨cls2,dd2,data2,sl2⟩,ho2,hc2,n2,hd2⟩:=pl2.isList
 simp only at hc hd hc2 hd2
 subst hc hd hc2 hd2
 have ea:its.toArray++its2.toArray=(its++its2).toArray:=by simp
 refine concat_meets ⟨_,ho,rfl⟩ ⟨_,ho2,rfl⟩ noFill_list_add seq_list_add PySem.F.slot_list_add PySem.F.entry_list_add (PySem.F.args_list_add_2 _ _) (list_addW l b its.toArray its2.toArray n n2 dd dd2 sl sl2 (by simp only[c69];omega)) ⟨ho,ho2,?_⟩
 rw[ea]
 exact⟨.ref _,_,I.lnew (t':=s.toks) (r.append r2) (by rw[c7l];omega),rfl,q _ I.fresh⟩
def U1(M:Mem):D→Option (List D)
 | .ref p=>match M p with
  | some (.lst ds)=>some ds
  | _=>none
 | .vl ds=>some ds
 | _=>none
theorem F5{K:c6M}{H:Hp}{M:Mem}{v:V}{d:D}{ds:List D}(am:u7 K H M)(h:Has K H v d)(e:U1 M d=some ds):∃ a xs,v = .ref a∧SqL K H a xs∧HasL K H xs ds:=by
 cases h with
 | ref p =>
  unfold U1 at e
  cases q:M p with
  | none=>simp[q]at e
  | some o =>
   cases o with
   | lst es =>
    simp only[q]at e
    cases e
    obtain⟨xs,hx,l⟩:=am.lst q
    exact⟨p,xs,rfl,SqL.of hx,l⟩
 | vl hq hl =>
  cases e
  exact Has.il (.vl hq hl)
 | _=>cases e
end
end DL
namespace DL
open PySem PySem.Spec L2
open PyProof.Rows hiding St
end DL
namespace DL
open PySem PySem.Spec L2
open PyProof.Rows hiding St
theorem sl(n:Nat)(h:n≤1000:=by decide):n≤sizeLine:=c6V h (by decide)
section
variable {X:Cx}
open Classical in
def c0K(neg:Bool):DR2:=fun x y M R=>cl 60 x=true∧cl 60 y=true∧R (.bl (neg.xor (decide (x=y)))) M
theorem y3(hu:X.A.units+64<cLine):DOp X (compareOp .Eq) (c0K false):=OpR.imp (c3I hu) (by rintro _ _ _ _ ⟨dx,dy,M,R,hx,hy,am,⟨h1,h2,h3⟩,f⟩;exact⟨dx,dy,M,R,hx,hy,am,b4T h3 h1 h2,f⟩)
theorem b0Y(hu:X.A.units+64<cLine):DOp X (compareOp .NotEq) (c0K true):=OpR.imp (c3G hu) (by rintro _ _ _ _ ⟨dx,dy,M,R,hx,hy,am,⟨h1,h2,h3⟩,f⟩;exact⟨dx,dy,M,R,hx,hy,am,b4T h3 h1 h2,f⟩)
theorem M8:DOp X (compareOp .Eq) (gF (fI fun i j=>.bl (decide (i=j)))):=OpR.imp b8W (by
 rintro x y H Q ⟨dx,dy,M,R,hx,hy,am,⟨z,e,r⟩,f⟩
 obtain⟨i,j,e1,e2,e3⟩:=a6Y e
 subst e1;subst e2;subst e3
 cases hx;cases hy
 refine⟨rfl,?_⟩
 have e:decide (V.int i=V.int j)=decide (i=j):=by simp
 rw[e]
 exact f _ M r _ H (KT.refl H) am (.bl _))
theorem a3U:DOp X (compareOp .NotEq) (gF (fI fun i j=>.bl (!decide (i=j)))):=OpR.imp b4i (by
 rintro x y H Q ⟨dx,dy,M,R,hx,hy,am,⟨z,e,r⟩,f⟩
 obtain⟨i,j,e1,e2,e3⟩:=a6Y e
 subst e1;subst e2;subst e3
 cases hx;cases hy
 refine⟨rfl,?_⟩
 have e:decide (V.int i=V.int j)=decide (i=j):=by simp
 rw[e]
 exact f _ M r _ H (KT.refl H) am (.bl _))
end
theorem b1Y{c:Prop}[Decidable c]{A B:Prop}(h1:c→A)(h2:¬ c→B):if decide c=true then A else B:=by
 by_cases h:c
 ·rw[if_pos (decide_eq_true h)];exact h1 h
 ·rw[if_neg (by rw[decide_eq_false h];exact c7k)];exact h2 h
theorem b4J{c:Prop}[Decidable c]{A B:Prop}(h1:¬ c→A)(h2:c→B):if (!decide c)=true then A else B:=by
 by_cases h:c
 ·rw[decide_eq_true h];rw[if_neg (by decide)];exact h2 h
 ·rw[decide_eq_false h];rw[if_pos (by decide)];exact h1 h
theorem F0{n k:Nat}(h:n<2 ^ k)(hk:0<k):n.log2<k:=by
 rcases c8h n with h0|h0
 ·subst h0;rw[Nat.log2_zero];exact hk
 ·exact(c9b (c9E.mp h0)).mpr h
theorem w6{a b:Int}(m n:Nat)(ha:a.natAbs<2 ^ m)(hb:b.natAbs<2 ^ n)(h:m+n≤100000):IntMulOk a b:=by
 have hx:∀(x:Int) (k:Nat),x.natAbs<2 ^ k→Builtin.Int.intBits x≤k:=fun x k hx=>by
  unfold Builtin.Int.intBits
  split
  ·exact c7L _
  ·rename_i h0
   have:x.natAbs≠0:=by
    intro z;apply h0
    first|exact(by simpa using Int.natAbs_eq_zero.mp z)|(simp;omega)
   have:=(c9b this).mpr hx
   omega
 exact PySem.IntMulOk.of_le (hx a m ha) (hx b n hb) (by omega)
end DL
namespace DL
open PySem PySem.Spec L2
open PyProof.Rows hiding St
def c3K(t T:String):Option Bool:=if PySem.W.kitMeta T=true then(fastBuiltinMro t).map (·.contains (.type T))else none
theorem c1R(K:c6M):b5F K:=by
 intro t T b h
 unfold b6K at h
 by_cases e:t=T
 ·subst e
  rw[if_pos rfl]at h
  cases h
  unfold PySem.W.kitOne
  rw[if_pos (beq_self_eq_true _)]
 ·rw[if_neg e]at h
  have hne:¬ (Value.type t == Value.type T)=true:=fun z=>e (by have:=eq_of_beq z;injection this)
  unfold PySem.W.kitOne
  rw[if_neg hne]
  show c3K t T=some b
  split at h
  ·cases h;decide +kernel
  ·split at h
   ·rename_i hh
    obtain⟨ht,hT⟩:=hh
    simp only[c7h,c7p,or_false]at ht hT
    cases h
    rcases ht with rfl|rfl|rfl|rfl|rfl|rfl|rfl<;>rcases hT with rfl|rfl|rfl|rfl|rfl<;>first|exact absurd rfl e|decide +kernel|(exfalso;simp_all)
   ·cases h
theorem a9S{K:c6M}{H:Hp}{a:Addr}{ns:List Int}(hO:b2o H)(hS:SqL K H a (ns.map V.int)):Has K H (.ref a) (.vl (ns.map D.int)):=by
 rcases hS with(h|⟨o,h⟩)|h
 ·rcases hO a with z|⟨o,xs,z⟩
  ·rw[z]at h;cases h
  ·rw[z]at h;cases h
 ·exact .vl (.inl ⟨o,h⟩) (HasL.ints ns)
 ·exact .vl (.inr fun _=>.inr h) (HasL.ints ns)
theorem c0w{K:c6M}{H:Hp}{a:Addr}{ns:List Int}{sp:DSp}(hO:b2o H)(hS:SqL K H a (ns.map V.int))(h:sp [.vl (ns.map D.int)] (fun _=>none) (fun d _=>d = .bl true) Y0) :
  a7O K sp [.ref a] H (fun v _=>v = .bl true) (fun _ _ _=>False) :=
 ⟨[.vl (ns.map D.int)],fun _=>none,fun d _=>d = .bl true,Y0,.cons (a9S hO hS) .nil,fun _ _ z=>(by cases z),h,fun d M' e v H' _ _ hv=>by subst e;cases hv;rfl,fun _ _ z=>z.elim⟩
end DL
namespace DL
open PySem PySem.Spec L2
open PyProof.Rows hiding St
section
variable {X:Cx} {o e:Expr} {es:List Expr} {to:DTE} {t:DTA} {name:Str} {apos cpos:Pos} {id:String}
abbrev DRM:=D→List D→Mem→DK→Prop
def upM(K:c6M)(g:DRM):V→List V→Hp→VK→Prop:=fun x xs H Q=>∃ dx ds M R,Has K H x dx∧HasL K H xs ds∧u7 K H M∧g dx ds M R∧a4b K H R Q
def DMt(X:Cx)(id:String)(g:DRM):Prop:=MtR X id (upM X.K g)
theorem MtR.imp{r r':V→List V→Hp→VK→Prop}(h:MtR X id r)(i:∀ x xs H Q,r' x xs H Q→r x xs H Q):MtR X id r':=fun pins s σ H x xs v us Q I rx rv q=>h pins s σ H x xs v us Q I rx rv (i x xs H Q q)
def dLM(g:DRM)(to:DTE)(t:DTA):DTE:=fun e M R=>to e M fun x M1=>(∃ l ds,x = .ref l∧M1 l=some (.lst ds))∧t e M1 fun xs M2=>g x xs M2 R
theorem X9{g:DRM}(slot:Slot "list" name id)(hty:typeOf (.builtin id)=pure (.type "method_descriptor"))(hm:DMt X id g)(ho:JE X o to)(ha:JA X (e :: es) t)
  (hbase:attributeBase o name X.env (eval o X.env)=eval o X.env:=by rfl)
  (hfew:((backTo cpos (starEach (e :: es) X.env)).all (fun x=>!x.1) && (backToKw cpos (keywordEach [] X.env)).all (fun x=>x.1.isSome)
   && decide ((e :: es).length+([]:List Keyword).length+(if ([]:List Keyword).isEmpty then 0 else 1)<30))=true:=by rfl)
  (hline:(apos.endLine == cpos.line)=true:=by rfl) (hs:starEach (e :: es) X.env=(false,eval e X.env) :: starEach es X.env:=by rfl) (hplain:(backTo cpos (starEach es X.env)).any (·.1)=false:=by rfl):JE X (.Call (.Attribute o name apos) (e :: es) [] cpos) (dLM g to t):=⟨have ho:=ho.out;have ha:=ha.out;(c2e PySem.F.plainAttrs_list slot hty hm ho ha hbase hfew hline hs hplain).imp (by rintro σ H Q ⟨e,M,R,ok,am,t,f⟩;exact⟨e,M,_,ok,am,t,fun x M1 ⟨⟨l,ds,z,hM⟩,h1⟩ v H1 k1 a1 r1=>by
  subst z
  have r1':=r1
  cases r1
  obtain⟨xs,hx,_⟩:=a1.lst hM
  refine⟨.inl ⟨rfl,xs,SqL.of hx⟩,e,M1,_,ok.mono k1,a1,h1,fun zs M2 h2 vs H2 k2 a2 r2=>?_⟩
  exact⟨_,zs,M2,R,r1'.mono k2,r2,a2,h2,f.mono (k1.trans k2)⟩⟩)⟩
theorem a3h:∀{bs:List Bool} {us:List Value},p0 (bs.map V.bl) us→us=bs.map Value.bool
 | [],_,r=>by cases r;rfl
 | b :: bs,_,r=>by
  cases r with
  | cons r rr =>
   cases(show _=Value.bool b from r)
   rw[a3h rr];rfl
theorem HasL.bools{K:c6M}{H:Hp}:∀{bs:List Bool} {vs:List V},HasL K H vs (bs.map D.bl)→vs=bs.map V.bl
 | [],_,r=>by cases r;rfl
 | b :: bs,_,r=>by
  cases r with
  | cons r rr=>cases r;rw[HasL.bools rr];rfl
def fB(f:Bool→Bool→D):D→D→Option D
 | .bl i,.bl j=>some (f i j)
 | _,_=>none
theorem b7T{f:Bool→Bool→D}{x y z:D}(h:fB f x y=some z):∃ i j,x = .bl i∧y = .bl j∧z=f i j:=by
 cases x with
 | bl i =>
  cases y with
  | bl j=>exact⟨i,j,rfl,rfl,(Option.some.inj h).symm⟩
  | _=>cases h
 | _=>cases h
theorem c2m:DOp X (compareOp .NotEq) (gF (fB fun i j=>.bl (!(i == j)))):=OpR.imp b4i (by
 rintro x y H Q ⟨dx,dy,M,R,hx,hy,am,⟨z,e,r⟩,f⟩
 obtain⟨i,j,e1,e2,e3⟩:=b7T e
 subst e1;subst e2;subst e3
 cases hx;cases hy
 exact⟨rfl,by rw[a9T];exact f _ M r _ H (KT.refl H) am (.bl _)⟩)
end
end DL
namespace DL
open PySem PySem.Spec L2
open PyProof.Rows hiding St
section
variable {X:Cx}
def b8Y:DRC:=fun ds M R=>∃ x ys,ds=[x]∧U1 M x=some ys∧R (.tup ys) M
theorem c0U:a1H X (.type "tuple") b8Y:=D2.imp a4L (by
 rintro xs H Q ⟨ds,M,R,hl,am,⟨x,ys,z,e,r⟩,f⟩
 subst z
 obtain⟨v,rfl,hv⟩:=hl.one
 obtain⟨a,vs,rfl,s,l⟩:=F5 am hv e
 exact⟨a,vs,rfl,.inl ⟨s,fun p hp=>f _ M r _ _ (KT.alloc hp) (am.alloc hp) (.tup (SqT.of j7) (l.mono (KT.alloc hp)))⟩⟩)
def c2D:DR2:=fun x y M R=>∃ xs ys,x = .tup xs∧y = .tup ys∧xs≠[]∧ys≠[]∧xs.length+ys.length≤sizeLine∧R (.tup (xs++ys)) M
end
end DL
namespace DL
open PySem PySem.Spec L2
open PyProof.Rows hiding St
section
variable {X:Cx} {st:Stmt} {E8:List Stmt} {t u:DTS}
def b87(t u:DTS):DTS:=fun F e M=>∃ P:Ev→Mem→Prop,t { F with nx:=P } e M∧∀ e' M',P e' M'→u F e' M'
theorem Q7(h1:JS X st t)(h2:JSs X E8 u):JSs X (st :: E8) (b87 t u):=⟨have h1:=h1.out;have h2:=h2.out;(a8b h1 h2).imp (by rintro E σ H ⟨e,M,F,ok,am,⟨P,t,hP⟩,f⟩;exact⟨e,M,{ F with nx:=P },ok,am,t,⟨fun e' M' h σ' H' k a o=>⟨e',M',F,o,a,hP e' M' h,f.mono k⟩,f.rt,f.bk,f.ct⟩⟩)⟩
end
section
variable {X:Cx}
theorem a9G:DOp X (binaryOp .Add) c2D:=OpR.imp b7t (by
 rintro x y H Q ⟨dx,dy,M,R,hx,hy,am,⟨xs,ys,e1,e2,n1,n2,hz,r⟩,f⟩
 subst e1;subst e2
 cases hx with
 | tup s1 l1 =>
  cases hy with
  | tup s2 l2 =>
   have k1:=l1.length
   have k2:=l2.length
   refine⟨_,_,_,_,rfl,rfl,s1,s2,?_,by rw[k1,k2];exact hz,fun z=>?_,fun _ p hp=>?_⟩
   ·intro z;subst z
    cases l1;exact n1 rfl
   ·subst z
    cases l2;exact absurd rfl n2
   ·exact f _ M r _ _ (KT.alloc hp) (am.alloc hp) (.tup (SqT.of j7) ((l1.append l2).mono (KT.alloc hp))))
theorem b1N(bs:List Bool):(c7K bs.length).all (fun i=>bs.getD i true)=bs.all id:=by
 have:(c7K bs.length).map (fun i=>bs.getD i true)=bs:=by
  apply c8I (by simp)
  intro i h1 h2
  simp[c7C,h2]
 conv=>rhs;rw[← this]
 rw[List.all_map];rfl
theorem a7P{prog:Program}{w:World}{A:Around}(bs:List Bool):TruthOf prog w A (fun i v=>(bs.map Value.bool).toArray[i]? = some v) (fun i=>bs.getD i true):=by
 intro i v s Q E h q
 have h':(bs.map Value.bool)[i]? = some v:=by simpa using h
 rw[c6Y]at h'
 cases e:bs[i]? with
 | none=>rw[e]at h';cases h'
 | some b =>
  rw[e]at h'
  cases h'
  have q':Q b s:=by simpa[c7C,e]using q
  exact wpAny_truthy_bool q'
theorem b2i(hc:X.calm=true):D2 X (.builtin "all") (fun xs H Q=>∃(l:Addr) (bs:List Bool),xs=[.ref l]∧SqL X.K H l (bs.map V.bl)∧Q (.bl (bs.all id)) H):=by
 intro pins s σ H xs us Q I r h
 obtain⟨l,bs,rfl,hS,q⟩:=h
 obtain⟨u,rfl,ru⟩:=a2i r
 cases ru
 obtain⟨its,rv,p,_⟩:=I.list hS
 have hb:=a3h rv
 subst hb
 have hl:s.heap.IsList l (bs.map Value.bool).toArray:=p.isList
 have hne:l≠s.heap.objs.size:=by
  obtain⟨o,e,_⟩:=id hl
  exact c7v (c6X e)
 refine call_all_walk (wpAny_pyIter_list hl ?_)
 refine⟨s.heap.objs.size,_,_,_,_,_,fun i=>bs.getD i true,rfl,Walks.list (A:=X.A.in1) (I.ok.hd hc) s.heap.objs.size l hne (bs.map Value.bool).toArray,⟨⟨_,c6W _ rfl,rfl,rfl⟩,hl.at fun o e=>c6O _ e⟩,a7P bs,fun h' tk kk=>?_⟩
 have e:(c7K (bs.map Value.bool).toArray.size).all (fun i=>bs.getD i true)=bs.all id:=by
  rw[show(bs.map Value.bool).toArray.size=bs.length by simp];exact b1N bs
 rw[e]
 exact⟨.bl (bs.all id),H,I.kept fun b o z=>kk b o (by simp;exact c7v (c6X z)) (c6O _ z),rfl,q⟩
def c2F:DRC:=fun ds M R=>∃(d:D) (bs:List Bool),ds=[d]∧U1 M d=some (bs.map D.bl)∧R (.bl (bs.all id)) M
theorem c2Y(hc:X.calm=true):a1H X (.builtin "all") c2F:=D2.imp (b2i hc) (by
 rintro xs H Q ⟨ds,M,R,hl,am,⟨d,bs,z,hM,r⟩,f⟩
 subst z
 obtain⟨v,rfl,hv⟩:=hl.one
 obtain⟨a,vs,rfl,s,l⟩:=F5 am hv hM
 rw[l.bools]at s
 exact⟨a,bs,rfl,s,f _ M r _ H (KT.refl H) am (.bl _)⟩)
end
theorem c0W:bootBuiltins "all" = some (.builtin "all"):=by decide +kernel
structure GlD(K:c6M)(mg:Str→Option Value)(x:Str)(d:D):Prop where
 ex:∃(v:V) (u:Value),mg x=some u∧u0 v u∧c3g K v d
theorem o6{X:Cx}{x:Str}{d:D}{pos:Pos}(hg:Gl X x)(g:GlD X.K X.mg x d)(hd:(x == ("__debug__" : Str))=false:=by decide):JE X (.Name x pos) (dC d):=⟨by
 obtain⟨v,u,h1,h2,h3⟩:=g.ex
 exact c0Q hg h1 h2 h3 hd⟩
theorem a2Q{K:c6M}{mg:Str→Option Value}{h:Heap}{x:Str}{a:Addr}{od:Option Addr}{osl:Array (Option Value)}{i j:Int}{t u:Tok}{cap:Nat}(X:K.In h)(G:h.Ns mainGlobals mg)
  (n:PySem.W.nsIn K mainGlobals x=some (some (.ref a))) (l:K.lookup a=some ⟨.type "tuple",od,.seq #[.int i t,.int j u] cap,osl⟩):GlD K mg x (.tup [.int i,.int j]) :=
 ⟨.ref a,.ref a,PySem.W.mg_of X G n,rfl,fun H=>.tup (xs:=[.int i,.int j]) (.inr ⟨_,_,_,l,rfl,rfl,(show 2≤sizeLine by decide),.cons (show u0 (.int i) (.int i t)from⟨t,rfl⟩) (.cons (show u0 (.int j) (.int j u)from⟨u,rfl⟩) .nil)⟩) (.cons (.int i) (.cons (.int j) .nil))⟩
def fS(f:Str→Str→D):D→D→Option D
 | .str i,.str j=>some (f i j)
 | _,_=>none
theorem b1g{f:Str→Str→D}{x y z:D}(h:fS f x y=some z):∃ i j,x = .str i∧y = .str j∧z=f i j:=by
 cases x with
 | str i =>
  cases y with
  | str j=>exact⟨i,j,rfl,rfl,(Option.some.inj h).symm⟩
  | _=>cases h
 | _=>cases h
section
variable {X:Cx}
theorem u3:DOp X (compareOp .Eq) (gF (fS fun i j=>.bl (decide (i=j)))):=OpR.imp b8W (by
 rintro x y H Q ⟨dx,dy,M,R,hx,hy,am,⟨z,e,r⟩,f⟩
 obtain⟨i,j,e1,e2,e3⟩:=b1g e
 subst e1;subst e2;subst e3
 cases hx;cases hy
 refine⟨rfl,?_⟩
 have e:decide (V.str i=V.str j)=decide (i=j):=by simp
 rw[e]
 exact f _ M r _ H (KT.refl H) am (.bl _))
theorem b0X:DOp X (compareOp .NotEq) (gF (fS fun i j=>.bl (!decide (i=j)))):=OpR.imp b4i (by
 rintro x y H Q ⟨dx,dy,M,R,hx,hy,am,⟨z,e,r⟩,f⟩
 obtain⟨i,j,e1,e2,e3⟩:=b1g e
 subst e1;subst e2;subst e3
 cases hx;cases hy
 refine⟨rfl,?_⟩
 have e:decide (V.str i=V.str j)=decide (i=j):=by simp
 rw[e]
 exact f _ M r _ H (KT.refl H) am (.bl _))
end
end DL
namespace DL
open PySem PySem.Spec L2
open PyProof.Rows hiding St
structure a7a(K:c6M)(H1:Hp)(J:It)(ds:List D)(stay:Mem→Prop):Prop where
 go:∀ i H' M',i<ds.length→KT H1 H'→u7 K H' M'→stay M'→J.go i H'
 yld:∀ i H' M' x H'',i<ds.length→KT H1 H'→u7 K H' M'→stay M'→J.yld i H' x H''→∃ d,ds[i]? = some d∧KT H' H''∧u7 K H'' M'∧Has K H'' x d
 stop:∀ i H' M',ds.length≤i→KT H1 H'→u7 K H' M'→stay M'→J.stop i H'
 up:∀ M' p o,stay M'→M' p=none→stay (C1 M' p o)
def upI(K:c6M)(ti:DTI):TI:=fun σ H R=>∃ e M R',B2 K H σ e∧u7 K H M∧ti e M R'∧∀ ds stay M1,R' ds stay M1→∀ H1,KT H H1→u7 K H1 M1→∀ J,a7a K H1 J ds stay→R J H1
def DPI(X:Cx)(tg iter:Expr)(ti:DTI):Prop:=PI X tg iter (upI X.K ti)
structure JI(X:Cx)(tg iter:Expr)(ti:DTI):Prop where
 out:DPI X tg iter ti
theorem PI.imp{X:Cx}{tg iter:Expr}{wi wi':TI}(h:PI X tg iter wi)(i:∀ σ H R,wi' σ H R→wi σ H R):PI X tg iter wi':=fun pins s σ H R I q=>h pins s σ H R I (i σ H R q)
section
variable {X:Cx} {tg iter:Expr} {ti:DTE} {ta:DTA}
theorem b3j{K:c6M}{H1:Hp}{a:Addr}{xs:List V}{ds:List D}(s:SqT K H1 a xs)(l:HasL K H1 xs ds):a7a K H1 (Itt K a) ds (fun _=>True) where
 go:=fun i H' M' hi k _ _=>⟨xs,_,k.sq s,c7e (by rw[l.length];exact hi)⟩
 yld:=fun i H' M' x H'' hi k am _ zz=>by
  obtain⟨e,y⟩:=zz
  subst e
  obtain⟨d,hd,r⟩:=l.getV (y xs (k.sq s))
  exact⟨d,hd,KT.refl _,am,r.mono k⟩
 stop:=fun i H' M' hi k _ _=>⟨xs,k.sq s,by rw[l.length];exact hi⟩
 up:=fun _ _ _ _ _=>trivial
theorem b3m{K:c6M}{H1:Hp}{p:Addr}{ds:List D}:a7a K H1 (Itl K p) ds (fun M'=>M' p=some (.lst ds)) where
 go:=fun i H' M' hi k am st=>by
  obtain⟨ys,hy,ly⟩:=am.lst st
  exact⟨ys,_,SqL.of hy,c7e (by rw[ly.length];exact hi)⟩
 yld:=fun i H' M' x H'' hi k am st zz=>by
  obtain⟨e,y⟩:=zz
  subst e
  obtain⟨ys,hy,ly⟩:=am.lst st
  obtain⟨d,hd,r⟩:=ly.getV (y ys (SqL.of hy))
  exact⟨d,hd,KT.refl _,am,r⟩
 stop:=fun i H' M' hi k am st=>by
  obtain⟨ys,hy,ly⟩:=am.lst st
  exact⟨ys,SqL.of hy,by rw[ly.length];exact hi⟩
 up:=fun M' q o st hq=>by rw[F9 (by intro e;subst e;rw[hq]at st;cases st)];exact st
theorem b3k{K:c6M}{H1:Hp}{lo:Int}{n:Nat}:a7a K H1 (Itr lo n) (T9 lo n) (fun _=>True) where
 go:=fun i H' M' hi k am st=>by rw[q9]at hi;exact hi
 yld:=fun i H' M' x H'' hi k am st zz=>by
  obtain⟨e,y⟩:=zz
  subst e;subst y
  rw[q9]at hi
  exact⟨_,a3I hi,KT.refl _,am,.int _⟩
 stop:=fun i H' M' hi k am st=>by rw[q9]at hi;exact hi
 up:=fun _ _ _ _ _=>trivial
theorem a1t{a:Expr}{p p2:Pos}(hr:Gl X "range")(hm:X.mg "range" = none)(ha:JA X [a] ta)(hs0:starEach [a] X.env=[(false,eval a X.env)]:=by rfl):JI X tg (.Call (.Name "range" p) [a] [] p2) (b84 ta):=⟨have ha:=ha.out;PI.imp (b1Q hr hm ha hs0) (by rintro σ H R ⟨e,M,R',ok,am,t,f⟩;exact⟨e,M,_,ok,am,t,fun ds M1 ⟨j,z,b1,b2,r⟩ vs H1 k1 a1 r1=>by
  subst z
  obtain⟨v,rfl,hv⟩:=r1.one
  cases hv
  exact⟨j,rfl,b1,b2,f _ _ M1 r H1 k1 a1 _ b3k⟩⟩)⟩
def B6(M:Mem)(x:D)(ds:List D):Prop:=x = .tup ds∨(∃ p,x = .ref p∧M p=some (.lst ds))∨x = .vl ds
def a31:D→Bool
 | .tup _=>false
 | _=>true
theorem A5{K:c6M}{H:Hp}{M:Mem}{v:V}{x:D}{ds:List D}(h:B6 M x ds)(am:u7 K H M)(r:Has K H v x):∃ a xs,v = .ref a∧SqK K (a31 x) H a xs∧HasL K H xs ds:=by
 rcases h with rfl|⟨p,rfl,m⟩|rfl
 rotate_left 2
 ·obtain⟨a,xs,e,sq,l⟩:=r.il
  exact⟨a,xs,e,sq,l⟩
 ·cases r with
  | tup s l=>exact⟨_,_,rfl,s,l⟩
 ·cases r
  obtain⟨xs,hx,l⟩:=am.lst m
  exact⟨p,xs,rfl,SqL.of hx,l⟩
theorem Z1{M:Mem}{x:D}{ds:List D}{q:Addr}{o:MO}(h:B6 M x ds)(hq:M q=none):B6 (C1 M q o) x ds:=by
 rcases h with h|⟨p,e,h⟩|h
 ·exact .inl h
 ·exact .inr (.inl ⟨p,e,by rw[F9 (by intro e;subst e;rw[hq]at h;cases h)];exact h⟩)
 ·exact .inr (.inr h)
def V6(ds es:List D):List D:=List.zipWith (fun a b=>.tup [a,b]) ds es
theorem V5(ds es:List D):(V6 ds es).length=min ds.length es.length:=by simp[V6]
theorem b2p{ds es:List D}{i:Nat}{a b:D}(h1:ds[i]? = some a)(h2:es[i]? = some b):(V6 ds es)[i]? = some (.tup [a,b]):=by
 unfold V6
 rw[c8j,h1,h2]
theorem b3i{K:c6M}{H1:Hp}{x y:D}{l1 l2:Addr}{ds es:List D}(h1:Has K H1 (.ref l1) x)(h2:Has K H1 (.ref l2) y) :
  a7a K H1 (Itz K (a31 x) (a31 y) l1 l2) (V6 ds es) (fun M'=>B6 M' x ds∧B6 M' y es) where
 go:=fun i H' M' hi k am zz=>by
  obtain⟨s1,s2⟩:=zz
  rw[V5]at hi
  obtain⟨a,xs,e1,q1,m1⟩:=A5 s1 am (h1.mono k)
  obtain⟨b,ys,e2,q2,m2⟩:=A5 s2 am (h2.mono k)
  cases e1;cases e2
  exact⟨xs,ys,_,_,q1,q2,c7e (by rw[m1.length];omega),c7e (by rw[m2.length];omega)⟩
 yld:=fun i H' M' v H'' hi k am ⟨s1,s2⟩ ⟨T,a,b,hT,ev,eH,u1,u2⟩=>by
  subst ev;subst eH
  obtain⟨a',xs,e1,q1,m1⟩:=A5 s1 am (h1.mono k)
  obtain⟨b',ys,e2,q2,m2⟩:=A5 s2 am (h2.mono k)
  cases e1;cases e2
  obtain⟨d1,g1,r1⟩:=m1.getV (u1 xs q1)
  obtain⟨d2,g2,r2⟩:=m2.getV (u2 ys q2)
  have kt:KT H' (upd H' T (.tup [a,b])):=KT.alloc hT
  exact⟨_,b2p g1 g2,kt,am.alloc hT,.tup (SqT.of j7) (.cons (r1.mono kt) (.cons (r2.mono kt) .nil))⟩
 stop:=fun i H' M' hi k am zz=>by
  obtain⟨s1,s2⟩:=zz
  rw[V5]at hi
  obtain⟨a,xs,e1,q1,m1⟩:=A5 s1 am (h1.mono k)
  obtain⟨b,ys,e2,q2,m2⟩:=A5 s2 am (h2.mono k)
  cases e1;cases e2
  refine⟨xs,ys,q1,q2,?_⟩
  rw[m1.length,m2.length]
  omega
 up:=fun _ _ _ st hq=>⟨Z1 st.1 hq,Z1 st.2 hq⟩
def b82(ta:DTA):DTI:=fun e M R=>ta e M fun xs M1=>∃ x y ds es,xs=[x,y]∧B6 M1 x ds∧B6 M1 y es∧R (V6 ds es) (fun M'=>B6 M' x ds∧B6 M' y es) M1
theorem a6T{elts:List Expr}{kx:Nat}{tp:Pos}{a b:Expr}{p pos:Pos}(hg:Gl X "zip")(hm:X.mg "zip" = none)(ha:JA X [a,b] ta)
  (hs:starEach [a,b] X.env=[(false,eval a X.env),(false,eval b X.env)]:=by rfl) (hs2:starEach [b] X.env=[(false,eval b X.env)]:=by rfl):JI X (.Tuple elts kx tp) (.Call (.Name "zip" p) [a,b] [] pos) (b82 ta):=⟨have ha:=ha.out;PI.imp (b96 hg hm ha hs hs2) (by rintro σ H R ⟨e,M,R',ok,am,t,f⟩;exact⟨e,M,_,ok,am,t,fun xs M1 ⟨x,y,ds,es,z,s1,s2,r⟩ vs H1 k1 a1 r1=>by
  subst z
  obtain⟨v,v',rfl,hv,hv'⟩:=r1.two
  obtain⟨a,zs,rfl,q1,m1⟩:=A5 s1 a1 hv
  obtain⟨b,ws,rfl,q2,m2⟩:=A5 s2 a1 hv'
  exact⟨_,_,a,b,rfl,⟨zs,q1⟩,⟨ws,q2⟩,f _ _ M1 r H1 k1 a1 _ (b3i hv hv')⟩⟩)⟩
end
section
variable {X:Cx} {tg iter:Expr} {body:List Stmt} {ti:DTI} {g:DTG} {tb:DTS} {pos:Pos}
theorem A7(hp:PassesOwn (model X.prog X.w) X.A X.env X.xe)(hc:X.calm=true)(hi:JI X tg iter ti)(hg:JG X tg g)(hb:JSs X body tb)
  (hs:∀ x,foldedSetIterable iter X.env x=pure x:=by intro _;rfl):JS X (.For tg iter body [] pos) (c2T ti g tb):=⟨have hi:=hi.out;have hg:=hg.out;have hb:=hb.out;(b94 hp hc hi hg hb hs).imp (by rintro E σ H ⟨e,M,F,ok,am,t,f⟩;exact⟨e,M,_,ok,am,t,fun ds stay M1 ⟨W,w0,hst,step,done⟩ H1 k1 a1 J wk=>by
  refine⟨fun i m σ' H'=>m=ds.length - i∧i≤ds.length∧∃ e' M',KT H1 H'∧B2 X.K H' σ' e'∧u7 X.K H' M'∧W i e' M',⟨ds.length,by simp,c7L _,e,M1,KT.refl H1,ok.mono k1,a1,w0⟩,?_⟩
  rintro i m σ2 H2 ⟨rfl,hi,e2,M2,k2,ok2,a2,w2⟩
  have st:=hst i e2 M2 hi w2
  by_cases hlt:i<ds.length
  ·refine .inr ⟨wk.go i H2 M2 hlt k2 a2 st,fun σ' H'=>∃ e' M',KT H1 H'∧B2 X.K H' σ' e'∧u7 X.K H' M'∧W (i+1) e' M',fun σ' H' h=>⟨ds.length - (i+1),by omega,rfl,hlt,h⟩,fun y H' yl=>?_⟩
   obtain⟨d,hd,k3,a3,r⟩:=wk.yld i H2 M2 y H' hlt k2 a2 st yl
   exact b4U f k1 (k2.trans k3) (ok2.mono k3) a3 r (step i d e2 M2 hd w2)
  ·have e':i=ds.length:=by omega
   subst e'
   exact .inl ⟨wk.stop _ H2 M2 (c7b _) k2 a2 st,f.nx e2 M2 (done e2 M2 w2) σ2 H2 (k1.trans k2) a2 ok2⟩⟩)⟩
end
def a4K(n:Nat)(caps:List Nat)(e:Ev):Ev:=c8f n none++caps.map fun i=>(e[i]?).getD none
theorem b7V{K:c6M}{H:Hp}{σ:St}{e:Ev}(n:Nat)(caps:List Nat)(ok:B2 K H σ e):B2 K H (a64 n caps σ) (a4K n caps e):=by
 refine⟨by simp[a64,a4K],fun i d h=>?_⟩
 unfold a4K at h
 unfold a64
 rw[c8N]at h ⊢
 rw[c8D]at h ⊢
 by_cases hi:i<n
 ·rw[if_pos hi]at h
  rw[c70]at h
  split at h<;>cases h
 ·rw[if_neg hi]at h ⊢
  rw[c6Y]at h ⊢
  cases hj:caps[i - n]? with
  | none=>rw[hj]at h;cases h
  | some j =>
   rw[hj]at h
   have h':(e[j]?).getD none=some d:=by simpa using h
   have he:e[j]? = some (some d):=by
    cases q:e[j]? with
    | none=>rw[q]at h';cases h'
    | some z=>rw[q]at h';rw[show z=some d by simpa using h']
   obtain⟨v,h1,h2⟩:=ok.has j d he
   exact⟨v,by simp[h1],h2⟩
theorem a4O{p:Str→Prop}{a:Str}(h:p a):∀ x∈[a],p x:=fun x hx=>by
 simp only[c7h,c7p,or_false]at hx
 subst hx;exact h
theorem b2l{p:Str→Prop}{a b:Str}(h:p a)(h2:p b):∀ x∈[a,b],p x:=fun x hx=>by
 simp only[c7h,c7p,or_false]at hx
 rcases hx with rfl|rfl
 ·exact h
 ·exact h2
end DL
namespace DL
open PySem PySem.Spec L2
open PyProof.Rows hiding St
section
variable {X:Cx}
def c3O(K:c6M)(tl:TE):TI:=fun σ H R=>tl σ H fun x H1=>∃(a:Addr) (k:Bool),x = .ref a∧(∃ xs,SqK K k H1 a xs)∧R (if k=true then Itl K a else Itt K a) H1
theorem b97{tg l:Expr}{tl:TE}(hl:PE X l tl):PI X tg l (c3O X.K tl):=by
 intro pins s σ H R I h
 refine thn (hl pins s σ H _ I h) fun v s1 zz=>?_
 obtain⟨x,H1,I1,r1,q1⟩:=zz
 obtain⟨a,k,e,⟨xs,hq⟩,q⟩:=q1
 subst e
 cases r1
 obtain⟨its,rv,p⟩:=I1.sqk hq
 have nf:∀ b∈[s1.heap.objs.size],a00 X pins H1 b:=fun b hb=>by
  have e:b=s1.heap.objs.size:=by simpa using hb
  subst e
  exact I1.fpOk (c7b _) (I1.hok.fresh (c7b _))
 cases k with
 | true=>exact wpAny_pyIter_list p ⟨s1.heap.objs.size,[s1.heap.objs.size],_,_,H1,rfl,I1.kept (t':=s1.toks) fun b o e=>c6O _ e,b1A a _,⟨_,c6W _ rfl,rfl,rfl⟩,nf,q⟩
 | false=>exact wpAny_pyIter_tuple p ⟨s1.heap.objs.size,[s1.heap.objs.size],_,_,H1,rfl,I1.kept (t':=s1.toks) fun b o e=>c6O _ e,a8Y a _,⟨_,c6W _ rfl,rfl,rfl⟩,nf,q⟩
def b83(ti:DTE):DTI:=fun e M R=>ti e M fun x M1=>∃ ds,B6 M1 x ds∧R ds (fun M'=>B6 M' x ds) M1
theorem B4{tg iter:Expr}{ti:DTE}(hi:JE X iter ti):JI X tg iter (b83 ti):=⟨have hi:=hi.out;PI.imp (b97 hi) (by rintro σ H R ⟨e,M,R',ok,am,t,f⟩;exact⟨e,M,_,ok,am,t,fun x M1 ⟨ds,sq,r⟩ v H1 k1 a1 r1=>by
 have sq':=sq
 rcases sq with rfl|⟨p,rfl,hm⟩|rfl
 rotate_left 2
 ·obtain⟨a,xs,rfl,sq,l⟩:=r1.il
  have wk:a7a X.K H1 (Itl X.K a) ds (fun M'=>B6 M' (.vl ds) ds):=⟨fun i H' M' hi k am _=>by
    obtain⟨a',ys,e,sq',l'⟩:=(r1.mono k).il
    cases e
    exact⟨ys,_,sq',c7e (by rw[l'.length];exact hi)⟩,
   fun i H' M' x H'' hi k am _ zz=>by
    obtain⟨e,y⟩:=zz
    subst e
    obtain⟨a',ys,e,sq',l'⟩:=(r1.mono k).il
    cases e
    obtain⟨d,hd,r⟩:=l'.getV (y ys sq')
    exact⟨d,hd,KT.refl _,am,r⟩,
   fun i H' M' hi k am _=>by
    obtain⟨a',ys,e,sq',l'⟩:=(r1.mono k).il
    cases e
    exact⟨ys,sq',by rw[l'.length];exact hi⟩,fun _ _ _ st hq=>Z1 st hq⟩
  exact⟨a,true,rfl,⟨xs,sq⟩,f ds _ M1 r H1 k1 a1 _ wk⟩
 ·cases r1 with
  | tup s l =>
   refine⟨_,false,rfl,⟨_,s⟩,f ds _ M1 r H1 k1 a1 _ ?_⟩
   have w:=b3j (K:=X.K) s l
   exact⟨fun i H' M' a b c _=>w.go i H' M' a b c trivial,fun i H' M' y H2 a b c _ g=>w.yld i H' M' y H2 a b c trivial g,fun i H' M' a b c _=>w.stop i H' M' a b c trivial,fun _ _ _ st hq=>Z1 st hq⟩
 ·cases r1
  obtain⟨xs,hx,l⟩:=a1.lst hm
  refine⟨p,true,rfl,⟨xs,SqL.of hx⟩,f ds _ M1 r H1 k1 a1 _ ?_⟩
  have w:=b3m (K:=X.K) (H1:=H1) (p:=p) (ds:=ds)
  have cv:∀{M':Mem},B6 M' (.ref p) ds→M' p=some (.lst ds):=fun z=>by
   rcases z with z|⟨p',z,h⟩|z
   ·cases z
   ·cases z;exact h
   ·cases z
  exact⟨fun i H' M' a b c z=>w.go i H' M' a b c (cv z),fun i H' M' y H2 a b c z g=>w.yld i H' M' y H2 a b c (cv z) g,fun i H' M' a b c z=>w.stop i H' M' a b c (cv z),fun _ _ _ st hq=>Z1 st hq⟩⟩)⟩
end
theorem b4O{K:c6M}{mg:Str→Option Value}{h:Heap}{x:Str}{a b c:Addr}{od od1 od2:Option Addr}{osl osl1 osl2:Array (Option Value)}{i j k l:Int}{t1 t2 t3 t4:Tok}{cap cap1 cap2:Nat}(X:K.In h)(G:h.Ns mainGlobals mg)
  (n:PySem.W.nsIn K mainGlobals x=some (some (.ref a))) (l0:K.lookup a=some ⟨.type "tuple",od,.seq #[.ref b,.ref c] cap,osl⟩)
  (l1:K.lookup b=some ⟨.type "tuple",od1,.seq #[.int i t1,.int j t2] cap1,osl1⟩) (l2:K.lookup c=some ⟨.type "tuple",od2,.seq #[.int k t3,.int l t4] cap2,osl2⟩):GlD K mg x (.tup [.tup [.int i,.int j],.tup [.int k,.int l]]):=by
 have two:(2:Nat)≤sizeLine:=by decide
 have p1:∀ H:Hp,Has K H (.ref b) (.tup [.int i,.int j]):=fun H=>.tup (xs:=[.int i,.int j]) (.inr ⟨_,_,_,l1,rfl,rfl,two,.cons (show u0 (.int i) (.int i t1)from⟨t1,rfl⟩) (.cons (show u0 (.int j) (.int j t2)from⟨t2,rfl⟩) .nil)⟩) (.cons (.int i) (.cons (.int j) .nil))
 have p2:∀ H:Hp,Has K H (.ref c) (.tup [.int k,.int l]):=fun H=>.tup (xs:=[.int k,.int l]) (.inr ⟨_,_,_,l2,rfl,rfl,two,.cons (show u0 (.int k) (.int k t3)from⟨t3,rfl⟩) (.cons (show u0 (.int l) (.int l t4)from⟨t4,rfl⟩) .nil)⟩) (.cons (.int k) (.cons (.int l) .nil))
 exact⟨.ref a,.ref a,PySem.W.mg_of X G n,rfl,fun H=>.tup (xs:=[.ref b,.ref c]) (.inr ⟨_,_,_,l0,rfl,rfl,two,.cons (show u0 (.ref b) (.ref b)from rfl) (.cons (show u0 (.ref c) (.ref c)from rfl) .nil)⟩) (.cons (p1 H) (.cons (p2 H) .nil))⟩
theorem c0F{K:c6M}{mg:Str→Option Value}{h:Heap}{x:Str}{a b c e g:Addr}{od od1 od2 od3 od4:Option Addr}{osl osl1 osl2 osl3 osl4:Array (Option Value)}{i j k l m n p q:Int}{t1 t2 t3 t4 t5 t6 t7 t8:Tok}{cap cap1 cap2 cap3 cap4:Nat}(X:K.In h)(G:h.Ns mainGlobals mg)
  (nn:PySem.W.nsIn K mainGlobals x=some (some (.ref a))) (l0:K.lookup a=some ⟨.type "tuple",od,.seq #[.ref b,.ref c,.ref e,.ref g] cap,osl⟩)
  (l1:K.lookup b=some ⟨.type "tuple",od1,.seq #[.int i t1,.int j t2] cap1,osl1⟩) (l2:K.lookup c=some ⟨.type "tuple",od2,.seq #[.int k t3,.int l t4] cap2,osl2⟩)
  (l3:K.lookup e=some ⟨.type "tuple",od3,.seq #[.int m t5,.int n t6] cap3,osl3⟩) (l4:K.lookup g=some ⟨.type "tuple",od4,.seq #[.int p t7,.int q t8] cap4,osl4⟩):GlD K mg x (.tup [.tup [.int i,.int j],.tup [.int k,.int l],.tup [.int m,.int n],.tup [.int p,.int q]]):=by
 have two:(2:Nat)≤sizeLine:=by decide
 have four:(4:Nat)≤sizeLine:=by decide
 have one:∀{a:Addr} {i j:Int} {t1 t2:Tok} {od:Option Addr} {osl:Array (Option Value)} {cap:Nat},K.lookup a=some ⟨.type "tuple",od,.seq #[.int i t1,.int j t2] cap,osl⟩→∀ H:Hp,Has K H (.ref a) (.tup [.int i,.int j]):=fun{a i j t1 t2 od osl cap} l1 H=>.tup (xs:=[.int i,.int j]) (.inr ⟨_,_,_,l1,rfl,rfl,two,.cons (show u0 (.int i) (.int i t1)from⟨t1,rfl⟩) (.cons (show u0 (.int j) (.int j t2)from⟨t2,rfl⟩) .nil)⟩) (.cons (.int i) (.cons (.int j) .nil))
 exact⟨.ref a,.ref a,PySem.W.mg_of X G nn,rfl,fun H=>.tup (xs:=[.ref b,.ref c,.ref e,.ref g]) (.inr ⟨_,_,_,l0,rfl,rfl,four,.cons (show u0 (.ref b) (.ref b)from rfl) (.cons (show u0 (.ref c) (.ref c)from rfl) (.cons (show u0 (.ref e) (.ref e)from rfl) (.cons (show u0 (.ref g) (.ref g)from rfl) .nil)))⟩) (.cons (one l1 H) (.cons (one l2 H) (.cons (one l3 H) (.cons (one l4 H) .nil))))⟩
theorem c0G{K:c6M}{mg:Str→Option Value}{h:Heap}{x:Str}{i:Int}{t:Tok}(X:K.In h)(G:h.Ns mainGlobals mg)(n:PySem.W.nsIn K mainGlobals x=some (some (.int i t))):GlD K mg x (.int i) :=
 ⟨.int i,.int i t,PySem.W.mg_of X G n,⟨t,rfl⟩,fun _=>.int i⟩
theorem b4x{M:Mem}{p:Addr}{ds:List D}(h:M p=some (.lst ds)):b4y M (.ref p)=some ds.length:=by
 unfold b4y;simp only[h]
theorem b75{ds:List D}{r:Int}(h0:0≤r)(h1:r<ds.length):∃ d,atI ds r=some d∧d∈ds:=by
 unfold atI ixN
 rw[if_pos h0,if_pos h1]
 have hl:r.toNat<ds.length:=by omega
 exact⟨ds[r.toNat],by simp[hl],c98 hl⟩
section
variable {X:Cx}
def b7S:DRC:=fun ds M R=>∃ x ys,ds=[x]∧B6 M x ys∧∀ p,M p=none→R (.ref p) (C1 M p (.lst ys))
theorem b5w:a1H X (.type "list") b7S:=D2.imp a1A (by
 rintro xs H Q ⟨ds,M,R,hl,am,⟨x,ys,z,e,r⟩,f⟩
 subst z
 obtain⟨v,rfl,hv⟩:=hl.one
 rcases e with rfl|⟨p,rfl,hm⟩|rfl
 rotate_left 2
 ·obtain⟨a,xs,rfl,sq,l⟩:=hv.il
  exact⟨a,xs,rfl,.inl sq,fun p hp=>f _ _ (r p (am.fresh hp)) _ _ (KT.alloc hp) (am.new hp l) (.ref p)⟩
 ·cases hv with
  | tup s l=>exact⟨_,_,rfl,.inr s,fun p hp=>f _ _ (r p (am.fresh hp)) _ _ (KT.alloc hp) (am.new hp l) (.ref p)⟩
 ·cases hv
  obtain⟨zs,hx,l⟩:=am.lst hm
  exact⟨p,zs,rfl,.inl (SqL.of hx),fun q hq=>f _ _ (r q (am.fresh hq)) _ _ (KT.alloc hq) (am.new hq l) (.ref q)⟩)
end
section
variable {X:Cx}
def a6X:DRM:=fun x xs M R=>∃ l ds v,x = .ref l∧xs=[v]∧M l=some (.lst ds)∧ds.length<sizeLine∧R .non (C1 M l (.lst (ds++[v])))
theorem C4:DMt X "list.append" a6X:=MtR.imp (r:=b0V) a5A (by
 rintro x xs H Q ⟨dx,ds,M,R,hx,hl,am,⟨l,es,v,e1,e2,hM,hz,r⟩,f⟩
 subst e1;subst e2
 cases hx
 obtain⟨w,rfl,hw⟩:=hl.one
 obtain⟨ys,hy,ly⟩:=am.lst hM
 exact⟨l,ys,w,rfl,rfl,hy,by rw[ly.length];exact hz,f _ _ r _ _ (KT.write hy) (am.write hy (ly.append (.cons hw .nil))) .non⟩)
end
end DL
namespace DL
open PySem PySem.Spec L2
open PyProof.Rows hiding St
section
variable {X:Cx}
end
end DL
namespace DL
open PySem PySem.Spec L2
open PyProof.Rows hiding St
abbrev DTO:=Ev→Mem→(Option Int→Mem→Prop)→Prop
def upO(K:c6M)(t:DTO):TO:=fun σ H Q=>∃ e M R,B2 K H σ e∧u7 K H M∧t e M R∧∀ o M',R o M'→∀ H',KT H H'→u7 K H' M'→Q o H'
def DPO(X:Cx)(e:Option Expr)(t:DTO):Prop:=PO X e (upO X.K t)
structure JO(X:Cx)(e:Option Expr)(t:DTO):Prop where
 out:DPO X e t
def b1n:DTO:=fun _ M R=>R none M
def b89(t:DTE):DTO:=fun e M R=>t e M fun x M1=>∃ i,x = .int i∧R (some i) M1
theorem PO.imp{X:Cx}{e:Option Expr}{t t':TO}(h:PO X e t)(i:∀ σ H Q,t' σ H Q→t σ H Q):PO X e t':=fun pins s σ H Q I q=>h pins s σ H Q I (i σ H Q q)
section
variable {X:Cx} {e:Expr} {te:DTE} {lo hi:Option Expr} {tl th:DTO} {pos p2:Pos}
theorem F7:JO X none b1n:=⟨PO.imp b7e (by rintro σ H Q ⟨e,M,R,ok,am,t,f⟩;exact f none M t H (KT.refl H) am)⟩
theorem F6(h:JE X e te):JO X (some e) (b89 te):=⟨have h:=h.out;PO.imp (b7d h) (by rintro σ H Q ⟨e,M,R,ok,am,t,f⟩;exact⟨e,M,_,ok,am,t,fun x M1 ⟨i,z,r⟩ v H1 k1 a1 r1=>by
 subst z;cases r1
 exact⟨i,rfl,f (some i) M1 r H1 k1 a1⟩⟩)⟩
def Y4(ds:List D)(lo hi:Option Int):List D:=(ds.drop (HT.sIx ds.length 0 lo)).take (HT.sIx ds.length ds.length hi - HT.sIx ds.length 0 lo)
theorem HasL.cut{K:c6M}{H:Hp}{xs:List V}{ds:List D}(h:HasL K H xs ds)(lo hi:Option Int):HasL K H (a8F xs lo hi) (Y4 ds lo hi):=by
 unfold a8F Y4
 rw[h.length]
 exact(h.drop _).take _
end
end DL
namespace DL
open PySem PySem.Spec L2
open PyProof.Rows hiding St
def R0(ds:List D):List D:=ds.mapIdx fun i d=>.tup [.int i,d]
theorem a1z(ds:List D):(R0 ds).length=ds.length:=by simp[R0]
theorem b2d{ds:List D}{i:Nat}{d:D}(h:ds[i]? = some d):(R0 ds)[i]? = some (.tup [.int i,d]):=by
 unfold R0
 rw[List.getElem?_mapIdx,h];rfl
theorem b1x{K:c6M}{H1:Hp}{x:D}{l:Addr}{ds:List D}(h1:Has K H1 (.ref l) x):a7a K H1 (Ite K (a31 x) l) (R0 ds) (fun M'=>B6 M' x ds) where
 go:=fun i H' M' hi k am s1=>by
  rw[a1z]at hi
  obtain⟨a,xs,e1,q1,m1⟩:=A5 s1 am (h1.mono k)
  cases e1
  exact⟨xs,_,q1,c7e (by rw[m1.length];omega)⟩
 yld:=fun i H' M' v H'' hi k am s1 zz=>by
  obtain⟨T,a,hT,ev,eH,u1⟩:=zz
  subst ev;subst eH
  obtain⟨a',xs,e1,q1,m1⟩:=A5 s1 am (h1.mono k)
  cases e1
  obtain⟨d1,g1,r1⟩:=m1.getV (u1 xs q1)
  have kt:KT H' (upd H' T (.tup [.int i,a])):=KT.alloc hT
  exact⟨_,b2d g1,kt,am.alloc hT,.tup (SqT.of j7) (.cons (.int _) (.cons (r1.mono kt) .nil))⟩
 stop:=fun i H' M' hi k am s1=>by
  rw[a1z]at hi
  obtain⟨a,xs,e1,q1,m1⟩:=A5 s1 am (h1.mono k)
  cases e1
  exact⟨xs,q1,by rw[m1.length];exact hi⟩
 up:=fun _ _ _ st hq=>Z1 st hq
section
variable {X:Cx} {ta:DTA}
def b5e(ta:DTA):DTI:=fun e M R=>ta e M fun xs M1=>∃ x ds,xs=[x]∧B6 M1 x ds∧R (R0 ds) (fun M'=>B6 M' x ds) M1
theorem a1u{elts:List Expr}{kx:Nat}{tp:Pos}{a:Expr}{p pos:Pos}(hg:Gl X "enumerate")(hm:X.mg "enumerate" = none)(ha:JA X [a] ta)(hs:starEach [a] X.env=[(false,eval a X.env)]:=by rfl):JI X (.Tuple elts kx tp) (.Call (.Name "enumerate" p) [a] [] pos) (b5e ta):=⟨have ha:=ha.out;PI.imp (b7f hg hm ha hs) (by rintro σ H R ⟨e,M,R',ok,am,t,f⟩;exact⟨e,M,_,ok,am,t,fun xs M1 ⟨x,ds,z,s1,r⟩ vs H1 k1 a1 r1=>by
  subst z
  obtain⟨v,rfl,hv⟩:=r1.one
  obtain⟨a,zs,rfl,q1,m1⟩:=A5 s1 a1 hv
  exact⟨_,a,rfl,⟨zs,q1⟩,f _ _ M1 r H1 k1 a1 _ (b1x hv)⟩⟩)⟩
end
end DL
namespace DL
open PySem PySem.Spec L2
open PyProof.Rows hiding St
def a0Y(M:Mem)(a:Addr):Mem:=fun b=>if b=a then none else M b
theorem a61{M:Mem}{a b:Addr}(h:b≠a):a0Y M a b=M b:=by unfold a0Y;rw[if_neg h]
theorem N3{M:Mem}{a:Addr}{o:MO}(h:M a=none):a0Y (C1 M a o) a=M:=by
 funext b;unfold a0Y C1;by_cases e:b=a
 ·rw[if_pos e,e,h]
 ·rw[if_neg e,if_neg e]
section
variable {K:c6M} {H:Hp} {M:Mem} {p:Addr}
theorem u7.at{o:HO}(h:u7 K H M)(k:KT0 H (upd H p o))(hp:M p=none):u7 K (upd H p o) M:=fun a u m=>by
 cases u with
 | lst ds =>
  obtain⟨xs,z,l⟩:=h a _ m
  have hn:a≠p:=by intro e;subst e;rw[hp]at m;cases m
  exact⟨xs,by rw[j6 hn];exact z,l.mono0 k⟩
theorem u7.del(h:u7 K H M):u7 K H (a0Y M p):=fun a u m=>by
 by_cases e:a=p
 ·subst e;unfold a0Y at m;rw[if_pos rfl]at m;cases m
 ·rw[a61 e]at m;exact h a u m
theorem b2f:a0Y M p p=none:=by unfold a0Y;rw[if_pos rfl]
theorem u7.none_ext{φ:Heap→Prop}(h:u7 K H M)(e:H p=some (.ext φ)):M p=none:=by
 cases q:M p with
 | none=>rfl
 | some o =>
  cases o with
  | lst ds=>obtain⟨xs,z,_⟩:=h p _ q;rw[e]at z;cases z
end
section
variable {X:Cx} {x:Expr} {t:DTE} {es:List Expr} {tr:DTA} {pos:Pos}
def c2S(t:DTE):DTE:=fun e M R=>t e M fun x M1=>∃ p ds,x = .ref p∧M1 p=some (.lst ds)∧R (.vl ds) (a0Y M1 p)
theorem Q1(h:JE X x t):JE X x (c2S t):=⟨have h:=h.out;(a0P h).imp (by rintro σ H Q ⟨e,M,R,ok,am,t,f⟩;exact⟨e,M,_,ok,am,t,fun d M1 ⟨p,ds,z,hm,r⟩ v H1 k1 a1 r1=>by
 subst z
 cases r1
 obtain⟨xs,hx,lx⟩:=a1.lst hm
 exact⟨p,xs,rfl,hx,fun o=>f _ _ r _ _ (k1.trans (KT.any hx)) (a1.del.at (KT.any hx).toKT0 b2f) (.vl (.inl ⟨o,j7⟩) (lx.mono (KT.any hx)))⟩⟩)⟩
def c2U(t:DTE):DTE:=fun e M R=>t e M fun x M1=>∃ M2:Mem,(∀ b o,M2 b=some o→M1 b=some o)∧R x M2
theorem Y1(h:JE X x t):JE X x (c2U t):=⟨have h:=h.out;PE.imp h (by rintro σ H Q ⟨e,M,R,ok,am,t,f⟩;exact⟨e,M,_,ok,am,t,fun d M1 ⟨M2,hs,r⟩ v H1 k1 a1 r1=>f d M2 r v H1 k1 (fun a o q=>a1 a o (hs a o q)) r1⟩)⟩
def b9c(t:DTA):DTE:=fun e M R=>t e M fun ds M1=>ds.length≤sizeLine∧R (.vl ds) M1
theorem a0m{K:c6M}{H0 H:Hp}{M:Mem}{R:DK}{Q:VK}{vs:List V}{ds:List D}(f:a4b K H0 R Q)(k:KT H0 H)(am:u7 K H M)(l:HasL K H vs ds)(r:R (.vl ds) M)(p:Addr)(hp:H p=none) :
  ∃ q xs,V.ref p = .ref q∧upd H p (.lst vs) q=some (.lst xs)∧∀ o,Q (.ref p) (upd (upd H p (.lst vs)) q (.frz o (.lst xs))) :=
 ⟨p,vs,rfl,j7,fun o=>by
  rw[a03]
  exact f _ M r _ _ (k.trans (KT.alloc hp)) (am.alloc hp) (.vl (.inl ⟨o,j7⟩) (l.mono (KT.alloc hp)))⟩
theorem o7(h:JA X es tr):JE X (.List es pos) (b9c tr):=⟨have h:=h.out;(a0P (b4e h)).imp (by rintro σ H Q ⟨e,M,R,ok,am,t,f⟩;exact⟨e,M,_,ok,am,t,fun ds M1 ⟨hz,h1⟩ vs H1 k1 a1 r1=>⟨by rw[r1.length];exact hz,fun p hp=>a0m f k1 a1 r1 h1 p hp⟩⟩)⟩
def b1e(x y:D)(M:Mem)(R:DK):Prop:=∃ xs ys,U1 M x=some xs∧U1 M y=some ys∧xs.length+ys.length≤sizeLine∧R (.vl (xs++ys)) M
def b9f(ta tb:DTE):DTE:=fun e M R=>ta e M fun x M1=>tb e M1 fun y M2=>b1e x y M2 R
theorem O0{a b:Expr}{ta tb:DTE}(ha:JE X a ta)(hb:JE X b tb):JE X (.BinOp a .Add b pos) (b9f ta tb):=⟨have ha:=ha.out;have hb:=hb.out;(a0P (b8V b7u ha hb)).imp (by rintro σ H Q ⟨e,M,R,ok,am,t,f⟩;exact⟨e,M,_,ok,am,t,fun x M1 h1 v H1 k1 a1 r1=>⟨e,M1,_,ok.mono k1,a1,h1,fun y M2 ⟨xs,ys,e1,e2,hz,r⟩ u H2 k2 a2 r2=>by
  obtain⟨a,vs,rfl,s1,l1⟩:=F5 a2 (r1.mono k2) e1
  obtain⟨b,ws,rfl,s2,l2⟩:=F5 a2 r2 e2
  exact⟨a,b,vs,ws,rfl,rfl,s1,s2,by rw[l1.length,l2.length];exact hz,fun p hp=>a0m f (k1.trans k2) a2 (l1.append l2) r p hp⟩⟩⟩)⟩
def b7R(x:D)(lo hi:Option Int)(M:Mem)(R:DK):Prop:=(∃ ds,U1 M x=some ds∧R (.vl (Y4 ds lo hi)) M) ∨ ∃ ds,x = .tup ds∧¬ (HT.sIx ds.length 0 lo=0∧HT.sIx ds.length ds.length hi=ds.length)∧R (.tup (Y4 ds lo hi)) M
def c2J(te:DTE)(tl th:DTO):DTE:=fun e M R=>te e M fun x M1=>tl e M1 fun l M2=>th e M2 fun u M3=>b7R x l u M3 R
theorem F8{e:Expr}{te:DTE}{lo hi:Option Expr}{tl th:DTO}{p2:Pos}(he:JE X e te)(hl:JO X lo tl)(hu:JO X hi th):JE X (.Subscript e (.Slice lo hi none p2) pos) (c2J te tl th):=⟨have he:=he.out;have hl:=hl.out;have hu:=hu.out;(b7m (b4d (SlR.or b6M b9K) he hl hu)).imp (by rintro σ H Q ⟨e,M,R,ok,am,t,f⟩;exact⟨e,M,_,ok,am,t,fun x M1 h1 v H1 k1 a1 r1=>⟨e,M1,_,ok.mono k1,a1,h1,fun l M2 h2 H2 k2 a2=>⟨e,M2,_,(ok.mono k1).mono k2,a2,h2,fun u M3 h3 H3 k3 a3=>by
  rcases h3 with⟨ds,hi,r⟩|⟨ds,rfl,hw,r⟩
  ·obtain⟨a,xs,rfl,sq,lx⟩:=F5 a3 ((r1.mono k2).mono k3) hi
   exact .inl ⟨a,xs,rfl,sq,fun p hp=>.inl (a0m f (k1.trans (k2.trans k3)) a3 (lx.cut l u) r p hp)⟩
  ·cases(r1.mono k2).mono k3 with
   | tup sq lx =>
    exact .inr ⟨_,_,rfl,sq,by rw[lx.length];exact hw,fun p hp=>.inr (f _ M3 r _ _ ((k1.trans (k2.trans k3)).trans (KT.alloc hp)) (a3.alloc hp) (.tup (SqT.of j7) ((lx.cut l u).mono (KT.alloc hp))))⟩⟩⟩⟩)⟩
theorem HasL.rev{K:c6M}{H:Hp}:∀{xs:List V} {ds:List D},HasL K H xs ds→HasL K H xs.reverse ds.reverse
 | _,_,.nil=>.nil
 | _,_,.cons h t=>by rw[c8B,c8B];exact(HasL.rev t).append (.cons h .nil)
def a6W(ds:List D)(M:Mem)(R:DK):Prop:=∃ x ys,ds=[x]∧B6 M x ys∧R (.vl ys) M
def b5k(t:DTA):DTE:=fun e M R=>t e M fun ds M1=>a6W ds M1 R
end
section
variable {X:Cx} {e:Expr} {es:List Expr} {t:DTA} {x:Str} {p pos:Pos}
theorem b4G(hg:Gl X x)(hm:X.mg x=none)(hv:bootBuiltins x=some (.type "list"))(ha:JA X (e :: es) t)
  (hn:x ≠ "__name__" := by decide) (hdb:(x == ("__debug__" : Str))=false:=by decide) (he:starEach (e :: es) X.env=(false,eval e X.env) :: starEach es X.env:=by rfl) (hpl:(backTo pos (starEach es X.env)).any (·.1)=false:=by rfl):JE X (.Call (.Name x p) (e :: es) [] pos) (b5k t):=⟨have ha:=ha.out;(a0P (a0h a1A hg hm hv ha hn hdb he hpl)).imp (by rintro σ H Q ⟨e,M,R,ok,am,t,f⟩;exact⟨e,M,_,ok,am,t,fun ds M1 ⟨d,ys,z,sq,r⟩ vs H1 k1 a1 r1=>by
  subst z
  obtain⟨v,rfl,hv⟩:=r1.one
  obtain⟨a,xs,rfl,q1,m1⟩:=A5 sq a1 hv
  refine⟨a,xs,rfl,?_,fun p hp=>a0m f k1 a1 m1 r p hp⟩
  cases hk:a31 d with
  | true=>rw[hk]at q1;exact .inl q1
  | false=>rw[hk]at q1;exact .inr q1⟩)⟩
variable {te:DTE} {pos':Pos}
end
section
variable {X:Cx}
def b1d:DRM:=fun x xs M R=>∃ l ds v,∃ k:Nat,x = .ref l∧xs=[.int (k:Int),v]∧M l=some (.lst ds)∧k≤ds.length∧ds.length<sizeLine∧R .non (C1 M l (.lst (ds.take k++v :: ds.drop k)))
theorem HasL.take'{K:c6M}{H:Hp}:∀{vs:List V} {ds:List D} (k:Nat),HasL K H vs ds→HasL K H (vs.take k) (ds.take k)
 | _,_,0,_=>.nil
 | _,_,_+1,.nil=>.nil
 | _,_,k+1,.cons h t=>.cons h (HasL.take' k t)
theorem HasL.drop'{K:c6M}{H:Hp}:∀{vs:List V} {ds:List D} (k:Nat),HasL K H vs ds→HasL K H (vs.drop k) (ds.drop k)
 | _,_,0,h=>h
 | _,_,_+1,.nil=>.nil
 | _,_,k+1,.cons _ t=>HasL.drop' k t
theorem b2e:DMt X "list.insert" b1d:=MtR.imp (r:=b0U) b1S (by
 rintro x xs H Q ⟨dx,ds,M,R,hx,hl,am,⟨l,es,v,k,e1,e2,hM,hk,hz,r⟩,f⟩
 subst e1;subst e2
 cases hx
 cases hl with
 | cons h1 hl =>
  obtain⟨w,rfl,hw⟩:=hl.one
  cases h1
  obtain⟨ys,hy,ly⟩:=am.lst hM
  exact⟨l,ys,w,k,rfl,rfl,hy,by rw[ly.length];exact hk,by rw[ly.length];exact hz,f _ _ r _ _ (KT.write hy) (am.write hy ((ly.take' k).append (.cons hw (ly.drop' k)))) .non⟩)
end
abbrev V3:=Ev→Mem→(Bool→Mem→Prop)→Prop
abbrev c3k(X:Cx)(ifs:List Expr)(t:V3):Prop:=a15 X ifs (upT X.K t)
structure b5I(X:Cx)(ifs:List Expr)(t:V3):Prop where
 out:c3k X ifs t
def b7Z:V3:=fun _ M R=>R true M
theorem a15.imp{X:Cx}{ifs:List Expr}{t t':TT}(h:a15 X ifs t)(i:∀ σ H Q,t' σ H Q→t σ H Q):a15 X ifs t':=fun pins s σ H Q I q=>h pins s σ H Q I (i σ H Q q)
theorem A4{X:Cx}:b5I X [] b7Z:=⟨a15.imp b3Z (by rintro σ H Q ⟨e,M,R,ok,am,t,f⟩;exact f true M t H (KT.refl H) am)⟩
theorem a10{X:Cx}{c:Expr}{t:DTT}(h:JT X c t):b5I X [c] t:=⟨have h:=h.out;b3Y h⟩
structure a5S(e0:Ev)(g:DTG)(tc:V3)(te:DTE)(ds:List D)(stay:Mem→Prop)(M1:Mem)(E:List D→Mem→Prop)(W:Nat→List D→Mem→Prop):Prop where
 start:W 0 [] M1
 stays:∀ i ys M,i≤ds.length→W i ys M→stay M
 turn:∀(i:Nat) (d:D) ys M,ds[i]? = some d→W i ys M→g d e0 M fun e2 M2=>tc e2 M2 fun b M3=>if b=true then te e2 M3 fun v M4=>ys.length<sizeLine∧W (i+1) (ys++[v]) M4 else W (i+1) ys M3
 done:∀ ys M,W ds.length ys M→E ys M
def b9o(e0:Ev)(g:DTG)(tc:V3)(te:DTE)(ds:List D)(stay:Mem→Prop)(M1:Mem)(R:DK):Prop:=∃ W,a5S e0 g tc te ds stay M1 (fun ys M=>R (.vl ys) M) W
def b9p(e0:Ev)(g:DTG)(tc:V3)(te:DTE)(ds:List D)(stay:Mem→Prop)(M1:Mem)(R:DK):Prop:=∃ W,a5S e0 g tc te ds stay M1 (fun ys M=>∀ p,M p=none→R (.ref p) (C1 M p (.lst ys))) W
def a9U(n:Nat)(caps:List Nat)(ti:DTI)(g:DTG)(tc:V3)(te:DTE):DTE:=fun e M R=>ti e M fun ds stay M1=>b9o (a4K n caps e) g tc te ds stay M1 R
def b5l(n:Nat)(caps:List Nat)(ti:DTI)(g:DTG)(tc:V3)(te:DTE):DTE:=fun e M R=>ti e M fun ds stay M1=>b9p (a4K n caps e) g tc te ds stay M1 R
section
variable {X:Cx} {elt tg iter:Expr} {scope:Scope} {tgs cps:List Str} {caps:List Nat} {ti:DTI} {g:DTG} {tc:V3} {te:DTE} {pos:Pos} {ifs:List Expr}
def CWH(K:c6M)(H1:Hp)(D0:Addr)(len:Nat)(W:Nat→List D→Mem→Prop)(i m:Nat)(H':Hp):Prop:=m=len - i∧i≤len∧∃ M' ys xs,KT H1 H'∧u7 K H' M'∧H' D0=some (.lst xs)∧M' D0=none∧HasL K H' xs ys∧W i ys M'
theorem a14{K:c6M}{H1:Hp}{J:It}{ds:List D}{stay:Mem→Prop}{M1:Mem}{n:Nat}{caps:List Nat}{σ:St}{e:Ev}{E:List D→Mem→Prop}{W:Nat→List D→Mem→Prop}{D0:Addr}{Qd:Hp→Prop}(ok:B2 K H1 σ e)(a1:u7 K H1 M1)(wk:a7a K H1 J ds stay)(hD:H1 D0=none)
  (C:a5S (a4K n caps e) g tc te ds stay M1 E W) (fin:∀ ys M xs H',KT H1 H'→u7 K H' M→H' D0=some (.lst xs)→M D0=none→HasL K H' xs ys→E ys M→Qd H') (i m:Nat) (H2:Hp) (w:CWH K H1 D0 ds.length W i m H2) :
  (J.stop i H2∧Qd H2)∨(J.go i H2∧∀ x H',J.yld i H2 x H'→(∃ p,b3t p (upG K g) x (a64 n caps σ) H' fun σ2 H3=>∃ p,b3s p (upT K tc) σ2 H3 fun b H3'=>if b=true then ∃ p,b3u p (up K te) σ2 H3' fun v H4 =>
   ∃ ys,H4 D0=some (.lst ys)∧ys.length<sizeLine∧∃ m',m'<m∧CWH K H1 D0 ds.length W (i+1) m' (upd H4 D0 (.lst (ys++[v])))else ∃ m',m'<m∧CWH K H1 D0 ds.length W (i+1) m' H3')):=by
 obtain⟨rfl,hi,M2,ys,xs,k2,a2,hx,hM,lx,w2⟩:=w
 have a2':u7 K H2 (C1 M2 D0 (.lst ys)):=fun a o q=>by
  by_cases e:a=D0
  ·subst e;rw[i7]at q;cases q;exact⟨xs,hx,lx⟩
  ·rw[F9 e]at q;exact a2 a o q
 have st:=wk.up _ D0 (.lst ys) (C.stays i ys M2 hi w2) hM
 by_cases hlt:i<ds.length
 ·refine .inr ⟨wk.go i H2 _ hlt k2 a2' st,fun y H' yl=>?_⟩
  obtain⟨d,hd,k3,a3',r⟩:=wk.yld i H2 _ y H' hlt k2 a2' st yl
  obtain⟨xs',hx',lx'⟩:=a3'.lst i7
  have a3:u7 K H' M2:=fun a o q=>by
   have e:a≠D0:=by intro e;subst e;rw[hM]at q;cases q
   exact a3' a o (by rw[F9 e];exact q)
  have kh:KT H' (upd H' D0 (a1w D0 xs')):=KT.any hx'
  have k1h:=(k2.trans k3).trans kh
  have same:∀{H3:Hp},H3 D0=some (a1w D0 xs')→upd (upd H3 D0 (.lst xs')) D0 (a1w D0 xs')=H3:=fun{H3} q=>by
   rw[a03];funext b;by_cases e:b=D0
   ·subst e;rw[j7,q]
   ·rw[j6 e]
  refine⟨D0,xs',hx',d,a4K n caps e,M2,_,r.mono kh,b7V n caps (ok.mono k1h),a3.at kh.toKT0 hM,C.turn i d ys M2 hd w2,fun e3 M3 h3 σ3 H3 k4 a4 ok3=>?_⟩
  have q3:H3 D0=some (a1w D0 xs'):=k4.ex D0 _ j7
  refine⟨q3,D0,xs',j7,?_⟩
  rw[same q3]
  refine⟨e3,M3,_,ok3,a4,h3,fun b M4 h4 H4 k5 a5=>?_⟩
  have q4:H4 D0=some (a1w D0 xs'):=k5.ex D0 _ q3
  refine⟨q4,?_⟩
  have kk:=k1h.trans (k4.trans k5)
  cases b with
  | false =>
   have h4':W (i+1) ys M4:=h4
   show ∃ m',m'<ds.length - i∧CWH K H1 D0 ds.length W (i+1) m' (upd H4 D0 (.lst xs'))
   exact⟨ds.length - (i+1),by omega,rfl,hlt,M4,ys,xs',kk.new hD,a5.at (KT0.ext q4) (a5.none_ext q4),j7,a5.none_ext q4,(lx'.mono (kh.trans (k4.trans k5))).mono0 (KT0.ext q4),h4'⟩
  | true =>
   show ∃ p,b3u p (up K te) σ3 (upd H4 D0 (.lst xs')) _
   refine⟨D0,xs',j7,?_⟩
   rw[same q4]
   refine⟨e3,M4,_,ok3.mono k5,a5,h4,fun dv M5 ⟨hz,w5⟩ vv H5 k6 a6 r6=>?_⟩
   have q5:H5 D0=some (a1w D0 xs'):=k6.ex D0 _ q4
   refine⟨q5,xs',j7,by rw[lx'.length];exact hz,ds.length - (i+1),by omega,rfl,hlt,M5,ys++[dv],xs'++[vv],?_,?_,j7,a6.none_ext q5,?_,w5⟩
   ·rw[a03];exact(kk.trans k6).new hD
   ·rw[a03];exact a6.at (KT0.ext q5) (a6.none_ext q5)
   ·rw[a03];exact((lx'.mono (kh.trans (k4.trans (k5.trans k6)))).mono0 (KT0.ext q5)).append (.cons (r6.mono0 (KT0.ext q5)) .nil)
 ·have e':i=ds.length:=by omega
  subst e'
  exact .inl ⟨wk.stop _ H2 _ (c7b _) k2 a2' st,fin ys M2 xs H2 k2 a2 hx hM lx (C.done ys M2 w2)⟩
theorem J8(caps:List Nat)(tgs cps:List Str)(hc:X.calm=true)(hcell:∀ x∈scope.names,x.2 ≠ .cell)(hkind:scope.kind = .function)(hnames:∀ x∈scope.names,x.2 = .local→scope.names.lookup x.1=some .local)
  (hfr:∀ x∈scope.names,x.2 = .free→x.1∈cps) (hN:caps.map (fun i=>X.N[i]?)=cps.map some) (hX:∀ x∈cps,X.env.scope.names.lookup x=some .cell∧scope.names.lookup x=some .free)
  (hsc:∀ x∈cps,(relabel scope X.env).names.lookup x=some .cell∨(relabel scope X.env).names.lookup x=some .free)
  (hi:JI X tg iter ti) (hg:∀ cl s3 H3 C fp pins,JG (cxF X scope cl (tgs++cps) s3 H3 C fp pins) tg g) (hq:∀ cl s3 H3 C fp pins,b5I (cxF X scope cl (tgs++cps) s3 H3 C fp pins) ifs tc) (he:∀ cl s3 H3 C fp pins,JE (cxF X scope cl (tgs++cps) s3 H3 C fp pins) elt te)
  (hs:∀ x,foldedSetIterable iter X.env x=pure x:=by intro _;rfl):JE X (.ListComp elt [⟨tg,iter,ifs,0⟩] scope pos) (a9U tgs.length caps ti g tc te):=⟨have hi:=hi.out;have hg:=fun v0 v1 v2 v3 v4 v5=>(hg v0 v1 v2 v3 v4 v5).out;have hq:=fun v0 v1 v2 v3 v4 v5=>(hq v0 v1 v2 v3 v4 v5).out;have he:=fun v0 v1 v2 v3 v4 v5=>(he v0 v1 v2 v3 v4 v5).out;(a0P (a8d (tgs:=tgs) (cps:=cps) (caps:=caps) hc hcell hkind hnames hfr hN hX hsc hi (fun cl s3 H3 C fp pins=>a6C (hg cl s3 H3 C fp pins)) (fun cl s3 H3 C fp pins=>a1S (hq cl s3 H3 C fp pins)) (fun cl s3 H3 C fp pins=>a6E (he cl s3 H3 C fp pins)) hs)).imp (by rintro σ H Q ⟨e,M,R,ok,am,t,f⟩;exact⟨e,M,_,ok,am,t,fun ds stay M1 hW H1 k1 a1 J wk=>by
  intro D0 hD
  obtain⟨W,C⟩:=hW
  refine⟨fun i m H'=>CWH X.K H1 D0 ds.length W i m H',⟨ds.length,by simp,c7L _,M1,[],[],KT.alloc hD,a1.alloc hD,j7,a1.fresh hD,.nil,C.start⟩,fun i m H2 w=>a14 (Qd:=fun H'=>∃ p xs,V.ref D0 = .ref p∧H' p=some (.lst xs)∧∀ o,Q (.ref D0) (upd H' p (.frz o (.lst xs)))) (ok.mono k1) a1 wk hD C (fun ys M2 xs H' k2 a2 hx hM lx r=>?_) i m H2 w⟩
  exact⟨D0,xs,rfl,hx,fun o=>f _ M2 r _ _ (k1.trans (k2.trans (KT.any hx))) (a2.at (KT.any hx).toKT0 hM) (.vl (.inl ⟨o,j7⟩) (lx.mono (KT.any hx)))⟩⟩)⟩
theorem b4H(caps:List Nat)(tgs cps:List Str)(hc:X.calm=true)(hcell:∀ x∈scope.names,x.2 ≠ .cell)(hkind:scope.kind = .function)(hnames:∀ x∈scope.names,x.2 = .local→scope.names.lookup x.1=some .local)
  (hfr:∀ x∈scope.names,x.2 = .free→x.1∈cps) (hN:caps.map (fun i=>X.N[i]?)=cps.map some) (hX:∀ x∈cps,X.env.scope.names.lookup x=some .cell∧scope.names.lookup x=some .free)
  (hsc:∀ x∈cps,(relabel scope X.env).names.lookup x=some .cell∨(relabel scope X.env).names.lookup x=some .free)
  (hi:JI X tg iter ti) (hg:∀ cl s3 H3 C fp pins,JG (cxF X scope cl (tgs++cps) s3 H3 C fp pins) tg g) (hq:∀ cl s3 H3 C fp pins,b5I (cxF X scope cl (tgs++cps) s3 H3 C fp pins) ifs tc) (he:∀ cl s3 H3 C fp pins,JE (cxF X scope cl (tgs++cps) s3 H3 C fp pins) elt te)
  (hs:∀ x,foldedSetIterable iter X.env x=pure x:=by intro _;rfl):JE X (.ListComp elt [⟨tg,iter,ifs,0⟩] scope pos) (b5l tgs.length caps ti g tc te):=⟨have hi:=hi.out;have hg:=fun v0 v1 v2 v3 v4 v5=>(hg v0 v1 v2 v3 v4 v5).out;have hq:=fun v0 v1 v2 v3 v4 v5=>(hq v0 v1 v2 v3 v4 v5).out;have he:=fun v0 v1 v2 v3 v4 v5=>(he v0 v1 v2 v3 v4 v5).out;(a8d (tgs:=tgs) (cps:=cps) (caps:=caps) hc hcell hkind hnames hfr hN hX hsc hi (fun cl s3 H3 C fp pins=>a6C (hg cl s3 H3 C fp pins)) (fun cl s3 H3 C fp pins=>a1S (hq cl s3 H3 C fp pins)) (fun cl s3 H3 C fp pins=>a6E (he cl s3 H3 C fp pins)) hs).imp (by rintro σ H Q ⟨e,M,R,ok,am,t,f⟩;exact⟨e,M,_,ok,am,t,fun ds stay M1 hW H1 k1 a1 J wk=>by
  intro D0 hD
  obtain⟨W,C⟩:=hW
  refine⟨fun i m H'=>CWH X.K H1 D0 ds.length W i m H',⟨ds.length,by simp,c7L _,M1,[],[],KT.alloc hD,a1.alloc hD,j7,a1.fresh hD,.nil,C.start⟩,fun i m H2 w=>a14 (ok.mono k1) a1 wk hD C (fun ys M2 xs H' k2 a2 hx hM lx r=>?_) i m H2 w⟩
  refine f _ _ (r D0 hM) _ _ (k1.trans k2) (fun a o q=>?_) (.ref D0)
  by_cases e:a=D0
  ·subst e;rw[i7]at q;cases q;exact⟨xs,hx,lx⟩
  ·rw[F9 e]at q;exact a2 a o q⟩)⟩
theorem E4{i:Nat}{x:Str}{pos' pos2:Pos}(caps:List Nat)(tgs cps:List Str)(hNd:X.N.Nodup)(hxi:X.N[i]? = some x)(hx:Loc X.env.scope x)(hc:X.calm=true)(hcell:∀ x∈scope.names,x.2 ≠ .cell)(hkind:scope.kind = .function)(hnames:∀ x∈scope.names,x.2 = .local→scope.names.lookup x.1=some .local)
  (hfr:∀ x∈scope.names,x.2 = .free→x.1∈cps) (hN:caps.map (fun i=>X.N[i]?)=cps.map some) (hX:∀ x∈cps,X.env.scope.names.lookup x=some .cell∧scope.names.lookup x=some .free)
  (hsc:∀ x∈cps,(relabel scope X.env).names.lookup x=some .cell∨(relabel scope X.env).names.lookup x=some .free)
  (hi:JI X tg iter ti) (hg:∀ cl s3 H3 C fp pins,JG (cxF X scope cl (tgs++cps) s3 H3 C fp pins) tg g) (hq:∀ cl s3 H3 C fp pins,b5I (cxF X scope cl (tgs++cps) s3 H3 C fp pins) ifs tc) (he:∀ cl s3 H3 C fp pins,JE (cxF X scope cl (tgs++cps) s3 H3 C fp pins) elt te)
  (hsw:swapsWith (.ListComp elt [⟨tg,iter,ifs,0⟩] scope pos) (some (.Name x pos')) pos2.line X.env=pure true:=by rfl) (hs:∀ x,foldedSetIterable iter X.env x=pure x:=by intro _;rfl) (hf:X.fn x=true∨X.env.scope.names.lookup x=some .local:=by first|exact .inl rfl|exact .inr rfl|assumption):JS X (.Assign [.Name x pos'] (.ListComp elt [⟨tg,iter,ifs,0⟩] scope pos) pos2) (b5m (a9U tgs.length caps ti g tc te) (a13 i)):=⟨have hi:=hi.out;have hg:=fun v0 v1 v2 v3 v4 v5=>(hg v0 v1 v2 v3 v4 v5).out;have hq:=fun v0 v1 v2 v3 v4 v5=>(hq v0 v1 v2 v3 v4 v5).out;have he:=fun v0 v1 v2 v3 v4 v5=>(he v0 v1 v2 v3 v4 v5).out;(b7a (b9Y (b3U (tgs:=tgs) (cps:=cps) (caps:=caps) hc hcell hkind hnames hfr hN hX hsc hi (fun cl s3 H3 C fp pins=>a6C (hg cl s3 H3 C fp pins)) (fun cl s3 H3 C fp pins=>a1S (hq cl s3 H3 C fp pins)) (fun cl s3 H3 C fp pins=>a6E (he cl s3 H3 C fp pins)) hNd hxi hx hf hs)) hsw).imp (by rintro E σ H ⟨e,M,F,ok,am,t,f⟩;exact⟨e,M,_,ok,am,t,fun ds stay M1 hW H1 k1 a1 J wk=>by
  intro D0 hD
  obtain⟨W,C⟩:=hW
  refine⟨fun i m H'=>CWH X.K H1 D0 ds.length W i m H',⟨ds.length,by simp,c7L _,M1,[],[],KT.alloc hD,a1.alloc hD,j7,a1.fresh hD,.nil,C.start⟩,fun j m H2 w=>a14 (Qd:=fun H'=>∃ p xs,V.ref D0 = .ref p∧H' p=some (.lst xs)∧∀ o,E.nx (σ.set i (some (.ref D0))) (upd H' p (.frz o (.lst xs)))) (ok.mono k1) a1 wk hD C (fun ys M2 xs H' k2 a2 hx hM lx r=>?_) j m H2 w⟩
  exact⟨D0,xs,rfl,hx,fun o=>f.nx _ M2 r _ _ (k1.trans (k2.trans (KT.any hx))) (a2.at (KT.any hx).toKT0 hM) ((ok.mono (k1.trans (k2.trans (KT.any hx)))).set (.vl (.inl ⟨o,j7⟩) (lx.mono (KT.any hx))) i)⟩⟩)⟩
end
section
variable {X:Cx} {e:Expr} {te:DTE} {p1 p2 pos pos2:Pos}
theorem SqL.upd{K:c6M}{H:Hp}{a it:Addr}{xs:List V}{o:HO}(h:SqL K H a xs)(ne:a≠it):SqL K (upd H it o) a xs:=h.elim (fun z=>.inl (by unfold Rd at z ⊢;rw[j6 ne];exact z)) .inr
theorem SqK.upd{K:c6M}{k:Bool}{H:Hp}{a it:Addr}{xs:List V}{o:HO}(h:SqK K k H a xs)(ne:a≠it):SqK K k (L2.upd H it o) a xs:=by
 cases k with
 | true=>exact SqL.upd (show SqL K H a xs from h) ne
 | false=>exact(show SqT K H a xs from h).elim (fun z=>.inl (by unfold Rd at z ⊢;rw[j6 ne];exact z)) .inr
def b1c(x:D)(M:Mem)(R:DK):Prop:=∃ ds,B6 M x ds∧R (.vl ds.reverse) M
def b88(te:DTE):DTE:=fun e M R=>te e M fun x M1=>b1c x M1 R
theorem a8x(hc:X.calm=true)(g1:Gl X "list")(m1:X.mg "list" = none)(v1:bootBuiltins "list" = some (.type "list"))(g2:Gl X "reversed")(m2:X.mg "reversed" = none)(v2:bootBuiltins "reversed" = some (.type "reversed"))(he:JE X e te)
  (h1:starEach [e] X.env=(false,eval e X.env) :: starEach [] X.env:=by rfl) (h2:starEach [.Call (.Name "reversed" p2) [e] [] pos2] X.env=(false,eval (.Call (.Name "reversed" p2) [e] [] pos2) X.env) :: starEach [] X.env:=by rfl):JE X (.Call (.Name "list" p1) [.Call (.Name "reversed" p2) [e] [] pos2] [] pos) (b88 te):=⟨have he:=he.out;(a0P (a0h (a8G hc) g1 m1 v1 (a6F (a0h a62 g2 m2 v2 (a6F he a9A h1) (by decide) (by decide) h1) a9A h2) (by decide) (by decide) h2)).imp (by rintro σ H Q ⟨e,M,R,ok,am,t,f⟩;exact⟨e,M,_,ok,am,t,fun x M1 ⟨ds,hi,r⟩ v H1 k1 a1 r1=>by
  obtain⟨a,xs,rfl,sq,lx⟩:=A5 hi a1 r1
  refine⟨a,a31 x,xs,rfl,sq,fun it hit hne hge=>⟨it,a,a31 x,xs,rfl,j7,SqK.upd sq (Ne.symm hne),Ne.symm hne,hge,fun p hp=>?_⟩⟩
  have q1:p≠it:=fun z=>by rw[z,j7]at hp;cases hp
  rw[j6 q1]at hp
  have e1:∀ o u,a37 (L2.upd (L2.upd H1 it o) p u) it=L2.upd H1 p u:=fun o u=>by
   funext b
   by_cases z:b=it
   ·subst z;rw[a35,j6 (Ne.symm q1),hit]
   ·rw[a36 z]
    by_cases y:b=p
    ·subst y;rw[j7,j7]
    ·rw[j6 y,j6 y,j6 z]
  rw[e1]
  exact a0m f k1 a1 lx.rev r p hp⟩)⟩
def b5g(n:Nat)(t:Z0):DTG:=fun d e M R=>∃ ds,U1 M d=some ds∧ds.length=n∧t ds e M R
theorem a32{xs:List Expr}{k:Nat}{t:Z0}{n:Nat}(hc:X.calm=true)(h:JGs X xs t)
  (hn:(assignEach xs X.env).length=n:=by rfl) (hst:(assignEach xs X.env).findIdx? (·.1)=none:=by rfl):JG X (.Tuple xs k pos) (b5g n t):=⟨have h:=h.out;PG.imp (b7i hc h hn hst) (by
  rintro v σ H Q ⟨d,e,M,R,r,ok,am,⟨ds,hi,hl,g⟩,f⟩
  obtain⟨a,xs,e1,sq,lx⟩:=F5 am r hi
  exact⟨a,xs,e1,sq,by rw[lx.length];exact hl,ds,e,M,R,lx,ok,am,g,f⟩)⟩
def b5N(ds:List D)(M:Mem)(Q:List D→(Mem→Prop)→Mem→Prop):Prop:=∃ xs,ds=[.vl xs]∧Q xs.reverse (fun _=>True) M
def b5f(ta:DTA):DTI:=fun e M Q=>ta e M fun ds M1=>b5N ds M1 Q
theorem b1y{K:c6M}{H1:Hp}{a:Addr}{xs:List V}{ds:List D}(h:Has K H1 (.ref a) (.vl ds))(lx:HasL K H1 xs ds):a7a K H1 (Itb K a xs.length) ds.reverse (fun _=>True) where
 go:=fun i H' M' hi k am _=>by
  rw[c7B,← lx.length]at hi
  obtain⟨a',ys,e,sq',l'⟩:=(h.mono k).il
  cases e
  have hy:ys.length=xs.length:=by rw[l'.length,lx.length]
  exact⟨hi,ys,_,sq',c7e (by omega)⟩
 yld:=fun i H' M' x H'' hi k am _ q=>by
  obtain⟨e,y⟩:=q
  subst e
  rw[c7B,← lx.length]at hi
  obtain⟨a',ys,e,sq',l'⟩:=(h.mono k).il
  cases e
  obtain⟨d,hd,r⟩:=l'.getV (y ys sq')
  refine⟨d,?_,KT.refl _,am,r⟩
  rw[List.getElem?_reverse (by rw[← lx.length];exact hi),← lx.length]
  exact hd
 stop:=fun i H' M' hi k am _=>by
  rw[c7B,← lx.length]at hi
  exact hi
 up:=fun _ _ _ _ _=>trivial
theorem b4E{tg a:Expr}{ta:DTA}{p pos:Pos}(g1:Gl X "reversed")(m1:X.mg "reversed" = none)(v1:bootBuiltins "reversed" = some (.type "reversed"))(ha:JA X [a] ta)
  (hs:starEach [a] X.env=[(false,eval a X.env)]:=by rfl):JI X tg (.Call (.Name "reversed" p) [a] [] pos) (b5f ta):=⟨have ha:=ha.out;PI.imp (b7g g1 m1 v1 ha hs) (by
  rintro σ H R ⟨e,M,R',ok,am,t,f⟩
  exact⟨e,M,_,ok,am,t,fun ds M1 z vs H1 k1 a1 r1=>by
   obtain⟨xs,rfl,r⟩:=z
   obtain⟨v,rfl,hv⟩:=r1.one
   obtain⟨a,ws,e1,sq,lx⟩:=hv.il
   subst e1
   exact⟨a,ws,rfl,sq,f _ _ M1 r H1 k1 a1 _ (b1y hv lx)⟩⟩)⟩
end
end DL
namespace L2
open PySem PySem.Spec PyProof.Rows
section
variable {X:Cx} {pos:Pos}
end
end L2
namespace DL
open PySem PySem.Spec L2
open PyProof.Rows hiding St
end DL
namespace DL
open PySem PySem.Spec L2
open PyProof.Rows hiding St
section
variable {X:Cx}
end
end DL
namespace DL
open PySem PySem.Spec L2
open PyProof.Rows hiding St
section
variable {X:Cx}
end
section
variable {X:Cx} {a b c:Expr} {ta tb tc:DTE} {pos:Pos}
end
section
variable {K:c6M}
end
end DL
namespace DL
open PySem PySem.Spec L2
open PyProof.Rows hiding St
section
variable {X:Cx} {x:Expr} {t:DTE}
end
end DL
namespace DL
open PySem PySem.Spec L2
open PyProof.Rows hiding St
def c2n(X:Cx):St:=c8f X.N.length none
def Cov(B s0:Heap)(H':Hp)(fs:List Addr)(h:Heap):Prop:=∀ b o,h.get? b=some o→((∃ u,H' b=some u) ∨ ∃ o0,s0.get? b=some o0)→b∉fs→B.get? b=some o
def CXr(P:Program)(w:World)(base:Heap):CXT:=fun outer H s E e s'=>∃ a cls a0 H' B,e = .ref a∧s'.os=s.os∧AllBare s'.gens∧Un (frs outer) [] H H' s.heap s'.heap∧HOk P w H' s'.heap∧KT H H' ∧
 base.StaysIn B∧Cov B s.heap H' (frs outer) s'.heap∧Heap.FlyingW B outer a cls a0 s'.heap∧E cls none H'
def XP(X:Cx)(mk:Bool)(EX:Value→Hp→Prop):Value→Shared→Prop:=fun e s' =>
 (mk=true∧∃ a cls h vs H',e = .ref a∧EX cls H'∧Heap.MadeExcOf h s'.heap a cls vs∧Inv X [] (c2n X) H' { s' with heap:=h }) ∨
 (∃ pins σ Hc sc,Inv X pins σ Hc sc∧CXr X.prog X.w X.base X.stack Hc sc (fun cls _ H'=>EX cls H') e s')
section
variable {P:Program} {w:World} {K:c6M} {mg:Str→Option Value} {base:Heap} {N:List Str} {qual:Str} {scope:Scope} {f:Addr} {cd:Value} {A:Around} {outer:List Env} {s:Shared} {H:Hp} {E:XK}
end
def xN(x:Str):Value:=.str x 0
def c3X(X:Cx)(H₀:Hp)(Y:DXK):Value→Hp→Prop:=fun c H'=>KT H₀ H'∧∃(x:Str) (C:Addr) (M':Mem),c = .ref C∧X.mg x=some (.ref C)∧u7 X.K H' M'∧Y (xN x) M'
abbrev Cx.ex'(X:Cx)(mk:Bool)(H₀:Hp)(Y:DXK):Cx:=X.wish (XP X mk (c3X X H₀ Y))
section
variable {X:Cx} {mk:Bool} {H₀:Hp} {Y:DXK} {st:Stmt} {E8:List Stmt} {t u:DTS} {pos:Pos}
end
section
variable {P:Program} {w:World} {K:c6M} {mg:Str→Option Value} {base:Heap}
end
section
variable {X:Cx} {mk:Bool} {H₀:Hp} {Y:DXK} {pos cpos:Pos} {x:Str} {j:Nat} {ps:List Str} {sp:DSp} {p:Pos} {e:Expr} {es:List Expr} {t:DTA}
end
section
variable {X:Cx} {mk:Bool} {H₀:Hp} {Y:DXK} {pos:Pos} {e:Expr} {te:DTE}
end
section
variable {X:Cx} {H₀:Hp} {Y:DXK} {pos cpos np:Pos} {x:Str} {e₀:Expr} {te:DTE}
end
abbrev Cx.pinned(X:Cx)(pn:List (Addr × Obj)):Cx:={ X with pn:=pn }
section
variable {X:Cx} {pins pn:List (Addr × Obj)} {σ:St} {H:Hp} {s:Shared}
end
section
variable {X:Cx} {body suite:List Stmt} {b0:Stmt} {c:Str} {np hpos pos:Pos} {tb:DXK→DTS} {ts:DTS}
end
section
variable {X:Cx} {body suite:List Stmt} {b0:Stmt} {c:Str} {np hpos pos:Pos} {tb:DXK→DTS} {ts:DTS}
end
end DL
namespace DL
open PySem PySem.Spec L2
def BlK(x:D)(M:Mem)(Q:Bool→Mem→Prop):Prop:=∃ k,x = .bl k∧Q k M
def IfK(c:Bool)(A B:Prop):Prop:=if c=true then A else B
def SzK(n:Nat)(A:Prop):Prop:=n≤sizeLine∧A
def c3e(i j:Nat)(ds:List D)(F:a1G)(e:Ev)(M:Mem):Prop:=∃ x y,ds=[x,y]∧F.nx ((e.set i (some x)).set j (some y)) M
def c03(x:D)(M:Mem)(Q:List D→(Mem→Prop)→Mem→Prop):Prop:=∃ ds,B6 M x ds∧Q ds (fun M'=>B6 M' x ds) M
def b5K(xs:List D)(M:Mem)(Q:List D→(Mem→Prop)→Mem→Prop):Prop:=∃ x ds,xs=[x]∧B6 M x ds∧Q (R0 ds) (fun M'=>B6 M' x ds) M
def b5E(xs:List D)(M:Mem)(Q:List D→(Mem→Prop)→Mem→Prop):Prop:=∃ x y ds es,xs=[x,y]∧B6 M x ds∧B6 M y es∧Q (V6 ds es) (fun M'=>B6 M' x ds∧B6 M' y es) M
def c3d(xs:List D)(M:Mem)(Q:List D→(Mem→Prop)→Mem→Prop):Prop:=∃ j:Int,xs=[.int j]∧-(2 ^ 62)≤j∧j<2 ^ 62∧Q (T9 0 j.toNat) (fun _=>True) M
def a0r(g:DTG)(tb:DTS)(F:a1G)(ds:List D)(stay:Mem→Prop)(e:Ev)(M1:Mem):Prop:=∃ W:Nat→Ev→Mem→Prop,W 0 e M1∧(∀ i e M,i≤ds.length→W i e M→stay M) ∧
 (∀(i:Nat) (d:D) e M,ds[i]? = some d→W i e M→g d e M fun e2 M2=>tb { F with nx:=W (i+1),ct:=W (i+1),bk:=F.nx } e2 M2)∧∀ e M,W ds.length e M→F.nx e M
def c3h(x:D)(M1:Mem)(R:DK):Prop:=∃ p ds,x = .ref p∧M1 p=some (.lst ds)∧R (.vl ds) (a0Y M1 p)
def b9m(x:D)(M:Mem)(Q:Option Int→Mem→Prop):Prop:=∃ i,x = .int i∧Q (some i) M
def c3i(x:D)(M1:Mem)(R:DK):Prop:=∃ M2:Mem,(∀ b o,M2 b=some o→M1 b=some o)∧R x M2
def LMK(x:D)(M:Mem)(A:Prop):Prop:=(∃ l ds,x = .ref l∧M l=some (.lst ds))∧A
end DL
namespace DL
open PySem PySem.Spec L2
open PyProof.Rows hiding St
section
variable {e:Ev} {M:Mem} {R:DK} {F:a1G} {ta tb tc:DTE} {tA tB:DTT} {tr:DTA} {t u:DTS}
theorem z_C{d:D}:dC d e M R=R d M:=rfl
theorem c1B{g:DR2}:dOp g ta tb e M R=ta e M fun x M1=>tb e M1 fun y M2=>g x y M2 R:=rfl
theorem c1z{g:D→Mem→DK→Prop}:dUn g ta e M R=ta e M fun x M1=>g x M1 R:=rfl
theorem c1x{f:Int→Int→D}{i j:Int}:gF (fI f) (.int i) (.int j) M R=R (f i j) M:=propext ⟨fun zz=>by obtain⟨_,h,r⟩:=zz;cases h;exact r,fun r=>⟨_,rfl,r⟩⟩
theorem c1y{f:Bool→Bool→D}{i j:Bool}:gF (fB f) (.bl i) (.bl j) M R=R (f i j) M:=propext ⟨fun zz=>by obtain⟨_,h,r⟩:=zz;cases h;exact r,fun r=>⟨_,rfl,r⟩⟩
theorem c1w{f:Str→Str→D}{i j:Str}:gF (fS f) (.str i) (.str j) M R=R (f i j) M:=propext ⟨fun zz=>by obtain⟨_,h,r⟩:=zz;cases h;exact r,fun r=>⟨_,rfl,r⟩⟩
theorem c1v{C:Int→Int→Prop}{f:Int→Int→D}{i j:Int}:gI C f (.int i) (.int j) M R=(C i j∧R (f i j) M):=propext ⟨fun zz=>by obtain⟨_,_,h1,h2,c,r⟩:=zz;cases h1;cases h2;exact⟨c,r⟩,fun⟨c,r⟩=>⟨_,_,rfl,rfl,c,r⟩⟩
theorem c1u{f:Int→D}{i:Int}:gU f (.int i) M R=R (f i) M:=propext ⟨fun zz=>by obtain⟨_,h,r⟩:=zz;cases h;exact r,fun r=>⟨_,rfl,r⟩⟩
theorem b2Q{Q:Bool→Mem→Prop}:b1m ta e M Q=ta e M fun x M'=>BlK x M' Q:=rfl
theorem b8P{b:Bool}{Q:Bool→Mem→Prop}:BlK (.bl b) M Q=Q b M:=propext ⟨fun zz=>by obtain⟨_,h,r⟩:=zz;cases h;exact r,fun r=>⟨_,rfl,r⟩⟩
theorem b8R{Q:Bool→Mem→Prop}:c2V tA tB e M Q=tA e M fun c M1=>IfK c (tB e M1 Q) (Q false M1):=rfl
theorem c1A{Q:Bool→Mem→Prop}:dOr tA tB e M Q=tA e M fun c M1=>IfK c (Q true M1) (tB e M1 Q):=rfl
theorem b8D{Q:Bool→Mem→Prop}:c2O tA e M Q=tA e M fun c M1=>Q (!c) M1:=rfl
theorem b3g:b9g ta tb e M R=ta e M fun x M1=>BlK x M1 fun c M1=>IfK c (tb e M1 R) (R (.bl false) M1):=rfl
theorem b8C:c2N ta tb e M R=ta e M fun x M1=>BlK x M1 fun c M1=>IfK c (R (.bl true) M1) (tb e M1 R):=rfl
theorem b2X:b9a ta e M R=ta e M fun x M1=>BlK x M1 fun c M1=>R (.bl (!c)) M1:=rfl
theorem c1D:dIf tA ta tb e M R=tA e M fun c M1=>IfK c (ta e M1 R) (tb e M1 R):=rfl
theorem b8I:c2R tA t u F e M=tA e M fun c M1=>IfK c (t F e M1) (u F e M1):=rfl
theorem b8E{Q:List D→Mem→Prop}:c2P e M Q=Q [] M:=rfl
theorem b3d{Q:List D→Mem→Prop}:b9e ta tr e M Q=ta e M fun x M1=>tr e M1 fun xs M2=>Q (x :: xs) M2:=rfl
theorem b8x:c2I tr e M R=tr e M fun ds M1=>SzK ds.length (R (.tup ds) M1):=rfl
theorem b8G:c2Q tr e M R=tr e M fun ds M1=>SzK ds.length (∀ p,M1 p=none→R (.ref p) (C1 M1 p (.lst ds))):=rfl
theorem a0p{x y z:D}(h:ixD M x y=some z):gIx x y M R=R z M:=propext ⟨fun zz=>by obtain⟨_,h',r⟩:=zz;rw[h]at h';cases h';exact r,fun r=>⟨_,h,r⟩⟩
theorem a4d{neg:Bool}{x y:D}{b:Bool}(h:isD x y=some b):gIs neg x y M R=R (.bl (neg.xor b)) M:=propext ⟨fun zz=>by obtain⟨_,h',r⟩:=zz;rw[h]at h';cases h';exact r,fun r=>⟨_,h,r⟩⟩
theorem b8O{neg:Bool}{x y:D}:c0K neg x y M R=(cl 60 x=true∧cl 60 y=true∧R (.bl (neg.xor (@decide (x=y) (c7z _)))) M):=rfl
theorem b3f{sp:DSp}{dds:List D}{Y:DXK}:b1o sp dds Y tr e M R=tr e M fun ds M1=>sp (ds++dds) M1 R Y:=rfl
theorem c1E{g:DRC}:dCB g tr e M R=tr e M fun ds M1=>g ds M1 R:=rfl
theorem b2Y:b9b F e M=F.nx e M:=rfl
theorem b8z:c2K t u F e M=t { F with nx:=u F } e M:=rfl
theorem b3c:b9d ta F e M=ta e M fun _ M1=>F.nx e M1:=rfl
theorem b8A:c2L ta F e M=ta e M F.rt:=rfl
theorem b0A:b5j F e M=False:=rfl
variable {Q:Ev→Mem→Prop}
theorem b0q{i:Nat}{d:D}:a13 i d e M Q=Q (e.set i (some d)) M:=rfl
theorem b2P:b86 [] e M Q=Q e M:=propext ⟨fun h=>h.2,fun h=>⟨rfl,h⟩⟩
theorem b0r{g:DTG}{gs:Z0}{d:D}{ds:List D}:b5h g gs (d :: ds) e M Q=g d e M fun e' M'=>gs ds e' M' Q:=propext ⟨fun zz=>by obtain⟨_,_,h,r⟩:=zz;cases h;exact r,fun r=>⟨_,_,rfl,r⟩⟩
theorem a7D{n:Nat}{gs:Z0}{ds:List D}(h:ds.length=n):b5g n gs (.vl ds) e M Q=gs ds e M Q:=propext ⟨fun zz=>by obtain⟨_,h',_,r⟩:=zz;cases h';exact r,fun r=>⟨_,rfl,h,r⟩⟩
theorem a3f{n:Nat}{gs:Z0}{ds:List D}(h:ds.length=n):a8E n gs (.tup ds) e M Q=gs ds e M Q:=propext ⟨fun zz=>by obtain⟨_,h',_,r⟩:=zz;cases h';exact r,fun r=>⟨_,rfl,h,r⟩⟩
theorem b2O{to ti:DTE}{ts:b5L}{d:D}:b85 to ti ts d e M Q=to e M fun o M1=>ti e M1 fun i M2=>ts o i d M2 fun M3=>Q e M3:=rfl
theorem b8Q{g:DTG}:b5m ta g F e M=ta e M fun x M1=>g x e M1 F.nx:=rfl
theorem b8B{i j:Nat}:c2M i j tr F e M=tr e M fun ds M1=>c3e i j ds F e M1:=rfl
theorem b2W{i j:Nat}{x y:D}:c3e i j [x,y] F e M=F.nx ((e.set i (some x)).set j (some y)) M:=propext ⟨fun zz=>by obtain⟨_,_,h,r⟩:=zz;cases h;exact r,fun r=>⟨_,_,rfl,r⟩⟩
theorem b8S{i:Int}:c2G [.int i] M R=R (.int (i.natAbs:Int)) M:=propext ⟨fun zz=>by obtain⟨_,h,r⟩:=zz;cases h;exact r,fun r=>⟨_,rfl,r⟩⟩
theorem b8F{i j:Int}:c2B [.int i,.int j] M R=R (.int (max i j)) M:=propext ⟨fun zz=>by obtain⟨_,_,h,r⟩:=zz;cases h;exact r,fun r=>⟨_,_,rfl,r⟩⟩
theorem a7L{d:D}{n:Nat}(h:b4y M d=some n):b2b [d] M R=R (.int (n:Int)) M:=propext ⟨fun zz=>by obtain⟨_,_,h',h2,r⟩:=zz;cases h';rw[h]at h2;cases h2;exact r,fun r=>⟨_,_,rfl,h,r⟩⟩
theorem v6{d:D}{ty T:String}{b:Bool}(h1:tyD M d=some ty)(h2:b6K ty T=some b):C0 [d,.ty T] M R=R (.bl b) M:=propext ⟨fun zz=>by
 obtain⟨_,_,_,_,h,h1',h2',r⟩:=zz
 injection h with h h';subst h;injection h' with h';injection h' with h';subst h'
 rw[h1]at h1';cases h1';rw[h2]at h2';cases h2';exact r,fun r=>⟨_,_,_,_,rfl,h1,h2,r⟩⟩
theorem b8J{c:Bool}{A B:Prop}:IfK c A B=((c=true→A)∧(c=false→B)):=by cases c<;>simp[IfK]
theorem b8H{A B:Prop}:IfK true A B=A:=by simp[IfK]
theorem b8K{A B:Prop}:IfK false A B=B:=by simp[IfK]
theorem E6{n:Nat}{A:Prop}(h:n≤1000):SzK n A=A:=propext ⟨fun h=>h.2,fun a=>⟨sl n h,a⟩⟩
theorem c1j{d:D}{r:Ev}:a0q 0 (some d :: r) M R=R d M:=propext ⟨fun zz=>by obtain⟨_,h,q⟩:=zz;cases h;exact q,fun q=>⟨_,rfl,q⟩⟩
theorem c1t{y z:Option D}{r:Ev}:(y :: r:Ev).set 0 z=z :: r:=rfl
theorem c1i{x0:Option D}{d:D}{r:Ev}:a0q 1 (x0 :: some d :: r) M R=R d M:=propext ⟨fun zz=>by obtain⟨_,h,q⟩:=zz;cases h;exact q,fun q=>⟨_,rfl,q⟩⟩
theorem c1s{x0:Option D}{y z:Option D}{r:Ev}:(x0 :: y :: r:Ev).set 1 z=x0 :: z :: r:=rfl
theorem c1h{x0 x1:Option D}{d:D}{r:Ev}:a0q 2 (x0 :: x1 :: some d :: r) M R=R d M:=propext ⟨fun zz=>by obtain⟨_,h,q⟩:=zz;cases h;exact q,fun q=>⟨_,rfl,q⟩⟩
theorem c1r{x0 x1:Option D}{y z:Option D}{r:Ev}:(x0 :: x1 :: y :: r:Ev).set 2 z=x0 :: x1 :: z :: r:=rfl
theorem c1g{x0 x1 x2:Option D}{d:D}{r:Ev}:a0q 3 (x0 :: x1 :: x2 :: some d :: r) M R=R d M:=propext ⟨fun zz=>by obtain⟨_,h,q⟩:=zz;cases h;exact q,fun q=>⟨_,rfl,q⟩⟩
theorem c1q{x0 x1 x2:Option D}{y z:Option D}{r:Ev}:(x0 :: x1 :: x2 :: y :: r:Ev).set 3 z=x0 :: x1 :: x2 :: z :: r:=rfl
theorem c1f{x0 x1 x2 x3:Option D}{d:D}{r:Ev}:a0q 4 (x0 :: x1 :: x2 :: x3 :: some d :: r) M R=R d M:=propext ⟨fun zz=>by obtain⟨_,h,q⟩:=zz;cases h;exact q,fun q=>⟨_,rfl,q⟩⟩
theorem c1p{x0 x1 x2 x3:Option D}{y z:Option D}{r:Ev}:(x0 :: x1 :: x2 :: x3 :: y :: r:Ev).set 4 z=x0 :: x1 :: x2 :: x3 :: z :: r:=rfl
theorem c1e{x0 x1 x2 x3 x4:Option D}{d:D}{r:Ev}:a0q 5 (x0 :: x1 :: x2 :: x3 :: x4 :: some d :: r) M R=R d M:=propext ⟨fun zz=>by obtain⟨_,h,q⟩:=zz;cases h;exact q,fun q=>⟨_,rfl,q⟩⟩
theorem c1o{x0 x1 x2 x3 x4:Option D}{y z:Option D}{r:Ev}:(x0 :: x1 :: x2 :: x3 :: x4 :: y :: r:Ev).set 5 z=x0 :: x1 :: x2 :: x3 :: x4 :: z :: r:=rfl
theorem c1d{x0 x1 x2 x3 x4 x5:Option D}{d:D}{r:Ev}:a0q 6 (x0 :: x1 :: x2 :: x3 :: x4 :: x5 :: some d :: r) M R=R d M:=propext ⟨fun zz=>by obtain⟨_,h,q⟩:=zz;cases h;exact q,fun q=>⟨_,rfl,q⟩⟩
theorem c1n{x0 x1 x2 x3 x4 x5:Option D}{y z:Option D}{r:Ev}:(x0 :: x1 :: x2 :: x3 :: x4 :: x5 :: y :: r:Ev).set 6 z=x0 :: x1 :: x2 :: x3 :: x4 :: x5 :: z :: r:=rfl
theorem c1c{x0 x1 x2 x3 x4 x5 x6:Option D}{d:D}{r:Ev}:a0q 7 (x0 :: x1 :: x2 :: x3 :: x4 :: x5 :: x6 :: some d :: r) M R=R d M:=propext ⟨fun zz=>by obtain⟨_,h,q⟩:=zz;cases h;exact q,fun q=>⟨_,rfl,q⟩⟩
theorem c1m{x0 x1 x2 x3 x4 x5 x6:Option D}{y z:Option D}{r:Ev}:(x0 :: x1 :: x2 :: x3 :: x4 :: x5 :: x6 :: y :: r:Ev).set 7 z=x0 :: x1 :: x2 :: x3 :: x4 :: x5 :: x6 :: z :: r:=rfl
theorem c1b{x0 x1 x2 x3 x4 x5 x6 x7:Option D}{d:D}{r:Ev}:a0q 8 (x0 :: x1 :: x2 :: x3 :: x4 :: x5 :: x6 :: x7 :: some d :: r) M R=R d M:=propext ⟨fun zz=>by obtain⟨_,h,q⟩:=zz;cases h;exact q,fun q=>⟨_,rfl,q⟩⟩
theorem c1l{x0 x1 x2 x3 x4 x5 x6 x7:Option D}{y z:Option D}{r:Ev}:(x0 :: x1 :: x2 :: x3 :: x4 :: x5 :: x6 :: x7 :: y :: r:Ev).set 8 z=x0 :: x1 :: x2 :: x3 :: x4 :: x5 :: x6 :: x7 :: z :: r:=rfl
theorem c1a{x0 x1 x2 x3 x4 x5 x6 x7 x8:Option D}{d:D}{r:Ev}:a0q 9 (x0 :: x1 :: x2 :: x3 :: x4 :: x5 :: x6 :: x7 :: x8 :: some d :: r) M R=R d M:=propext ⟨fun zz=>by obtain⟨_,h,q⟩:=zz;cases h;exact q,fun q=>⟨_,rfl,q⟩⟩
theorem c1k{x0 x1 x2 x3 x4 x5 x6 x7 x8:Option D}{y z:Option D}{r:Ev}:(x0 :: x1 :: x2 :: x3 :: x4 :: x5 :: x6 :: x7 :: x8 :: y :: r:Ev).set 9 z=x0 :: x1 :: x2 :: x3 :: x4 :: x5 :: x6 :: x7 :: x8 :: z :: r:=rfl
theorem b8f{x0 x1 x2 x3 x4 x5 x6 x7 x8 x9:Option D}{d:D}{r:Ev}:a0q 10 (x0 :: x1 :: x2 :: x3 :: x4 :: x5 :: x6 :: x7 :: x8 :: x9 :: some d :: r) M R=R d M:=propext ⟨fun zz=>by obtain⟨_,h,q⟩:=zz;cases h;exact q,fun q=>⟨_,rfl,q⟩⟩
theorem b8v{x0 x1 x2 x3 x4 x5 x6 x7 x8 x9:Option D}{y z:Option D}{r:Ev}:(x0 :: x1 :: x2 :: x3 :: x4 :: x5 :: x6 :: x7 :: x8 :: x9 :: y :: r:Ev).set 10 z=x0 :: x1 :: x2 :: x3 :: x4 :: x5 :: x6 :: x7 :: x8 :: x9 :: z :: r:=rfl
theorem b8e{x0 x1 x2 x3 x4 x5 x6 x7 x8 x9 x10:Option D}{d:D}{r:Ev}:a0q 11 (x0 :: x1 :: x2 :: x3 :: x4 :: x5 :: x6 :: x7 :: x8 :: x9 :: x10 :: some d :: r) M R=R d M:=propext ⟨fun zz=>by obtain⟨_,h,q⟩:=zz;cases h;exact q,fun q=>⟨_,rfl,q⟩⟩
theorem b8u{x0 x1 x2 x3 x4 x5 x6 x7 x8 x9 x10:Option D}{y z:Option D}{r:Ev}:(x0 :: x1 :: x2 :: x3 :: x4 :: x5 :: x6 :: x7 :: x8 :: x9 :: x10 :: y :: r:Ev).set 11 z=x0 :: x1 :: x2 :: x3 :: x4 :: x5 :: x6 :: x7 :: x8 :: x9 :: x10 :: z :: r:=rfl
theorem b8d{x0 x1 x2 x3 x4 x5 x6 x7 x8 x9 x10 x11:Option D}{d:D}{r:Ev}:a0q 12 (x0 :: x1 :: x2 :: x3 :: x4 :: x5 :: x6 :: x7 :: x8 :: x9 :: x10 :: x11 :: some d :: r) M R=R d M:=propext ⟨fun zz=>by obtain⟨_,h,q⟩:=zz;cases h;exact q,fun q=>⟨_,rfl,q⟩⟩
theorem b8t{x0 x1 x2 x3 x4 x5 x6 x7 x8 x9 x10 x11:Option D}{y z:Option D}{r:Ev}:(x0 :: x1 :: x2 :: x3 :: x4 :: x5 :: x6 :: x7 :: x8 :: x9 :: x10 :: x11 :: y :: r:Ev).set 12 z=x0 :: x1 :: x2 :: x3 :: x4 :: x5 :: x6 :: x7 :: x8 :: x9 :: x10 :: x11 :: z :: r:=rfl
theorem b8c{x0 x1 x2 x3 x4 x5 x6 x7 x8 x9 x10 x11 x12:Option D}{d:D}{r:Ev}:a0q 13 (x0 :: x1 :: x2 :: x3 :: x4 :: x5 :: x6 :: x7 :: x8 :: x9 :: x10 :: x11 :: x12 :: some d :: r) M R=R d M:=propext ⟨fun zz=>by obtain⟨_,h,q⟩:=zz;cases h;exact q,fun q=>⟨_,rfl,q⟩⟩
theorem b8s{x0 x1 x2 x3 x4 x5 x6 x7 x8 x9 x10 x11 x12:Option D}{y z:Option D}{r:Ev}:(x0 :: x1 :: x2 :: x3 :: x4 :: x5 :: x6 :: x7 :: x8 :: x9 :: x10 :: x11 :: x12 :: y :: r:Ev).set 13 z=x0 :: x1 :: x2 :: x3 :: x4 :: x5 :: x6 :: x7 :: x8 :: x9 :: x10 :: x11 :: x12 :: z :: r:=rfl
theorem b8b{x0 x1 x2 x3 x4 x5 x6 x7 x8 x9 x10 x11 x12 x13:Option D}{d:D}{r:Ev}:a0q 14 (x0 :: x1 :: x2 :: x3 :: x4 :: x5 :: x6 :: x7 :: x8 :: x9 :: x10 :: x11 :: x12 :: x13 :: some d :: r) M R=R d M:=propext ⟨fun zz=>by obtain⟨_,h,q⟩:=zz;cases h;exact q,fun q=>⟨_,rfl,q⟩⟩
theorem b8r{x0 x1 x2 x3 x4 x5 x6 x7 x8 x9 x10 x11 x12 x13:Option D}{y z:Option D}{r:Ev}:(x0 :: x1 :: x2 :: x3 :: x4 :: x5 :: x6 :: x7 :: x8 :: x9 :: x10 :: x11 :: x12 :: x13 :: y :: r:Ev).set 14 z=x0 :: x1 :: x2 :: x3 :: x4 :: x5 :: x6 :: x7 :: x8 :: x9 :: x10 :: x11 :: x12 :: x13 :: z :: r:=rfl
theorem B5{M:Mem}{ds es:List D}:B6 M (.tup ds) es=(es=ds):=by
 apply propext
 constructor
 ·intro h
  rcases h with h|⟨_,h,_⟩|h
  ·injection h with h;exact h.symm
  ·exact absurd h (by intro z;cases z)
  ·exact absurd h (by intro z;cases z)
 ·intro h;exact .inl (by rw[h])
theorem p6{M:Mem}{ds es:List D}:B6 M (.vl ds) es=(es=ds):=by
 apply propext
 constructor
 ·intro h
  rcases h with h|⟨_,h,_⟩|h
  ·exact absurd h (by intro z;cases z)
  ·exact absurd h (by intro z;cases z)
  ·injection h with h;exact h.symm
 ·intro h;exact .inr (.inr (by rw[h]))
theorem y4{ds:List D}{n:Nat}{d:D}(h:ds[n]? = some d):atI ds (n:Int)=some d:=by
 obtain⟨hl,_⟩:=c6P.mp h
 unfold atI ixN
 rw[if_pos (c8i n),if_pos (by omega)]
 simpa using h
theorem b2Z:b9c tr e M R=tr e M fun ds M1=>SzK ds.length (R (.vl ds) M1):=rfl
theorem b3e:b9f ta tb e M R=ta e M fun x M1=>tb e M1 fun y M2=>b1e x y M2 R:=rfl
theorem b8y{tl th:DTO}:c2J ta tl th e M R=ta e M fun x M1=>tl e M1 fun l M2=>th e M2 fun u M3=>b7R x l u M3 R:=rfl
theorem a7K{Q:Option Int→Mem→Prop}:b1n e M Q=Q none M:=rfl
theorem b2V{Q:Option Int→Mem→Prop}:b89 ta e M Q=ta e M fun x M1=>b9m x M1 Q:=rfl
theorem b0z{i:Int}{Q:Option Int→Mem→Prop}:b9m (.int i) M Q=Q (some i) M:=propext ⟨fun zz=>by obtain⟨_,h,r⟩:=zz;cases h;exact r,fun r=>⟨_,rfl,r⟩⟩
theorem b0B:b5k tr e M R=tr e M fun ds M1=>a6W ds M1 R:=rfl
theorem a7G{ds:List D}:a6W [.tup ds] M R=R (.vl ds) M:=propext ⟨fun zz=>by obtain⟨_,_,h,h2,r⟩:=zz;cases h;rw[B5]at h2;subst h2;exact r,fun r=>⟨_,_,rfl,.inl rfl,r⟩⟩
theorem a5q{ds:List D}:a6W [.vl ds] M R=R (.vl ds) M:=propext ⟨fun zz=>by obtain⟨_,_,h,h2,r⟩:=zz;cases h;rw[p6]at h2;subst h2;exact r,fun r=>⟨_,_,rfl,.inr (.inr rfl),r⟩⟩
theorem a7C{ds:List D}:b8Y [.vl ds] M R=R (.tup ds) M:=propext ⟨fun zz=>by obtain⟨_,_,h,h2,r⟩:=zz;cases h;cases h2;exact r,fun r=>⟨_,_,rfl,rfl,r⟩⟩
theorem a7H{xs ys:List D}:b1e (.vl xs) (.vl ys) M R=SzK (xs.length+ys.length) (R (.vl (xs++ys)) M):=propext ⟨fun zz=>by obtain⟨_,_,h,h2,z,r⟩:=zz;cases h;cases h2;exact⟨z,r⟩,fun⟨z,r⟩=>⟨_,_,rfl,rfl,z,r⟩⟩
theorem b0p{xs:List D}{lo hi:Option Int}:b7R (.vl xs) lo hi M R=R (.vl (Y4 xs lo hi)) M:=propext ⟨fun h=>by
 rcases h with⟨_,h,r⟩|⟨_,h,_⟩
 ·cases h;exact r
 ·exact(nomatch h),fun r=>.inl ⟨_,rfl,r⟩⟩
theorem b0o{xs:List D}{lo hi:Option Int}:b7R (.tup xs) lo hi M R=(¬ (HT.sIx xs.length 0 lo=0∧HT.sIx xs.length xs.length hi=xs.length)∧R (.tup (Y4 xs lo hi)) M):=propext ⟨fun h=>by
 rcases h with⟨_,h,r⟩|⟨_,h,hw,r⟩
 ·cases h
 ·cases h;exact⟨hw,r⟩,fun⟨hw,r⟩=>.inr ⟨_,rfl,hw,r⟩⟩
theorem b2U:b88 ta e M R=ta e M fun x M1=>b1c x M1 R:=rfl
theorem a7E{ds:List D}:b1c (.vl ds) M R=R (.vl ds.reverse) M:=propext ⟨fun zz=>by obtain⟨_,h,r⟩:=zz;rw[p6]at h;subst h;exact r,fun r=>⟨_,.inr (.inr rfl),r⟩⟩
theorem a7F{ds:List D}:b1c (.tup ds) M R=R (.vl ds.reverse) M:=propext ⟨fun zz=>by obtain⟨_,h,r⟩:=zz;rw[B5]at h;subst h;exact r,fun r=>⟨_,.inl rfl,r⟩⟩
theorem b8L:c2S ta e M R=ta e M fun x M1=>c3h x M1 R:=rfl
theorem a0y{p:Addr}{ds:List D}(h:M p=some (.lst ds)):c3h (.ref p) M R=R (.vl ds) (a0Y M p):=propext ⟨fun zz=>by obtain⟨_,_,e,h',r⟩:=zz;cases e;rw[h]at h';cases h';exact r,fun r=>⟨_,_,rfl,h,r⟩⟩
theorem b0E{n:Nat}{caps:List Nat}{ti:DTI}{g:DTG}{tc:V3}{te:DTE}:a9U n caps ti g tc te e M R=ti e M fun ds stay M1=>b9o (a4K n caps e) g tc te ds stay M1 R:=rfl
theorem b0F{n:Nat}{caps:List Nat}{ti:DTI}{g:DTG}{tc:V3}{te:DTE}:b5l n caps ti g tc te e M R=ti e M fun ds stay M1=>b9p (a4K n caps e) g tc te ds stay M1 R:=rfl
theorem b8w{Q:Bool→Mem→Prop}:b7Z e M Q=Q true M:=rfl
section
variable {Q:List D→(Mem→Prop)→Mem→Prop}
theorem b0t:b83 ta e M Q=ta e M fun x M1=>c03 x M1 Q:=rfl
theorem b2S{ds:List D}:c03 (.tup ds) M Q=Q ds (fun M'=>B6 M' (.tup ds) ds) M:=propext ⟨fun zz=>by obtain⟨_,h,r⟩:=zz;rw[B5]at h;subst h;exact r,fun r=>⟨_,.inl rfl,r⟩⟩
theorem b2R{ds:List D}:c03 (.vl ds) M Q=Q ds (fun M'=>B6 M' (.vl ds) ds) M:=propext ⟨fun zz=>by obtain⟨_,h,r⟩:=zz;rw[p6]at h;subst h;exact r,fun r=>⟨_,.inr (.inr rfl),r⟩⟩
theorem a7I:b5e tr e M Q=tr e M fun xs M1=>b5K xs M1 Q:=rfl
theorem b0D{ds:List D}:b5K [.tup ds] M Q=Q (R0 ds) (fun M'=>B6 M' (.tup ds) ds) M:=propext ⟨fun zz=>by obtain⟨_,_,h,h2,r⟩:=zz;cases h;rw[B5]at h2;subst h2;exact r,fun r=>⟨_,_,rfl,.inl rfl,r⟩⟩
theorem b0C{ds:List D}:b5K [.vl ds] M Q=Q (R0 ds) (fun M'=>B6 M' (.vl ds) ds) M:=propext ⟨fun zz=>by obtain⟨_,_,h,h2,r⟩:=zz;cases h;rw[p6]at h2;subst h2;exact r,fun r=>⟨_,_,rfl,.inr (.inr rfl),r⟩⟩
theorem b0s:b82 tr e M Q=tr e M fun xs M1=>b5E xs M1 Q:=rfl
theorem b0y{ds es:List D}:b5E [.tup ds,.tup es] M Q=Q (V6 ds es) (fun M'=>B6 M' (.tup ds) ds∧B6 M' (.tup es) es) M:=propext ⟨fun zz=>by obtain⟨_,_,_,_,h,h2,h3,r⟩:=zz;cases h;rw[B5]at h2 h3;subst h2;subst h3;exact r,fun r=>⟨_,_,_,_,rfl,.inl rfl,.inl rfl,r⟩⟩
theorem b0v{ds es:List D}:b5E [.vl ds,.vl es] M Q=Q (V6 ds es) (fun M'=>B6 M' (.vl ds) ds∧B6 M' (.vl es) es) M:=propext ⟨fun zz=>by obtain⟨_,_,_,_,h,h2,h3,r⟩:=zz;cases h;rw[p6]at h2 h3;subst h2;subst h3;exact r,fun r=>⟨_,_,_,_,rfl,.inr (.inr rfl),.inr (.inr rfl),r⟩⟩
theorem b0x{ds es:List D}:b5E [.tup ds,.vl es] M Q=Q (V6 ds es) (fun M'=>B6 M' (.tup ds) ds∧B6 M' (.vl es) es) M:=propext ⟨fun zz=>by obtain⟨_,_,_,_,h,h2,h3,r⟩:=zz;cases h;rw[B5]at h2;rw[p6]at h3;subst h2;subst h3;exact r,fun r=>⟨_,_,_,_,rfl,.inl rfl,.inr (.inr rfl),r⟩⟩
theorem b0w{ds es:List D}:b5E [.vl ds,.tup es] M Q=Q (V6 ds es) (fun M'=>B6 M' (.vl ds) ds∧B6 M' (.tup es) es) M:=propext ⟨fun zz=>by obtain⟨_,_,_,_,h,h2,h3,r⟩:=zz;cases h;rw[p6]at h2;rw[B5]at h3;subst h2;subst h3;exact r,fun r=>⟨_,_,_,_,rfl,.inr (.inr rfl),.inl rfl,r⟩⟩
theorem b0u:b84 tr e M Q=tr e M fun xs M1=>c3d xs M1 Q:=rfl
theorem b2T{j:Int}:c3d [.int j] M Q=((-(2 ^ 62)≤j∧j<2 ^ 62)∧Q (T9 0 j.toNat) (fun _=>True) M):=propext ⟨fun zz=>by obtain⟨_,h,a,b,r⟩:=zz;cases h;exact⟨⟨a,b⟩,r⟩,fun⟨⟨a,b⟩,r⟩=>⟨_,rfl,a,b,r⟩⟩
theorem a7J:b5f tr e M Q=tr e M fun ds M1=>b5N ds M1 Q:=rfl
theorem b0G{xs:List D}:b5N [.vl xs] M Q=Q xs.reverse (fun _=>True) M:=propext ⟨fun zz=>by obtain⟨_,h,r⟩:=zz;cases h;exact r,fun r=>⟨_,rfl,r⟩⟩
end
theorem b8M{ti:DTI}{g:DTG}:c2T ti g t F e M=ti e M fun ds stay M1=>a0r g t F ds stay e M1:=rfl
theorem a0r.by{g:DTG}{ds:List D}{stay:Mem→Prop}{M1:Mem}(W:Nat→Ev→Mem→Prop)(w0:W 0 e M1)(st:∀ i e M,i≤ds.length→W i e M→stay M)
  (turn:∀(i:Nat) (d:D) e M,ds[i]? = some d→W i e M→g d e M fun e2 M2=>t { F with nx:=W (i+1),ct:=W (i+1),bk:=F.nx } e2 M2) (done:∀ e M,W ds.length e M→F.nx e M):a0r g t F ds stay e M1:=⟨W,w0,st,turn,done⟩
theorem b77{F:a1G}(W:Nat→Ev→Mem→Prop)(m:Nat)(w0:W m e M)(turn:∀ m e M,W m e M→tA e M fun b M1=>IfK b (t { F with nx:=fun e' M'=>∃ m',m'<m∧W m' e' M',ct:=fun e' M'=>∃ m',m'<m∧W m' e' M',bk:=F.nx } e M1) (F.nx e M1)):b5i tA t F e M:=⟨W,⟨m,w0⟩,turn⟩
theorem a4a{F:a1G}(P:Ev→Mem→Prop)(h1:t { F with nx:=P } e M)(h2:∀ e' M',P e' M'→u F e' M'):b87 t u F e M:=⟨P,h1,h2⟩
theorem c1C{g:DRM}:dLM g ta tr e M R=ta e M fun x M1=>LMK x M1 (tr e M1 fun xs M2=>g x xs M2 R):=rfl
theorem a20{x0:D}{r:List D}:gIx (.tup (x0 :: r)) (.int 0) M R=R x0 M:=a0p (y4 (n:=0) rfl)
theorem b2I{x0:D}{r:List D}:gIx (.vl (x0 :: r)) (.int 0) M R=R x0 M:=a0p (y4 (n:=0) rfl)
theorem a2Z{x0 x1:D}{r:List D}:gIx (.tup (x0 :: x1 :: r)) (.int 1) M R=R x1 M:=a0p (y4 (n:=1) rfl)
theorem b2H{x0 x1:D}{r:List D}:gIx (.vl (x0 :: x1 :: r)) (.int 1) M R=R x1 M:=a0p (y4 (n:=1) rfl)
theorem a8W{x0 x1 x2:D}{r:List D}:gIx (.tup (x0 :: x1 :: x2 :: r)) (.int 2) M R=R x2 M:=a0p (y4 (n:=2) rfl)
theorem b2G{x0 x1 x2:D}{r:List D}:gIx (.vl (x0 :: x1 :: x2 :: r)) (.int 2) M R=R x2 M:=a0p (y4 (n:=2) rfl)
theorem b2N{x0 x1 x2 x3:D}{r:List D}:gIx (.tup (x0 :: x1 :: x2 :: x3 :: r)) (.int 3) M R=R x3 M:=a0p (y4 (n:=3) rfl)
theorem b2F{x0 x1 x2 x3:D}{r:List D}:gIx (.vl (x0 :: x1 :: x2 :: x3 :: r)) (.int 3) M R=R x3 M:=a0p (y4 (n:=3) rfl)
theorem b2M{x0 x1 x2 x3 x4:D}{r:List D}:gIx (.tup (x0 :: x1 :: x2 :: x3 :: x4 :: r)) (.int 4) M R=R x4 M:=a0p (y4 (n:=4) rfl)
theorem b2E{x0 x1 x2 x3 x4:D}{r:List D}:gIx (.vl (x0 :: x1 :: x2 :: x3 :: x4 :: r)) (.int 4) M R=R x4 M:=a0p (y4 (n:=4) rfl)
theorem b2L{x0 x1 x2 x3 x4 x5:D}{r:List D}:gIx (.tup (x0 :: x1 :: x2 :: x3 :: x4 :: x5 :: r)) (.int 5) M R=R x5 M:=a0p (y4 (n:=5) rfl)
theorem b2D{x0 x1 x2 x3 x4 x5:D}{r:List D}:gIx (.vl (x0 :: x1 :: x2 :: x3 :: x4 :: x5 :: r)) (.int 5) M R=R x5 M:=a0p (y4 (n:=5) rfl)
theorem b2K{x0 x1 x2 x3 x4 x5 x6:D}{r:List D}:gIx (.tup (x0 :: x1 :: x2 :: x3 :: x4 :: x5 :: x6 :: r)) (.int 6) M R=R x6 M:=a0p (y4 (n:=6) rfl)
theorem b2C{x0 x1 x2 x3 x4 x5 x6:D}{r:List D}:gIx (.vl (x0 :: x1 :: x2 :: x3 :: x4 :: x5 :: x6 :: r)) (.int 6) M R=R x6 M:=a0p (y4 (n:=6) rfl)
theorem b2J{x0 x1 x2 x3 x4 x5 x6 x7:D}{r:List D}:gIx (.tup (x0 :: x1 :: x2 :: x3 :: x4 :: x5 :: x6 :: x7 :: r)) (.int 7) M R=R x7 M:=a0p (y4 (n:=7) rfl)
theorem b2B{x0 x1 x2 x3 x4 x5 x6 x7:D}{r:List D}:gIx (.vl (x0 :: x1 :: x2 :: x3 :: x4 :: x5 :: x6 :: x7 :: r)) (.int 7) M R=R x7 M:=a0p (y4 (n:=7) rfl)
theorem b8p{A:Prop}:SzK (0) A=A:=E6 (by decide)
theorem b8o{A:Prop}:SzK (0+1) A=A:=E6 (by decide)
theorem b8n{A:Prop}:SzK (0+1+1) A=A:=E6 (by decide)
theorem b8m{A:Prop}:SzK (0+1+1+1) A=A:=E6 (by decide)
theorem b8l{A:Prop}:SzK (0+1+1+1+1) A=A:=E6 (by decide)
theorem b8k{A:Prop}:SzK (0+1+1+1+1+1) A=A:=E6 (by decide)
theorem b8j{A:Prop}:SzK (0+1+1+1+1+1+1) A=A:=E6 (by decide)
theorem b8i{A:Prop}:SzK (0+1+1+1+1+1+1+1) A=A:=E6 (by decide)
theorem b8h{A:Prop}:SzK (0+1+1+1+1+1+1+1+1) A=A:=E6 (by decide)
theorem b8g{A:Prop}:SzK (0+1+1+1+1+1+1+1+1+1) A=A:=E6 (by decide)
theorem b6A{i:Int}:cl 60 (.int i)=true:=rfl
theorem b6u:cl 60 .non=true:=rfl
theorem b6k{ds:List D}:cl 60 (.tup ds)=clL 59 ds:=rfl
theorem b6e{ds:List D}:cl 60 (.vl ds)=clL 59 ds:=rfl
theorem b5S:clL 59 []=true:=rfl
theorem b5Y{d:D}{r:List D}:clL 59 (d :: r)=(cl 59 d && clL 59 r):=rfl
theorem b6B{i:Int}:cl 59 (.int i)=true:=rfl
theorem b6v:cl 59 .non=true:=rfl
theorem b6l{ds:List D}:cl 59 (.tup ds)=clL 58 ds:=rfl
theorem b6f{ds:List D}:cl 59 (.vl ds)=clL 58 ds:=rfl
theorem b5T:clL 58 []=true:=rfl
theorem b5Z{d:D}{r:List D}:clL 58 (d :: r)=(cl 58 d && clL 58 r):=rfl
theorem b6C{i:Int}:cl 58 (.int i)=true:=rfl
theorem b6w:cl 58 .non=true:=rfl
theorem b6m{ds:List D}:cl 58 (.tup ds)=clL 57 ds:=rfl
theorem b6g{ds:List D}:cl 58 (.vl ds)=clL 57 ds:=rfl
theorem b5U:clL 57 []=true:=rfl
theorem b6a{d:D}{r:List D}:clL 57 (d :: r)=(cl 57 d && clL 57 r):=rfl
theorem b6D{i:Int}:cl 57 (.int i)=true:=rfl
theorem b6x:cl 57 .non=true:=rfl
theorem b6n{ds:List D}:cl 57 (.tup ds)=clL 56 ds:=rfl
theorem b6h{ds:List D}:cl 57 (.vl ds)=clL 56 ds:=rfl
theorem b5V:clL 56 []=true:=rfl
theorem b6b{d:D}{r:List D}:clL 56 (d :: r)=(cl 56 d && clL 56 r):=rfl
theorem b6E{i:Int}:cl 56 (.int i)=true:=rfl
theorem b6y:cl 56 .non=true:=rfl
theorem b6o{ds:List D}:cl 56 (.tup ds)=clL 55 ds:=rfl
theorem b6i{ds:List D}:cl 56 (.vl ds)=clL 55 ds:=rfl
theorem b5W:clL 55 []=true:=rfl
theorem b6c{d:D}{r:List D}:clL 55 (d :: r)=(cl 55 d && clL 55 r):=rfl
theorem b6F{i:Int}:cl 55 (.int i)=true:=rfl
theorem b6z:cl 55 .non=true:=rfl
theorem b6p{ds:List D}:cl 55 (.tup ds)=clL 54 ds:=rfl
theorem b6j{ds:List D}:cl 55 (.vl ds)=clL 54 ds:=rfl
theorem b5X:clL 54 []=true:=rfl
theorem b6d{d:D}{r:List D}:clL 54 (d :: r)=(cl 54 d && clL 54 r):=rfl
theorem b3a{xs:List D}:b2b [.vl xs] M R=R (.int (xs.length:Int)) M:=a7L rfl
theorem b3b{xs:List D}:b2b [.tup xs] M R=R (.int (xs.length:Int)) M:=a7L rfl
theorem b9B{A:Prop}:SzK 1 A=A:=E6 (by decide)
theorem b9A{A:Prop}:SzK 2 A=A:=E6 (by decide)
theorem b9z{A:Prop}:SzK 3 A=A:=E6 (by decide)
theorem b9y{A:Prop}:SzK 4 A=A:=E6 (by decide)
theorem b9x{A:Prop}:SzK 5 A=A:=E6 (by decide)
theorem b9w{A:Prop}:SzK 6 A=A:=E6 (by decide)
theorem b9v{A:Prop}:SzK 7 A=A:=E6 (by decide)
theorem b9u{A:Prop}:SzK 8 A=A:=E6 (by decide)
theorem b9t{A:Prop}:SzK 9 A=A:=E6 (by decide)
theorem b5R{A:Prop}:SzK 10 A=A:=E6 (by decide)
theorem b5Q{A:Prop}:SzK 11 A=A:=E6 (by decide)
theorem b5P{A:Prop}:SzK 12 A=A:=E6 (by decide)
theorem b3h{bs:List Bool}:c2F [.vl (bs.map D.bl)] M R=R (.bl (bs.all id)) M:=propext ⟨fun zz=>by
 obtain⟨_,bs',e,h,r⟩:=zz
 cases e
 have e2:bs.map D.bl=bs'.map D.bl:=Option.some.inj h
 have e3:bs=bs':=(c8u (fun a b z=>by injection z)).mp e2
 subst e3;exact r,fun r=>⟨_,bs,rfl,rfl,r⟩⟩
theorem a2g:C0 [.dic,.ty "tuple"] M R=R (.bl false) M:=v6 rfl rfl
theorem a3b:C0 [.dic,.ty "list"] M R=R (.bl false) M:=v6 rfl rfl
theorem a5n:C0 [.dic,.ty "int"] M R=R (.bl false) M:=v6 rfl rfl
theorem a3c:C0 [.dic,.ty "bool"] M R=R (.bl false) M:=v6 rfl rfl
theorem a5m:C0 [.dic,.ty "str"] M R=R (.bl false) M:=v6 rfl rfl
theorem a2c{ds:List D}:C0 [.tup ds,.ty "tuple"] M R=R (.bl true) M:=v6 rfl rfl
theorem a23{ds:List D}:C0 [.tup ds,.ty "list"] M R=R (.bl false) M:=v6 rfl rfl
theorem a5f{ds:List D}:C0 [.tup ds,.ty "int"] M R=R (.bl false) M:=v6 rfl rfl
theorem a24{ds:List D}:C0 [.tup ds,.ty "bool"] M R=R (.bl false) M:=v6 rfl rfl
theorem a5e{ds:List D}:C0 [.tup ds,.ty "str"] M R=R (.bl false) M:=v6 rfl rfl
theorem a2b{ds:List D}:C0 [.vl ds,.ty "tuple"] M R=R (.bl false) M:=v6 rfl rfl
theorem a21{ds:List D}:C0 [.vl ds,.ty "list"] M R=R (.bl true) M:=v6 rfl rfl
theorem a5d{ds:List D}:C0 [.vl ds,.ty "int"] M R=R (.bl false) M:=v6 rfl rfl
theorem a22{ds:List D}:C0 [.vl ds,.ty "bool"] M R=R (.bl false) M:=v6 rfl rfl
theorem a5c{ds:List D}:C0 [.vl ds,.ty "str"] M R=R (.bl false) M:=v6 rfl rfl
theorem a2f{i:Int}:C0 [.int i,.ty "tuple"] M R=R (.bl false) M:=v6 rfl rfl
theorem a29{i:Int}:C0 [.int i,.ty "list"] M R=R (.bl false) M:=v6 rfl rfl
theorem a5l{i:Int}:C0 [.int i,.ty "int"] M R=R (.bl true) M:=v6 rfl rfl
theorem a3a{i:Int}:C0 [.int i,.ty "bool"] M R=R (.bl false) M:=v6 rfl rfl
theorem a5k{i:Int}:C0 [.int i,.ty "str"] M R=R (.bl false) M:=v6 rfl rfl
theorem a2e:C0 [.non,.ty "tuple"] M R=R (.bl false) M:=v6 rfl rfl
theorem a27:C0 [.non,.ty "list"] M R=R (.bl false) M:=v6 rfl rfl
theorem a5j:C0 [.non,.ty "int"] M R=R (.bl false) M:=v6 rfl rfl
theorem a28:C0 [.non,.ty "bool"] M R=R (.bl false) M:=v6 rfl rfl
theorem a5i:C0 [.non,.ty "str"] M R=R (.bl false) M:=v6 rfl rfl
theorem a2d{x:Str}:C0 [.str x,.ty "tuple"] M R=R (.bl false) M:=v6 rfl rfl
theorem a25{x:Str}:C0 [.str x,.ty "list"] M R=R (.bl false) M:=v6 rfl rfl
theorem a5h{x:Str}:C0 [.str x,.ty "int"] M R=R (.bl false) M:=v6 rfl rfl
theorem a26{x:Str}:C0 [.str x,.ty "bool"] M R=R (.bl false) M:=v6 rfl rfl
theorem a5g{x:Str}:C0 [.str x,.ty "str"] M R=R (.bl true) M:=v6 rfl rfl
theorem a2h{b:Bool}:C0 [.bl b,.ty "tuple"] M R=R (.bl false) M:=v6 rfl rfl
theorem a3d{b:Bool}:C0 [.bl b,.ty "list"] M R=R (.bl false) M:=v6 rfl rfl
theorem a5p{b:Bool}:C0 [.bl b,.ty "int"] M R=R (.bl true) M:=v6 rfl rfl
theorem a3e{b:Bool}:C0 [.bl b,.ty "bool"] M R=R (.bl true) M:=v6 rfl rfl
theorem a5o{b:Bool}:C0 [.bl b,.ty "str"] M R=R (.bl false) M:=v6 rfl rfl
theorem b8N:c2U ta e M R=ta e M fun x M1=>c3i x M1 R:=rfl
theorem N6{l:Addr}{ds:List D}{A:Prop}(h:M l=some (.lst ds))(a:A):LMK (.ref l) M A:=⟨⟨l,ds,rfl,h⟩,a⟩
theorem a17{l:Addr}{ds:List D}{v:D}(h:M l=some (.lst ds))(hz:ds.length<1000)(r:R .non (C1 M l (.lst (ds++[v])))):a6X (.ref l) [v] M R:=⟨l,ds,v,rfl,rfl,h,c6R hz (by decide),r⟩
theorem c07{l:Addr}{ds:List D}{k:Nat}{v:D}(h:M l=some (.lst ds))(hk:k≤ds.length)(hz:ds.length<1000)(r:R .non (C1 M l (.lst (ds.take k++v :: ds.drop k)))):b1d (.ref l) [.int (k:Int),v] M R:=⟨l,ds,v,k,rfl,rfl,h,hk,c6R hz (by decide),r⟩
theorem Y9{x:D}{M1 M2:Mem}(h:∀ b o,M2 b=some o→M1 b=some o)(r:R x M2):c3i x M1 R:=⟨M2,h,r⟩
end
end DL
namespace DL
open PySem PySem.Spec L2
open PyProof.Rows hiding St
theorem a1E{p:Str→Prop}:∀ x∈([]:List Str),p x:=fun _ h=>nomatch h
section
variable {e0:Ev} {g:DTG} {te:DTE} {tc:V3} {ds:List D} {stay:Mem→Prop} {M1:Mem} {E:List D→Mem→Prop}
theorem B7{α:Type}{xs:List α}{enc:α→D}(f:α→D)(hn:xs.length≤1000)(hst:stay M1)(step:∀ x∈xs,∀ Q:DK,Q (f x) M1→g (enc x) e0 M1 fun e2 M2=>te e2 M2 Q)(h:E (xs.map f) M1):∃ W,a5S e0 g b7Z te (xs.map enc) stay M1 E W:=by
 refine⟨fun i ys M=>M=M1∧ys=(xs.take i).map f,⟨⟨rfl,rfl⟩,fun i ys M _ w=>by rw[w.1];exact hst,fun i d ys M hd w=>?_,fun ys M w=>?_⟩⟩
 ·obtain⟨rfl,rfl⟩:=w
  rw[c6Y]at hd
  cases hx:xs[i]? with
  | none=>rw[hx]at hd;cases hd
  | some x =>
   rw[hx]at hd
   obtain rfl:enc x=d:=by simpa using hd
   refine step x (c6S hx) _ ⟨?_,rfl,?_⟩
   ·rw[c6Q,c7P]
    exact c7c (c6V (c9l _ _) hn) (by decide)
   ·obtain⟨hl,he⟩:=c6P.mp hx
    rw[c7V hl,c7d,he];rfl
 ·obtain⟨rfl,rfl⟩:=w
  rw[c6Q,c7t];exact h
theorem U6{α:Type}{xs:List α}{enc:α→D}(p:α→Bool)(f:α→D)(hn:xs.length≤1000)(hst:stay M1)
  (step:∀ x∈xs,∀(Q:DK) (N:Prop),(p x=true→Q (f x) M1)→(p x=false→N)→g (enc x) e0 M1 fun e2 M2=>tc e2 M2 fun b M3=>IfK b (te e2 M3 Q) (M3=M1∧N)) (h:E ((xs.filter p).map f) M1):∃ W,a5S e0 g tc te (xs.map enc) stay M1 E W:=by
 refine⟨fun i ys M=>M=M1∧ys=((xs.take i).filter p).map f,⟨⟨rfl,rfl⟩,fun i ys M _ w=>by rw[w.1];exact hst,fun i d ys M hd w=>?_,fun ys M w=>?_⟩⟩
 ·obtain⟨rfl,rfl⟩:=w
  rw[c6Y]at hd
  cases hx:xs[i]? with
  | none=>rw[hx]at hd;cases hd
  | some x =>
   rw[hx]at hd
   obtain rfl:enc x=d:=by simpa using hd
   obtain⟨hl,he⟩:=c6P.mp hx
   have hle:(((xs.take i).filter p).map f).length<sizeLine:=by
    rw[c6Q]
    have h1:=c8k p (xs.take i)
    rw[c7P]at h1
    exact c7c (c6V h1 (c6V (c9l _ _) hn)) (by decide)
   have hs:=step x (c6S hx) (fun v M4=>(((xs.take i).filter p).map f).length<sizeLine∧M4=M∧((xs.take i).filter p).map f++[v]=((xs.take (i+1)).filter p).map f) (((xs.take i).filter p).map f=((xs.take (i+1)).filter p).map f)
    (fun hp=>⟨hle,rfl,by rw[c7V hl,c7H,c7d,he];simp[hp]⟩)
    (fun hp=>by rw[c7V hl,c7H,c7d,he];simp[hp])
   exact hs
 ·obtain⟨rfl,rfl⟩:=w
  rw[c6Q,c7t];exact h
end
section
variable {X:Cx} {pos:Pos}
theorem jc{x:Str}{j k:Nat}{ps:List Str}{sp:DSp}{p:Pos}{e:Expr}{es:List Expr}{t:DTA}(G:Fn X.prog X.w X.K X.mg X.base x j ps sp)(hr:K4 k X.A)(ha:JA X (e :: es) t)(hk:j≤k:=by decide)(hg:Gl X x:=by rfl)
  (hdb:(x == ("__debug__" : Str))=false:=by decide) (he:starEach (e :: es) X.env=(false,eval e X.env) :: starEach es X.env:=by rfl) (hpl:(backTo pos (starEach es X.env)).any (·.1)=false:=by rfl):JE X (.Call (.Name x p) (e :: es) [] pos) (b1o sp [] Y0 t):=b4I G (hr.mono hk) hg ha hdb he hpl
theorem jx{a b:Expr}{ta tb:DTE}(ha:JE X a ta)(hb:JE X b tb)(hs:a7b b:=by exact fun _ _=>rfl):JE X (.Subscript a b pos) (dOp gIx ta tb):=c2t c2w ha hb hs
theorem jst(i:Nat){x:Str}{e:Expr}{tx:DTE}{q:Pos}(hN:X.N.Nodup)(he:JE X e tx)(hi:X.N[i]? = some x:=by rfl)(hx:Loc X.env.scope x:=by first|exact .inl rfl|exact .inr rfl)(hs:swapsWith e (some (.Name x q)) pos.line X.env=pure false:=by rfl)
  (hf:X.fn x=true∨X.env.scope.names.lookup x=some .local:=by first|exact .inl rfl|exact .inr rfl|assumption):JS X (.Assign [.Name x q] e pos) (b5m tx (a13 i)):=b7H hN hi hx he hs hf
theorem jn(i:Nat){x:Str}(hN:X.N.Nodup)(hi:X.N[i]? = some x:=by rfl)(hx:Loc X.env.scope x:=by first|exact .inl rfl|exact .inr rfl)(hf:X.fn x=true∨X.env.scope.names.lookup x=some .local:=by first|exact .inl rfl|exact .inr rfl|assumption):JG X (.Name x pos) (a13 i):=b4F hN hi hx hf
theorem jm{op:CmpOp}{g:DR2}{a b:Expr}{ta tb:DTE}(ho:DOp X (compareOp op) g)(ha:JE X a ta)(hb:JE X b tb)(hm:behindInMarks op b=false:=by first|exact b4s _|with_unfolding_all rfl):JE X (.Compare a [op] [b] pos) (dOp g ta tb):=c0B ho ha hb hm
theorem jtm{op:CmpOp}{g:DR2}{a b:Expr}{ta tb:DTE}(ho:DOp X (compareOp op) g)(ha:JE X a ta)(hb:JE X b tb)(hm:behindInMarks op b=false:=by first|exact b4s _|with_unfolding_all rfl):JT X (.Compare a [op] [b] pos) (b1m (dOp g ta tb)):=b7I ho ha hb hm
end
end DL
namespace GM
open PySem PySem.Spec L2 DL
open PyProof.Rows hiding St
def d9(q:Rat):D:=.tup [.int q.num,.int (q.den:Int)]
theorem G5{q r:Rat}(h:d9 q=d9 r):q=r:=by
 unfold d9 at h
 injection h with h
 injection h with h1 h2
 injection h1 with h1
 injection h2 with h2 _
 injection h2 with h2
 exact Rat.ext h1 (by omega)
theorem j9{q r:Rat}:d9 q=d9 r↔q=r:=⟨G5,fun h=>by rw[h]⟩
structure D9(M:Mem)(p:Addr):Prop where
 ex:∃ x y z:Int,M p=some (.lst [.int x,.int y,.int z])
def MK(M M':Mem):Prop:=∀ b o,M b=some o→M' b=some o
theorem MK.refl(M:Mem):MK M M:=fun _ _ h=>h
theorem MK.trans{M M1 M2:Mem}(a:MK M M1)(b:MK M1 M2):MK M M2:=fun c o h=>b c o (a c o h)
theorem MK.new{M:Mem}{p:Addr}{o:MO}(h:M p=none):MK M (C1 M p o):=fun b u e=>by
 have:b≠p:=by intro z;subst z;rw[h]at e;cases e
 rw[F9 this];exact e
theorem MK.pool{M M':Mem}(k:MK M M'){p:Addr}(h:D9 M p):D9 M' p:=let ⟨x,y,z,e⟩:=h.ex;⟨x,y,z,k _ _ e⟩
structure v7(p:Addr)(M M':Mem):Prop where
 keep:∀ b o,b≠p→M b=some o→M' b=some o
 pool:D9 M' p
theorem v7.refl{p:Addr}{M:Mem}(h:D9 M p):v7 p M M:=⟨fun _ _ _ h=>h,h⟩
theorem v7.trans{p:Addr}{M M1 M2:Mem}(a:v7 p M M1)(b:v7 p M1 M2):v7 p M M2:=⟨fun c o n h=>b.keep c o n (a.keep c o n h),b.pool⟩
theorem v7.upd{p:Addr}{M:Mem}(x y z:Int):v7 p M (C1 M p (.lst [.int x,.int y,.int z])):=⟨fun b o n h=>by rw[F9 n];exact h,⟨x,y,z,i7⟩⟩
theorem D9.ne{M:Mem}{p l:Addr}(h:D9 M p)(hl:M l=none):l≠p:=by
 intro e;subst e;obtain⟨x,y,z,q⟩:=h.ex;rw[hl]at q;cases q
def a86:DSp:=fun ds M R _=>∃ c:Int,ds=[.int c]∧∀ p M',M p=none→MK M M'→D9 M' p→R (.ref p) M'
def O7:DSp:=fun ds M R _=>∃(p:Addr) (b:Int),ds=[.ref p,.int b]∧D9 M p∧0<b∧b.natAbs.log2<9000∧∀(r:Int) M',0≤r→r<b→v7 p M M'→R (.int r) M'
def V1:DSp:=fun ds M R _=>∃ a b:Int,ds=[.int a,.int b]∧b≠0∧b.natAbs.log2<9000∧R (d9 (c7u a b)) M
def a2j:DSp:=fun ds M R _=>∃ n:Nat,ds=[.int n]∧n.log2<4000∧∀ s:Nat,s*s≤n→n<(s+1)*(s+1)→R (.int s) M
def b5H(q:Rat)(v:D):Prop:=(∃ r:Rat,0≤r∧r*r=q∧v=d9 r)∨((∀ r:Rat,r*r≠q)∧v = .non)
def a85:DSp:=fun ds M R _=>∃ q:Rat,ds=[d9 q]∧RM.sz q≤4000∧∀ v,b5H q v→R v M
theorem c0S:a8V 10 18:=⟨by decide,by decide,by decide⟩
theorem cp6:a8V 10 6:=⟨by decide,by decide,by decide⟩
theorem a8s{a b:Int}(h1:-(2 ^ 64)<a)(h2:a<2 ^ 64):IntMulOk a b:=.of_left (intBits_le_64 h1 h2)
theorem c2p{a b:Int}(h1:-(2 ^ 64)<b)(h2:b<2 ^ 64):IntMulOk a b:=.of_right (intBits_le_64 h1 h2)
theorem c3J{x m k b:Int}(hm:0<m)(hm2:m<2 ^ 60)(hk:0≤k)(hk2:k<2 ^ 60):IntMulOk (x % m+k) b:=by
 have h1:=c8V x (show m≠0 by omega)
 have h2:=c8v x hm
 exact a8s (by omega) (by omega)
theorem c2o{x m b:Int}(hm:0<m)(hm2:m<2 ^ 60):IntMulOk (x % m) b:=by
 have h1:=c8V x (show m≠0 by omega)
 have h2:=c8v x hm
 exact a8s (by omega) (by omega)
theorem c3U{i:Int}:CFd i 8:=⟨by decide,by decide⟩
theorem b70{i:Int}:CFd i 2:=⟨by decide,by decide⟩
theorem J4{a b:Int}(ha:0≤a)(hb:0≤b):a.fdiv b=a / b:=Int.fdiv_eq_ediv_of_nonneg a hb
theorem b7Q{a b:Int}(hb:b≠0)(h:b.natAbs.log2<9000):((c7w a.natAbs b.natAbs:Nat):Int).natAbs.log2<9000:=by
 have hp:0<b.natAbs:=c9B.mpr hb
 have hle:c7w a.natAbs b.natAbs≤b.natAbs:=c9n _ hp
 have h1:b.natAbs<2 ^ 9000:=(c9b (by omega)).mp h
 rw[c6N]
 exact F0 (c7c hle h1) (by decide)
theorem b4Q{a b:Int}(hb:b≠0):((c7w a.natAbs b.natAbs:Nat):Int)≠0:=by
 have hp:0<b.natAbs:=c9B.mpr hb
 have:=c8b a.natAbs hp
 omega
theorem a2O{a b s:Int}(hb:b≠0)(hs:s=if b<0 then -((c7w a.natAbs b.natAbs:Nat):Int)else((c7w a.natAbs b.natAbs:Nat):Int)){M:Mem}{R:DK}(k:R (d9 (c7u a b)) M) :
  R (.tup [.int (a.fdiv s),.int (b.fdiv s)]) M:=by
 obtain⟨h1,h2⟩:=RM.c0t a b hb s hs
 rw[h1,h2];exact k
theorem c0s{a b:Int}{n:Nat}(hn:0<n)(h1:a.natAbs<2 ^ n)(h2:b.natAbs<2 ^ n)(hb:b≠0):RM.sz (c7u a b)≤n :=
 c6V (RM.L5 a b hb) (c8P.mpr ⟨RM.Y7 h1 hn,RM.Y7 h2 hn⟩)
end GM
namespace GM
open PySem PySem.Spec L2 DL
open PyProof.Rows hiding St
theorem c0r{n g:Nat}(hg:0<g):n<((g+n / g) / 2+1)*((g+n / g) / 2+1):=by
 have h1:n<g*(n / g+1):=by
  have:=Nat.lt_mul_div_succ n hg
  exact this
 have h2:g+(n / g+1)≤2*((g+n / g) / 2+1):=by omega
 generalize (g+n / g) / 2+1=b at h2 ⊢
 generalize n / g+1=y at h1 h2
 have h3:(g+y)*(g+y)≤(2*b)*(2*b):=c8g h2 h2
 have h4:4*(g*y)≤(g+y)*(g+y):=by
  rcases Nat.le_total g y with h|h
  ·obtain⟨k,rfl⟩:=Nat.le.dest h
   have:(g+(g+k))*(g+(g+k))=4*(g*(g+k))+k*k:=by grind
   omega
  ·obtain⟨k,rfl⟩:=Nat.le.dest h
   have:(y+k+y)*(y+k+y)=4*((y+k)*y)+k*k:=by grind
   omega
 have h5:(2*b)*(2*b)=4*(b*b):=by grind
 omega
theorem a9I{n g:Nat}(hg:0<g)(h:¬ (g+n / g) / 2<g):g*g≤n:=by
 have h1:g≤n / g:=by omega
 exact c6V (c8W g h1) (Nat.mul_div_le n g)
theorem a5t{n s t:Nat}(h1:s*s≤n)(h2:n<(s+1)*(s+1))(h3:t*t=n):t=s:=by
 rcases c8n t s with h|h|h
 ·have:(t+1)*(t+1)≤s*s:=c8g h h
  have e:(t+1)*(t+1)=t*t+2*t+1:=by grind
  omega
 ·exact h
 ·have:(s+1)*(s+1)≤t*t:=c8g h h
  omega
theorem a3n(r:Rat):(r*r).num=r.num*r.num∧(r*r).den=r.den*r.den:=by
 rw[Rat.mul_def]
 have hc:(r.num*r.num).natAbs.gcd (r.den*r.den)=1:=by
  rw[c7n]
  exact Nat.Coprime.mul_left (Nat.Coprime.mul_right r.reduced r.reduced) (Nat.Coprime.mul_right r.reduced r.reduced)
 rw[Rat.normalize_eq]
 simp[hc]
theorem b1L{q:Rat}{s t:Nat}(h1:((s:Int))*(s:Int)=q.num)(h2:t*t=q.den):∃ r:Rat,0≤r∧r*r=q∧r.num=(s:Int)∧r.den=t:=by
 have ht:t≠0:=by
  intro e;subst e;have:=q.den_nz;omega
 have hcop:Nat.Coprime s t:=by
  have hq:=q.reduced
  have e1:q.num.natAbs=s*s:=by rw[← h1,c7n,c6N]
  rw[e1,← h2]at hq
  have a1:Nat.Coprime s (t*t):=Nat.Coprime.coprime_mul_left hq
  exact Nat.Coprime.coprime_mul_left_right a1
 refine⟨⟨(s:Int),t,ht,by simpa using hcop⟩,?_,?_,rfl,rfl⟩
 ·rw[Rat.le_iff];simp
 ·have:=a3n ⟨(s:Int),t,ht,by simpa using hcop⟩
  exact Rat.ext (by rw[this.1];exact h1) (by rw[this.2];exact h2)
theorem a3G{q r:Rat}(h:r*r=q):(∃ s:Nat,s*s=q.num.natAbs)∧(∃ t:Nat,t*t=q.den)∧0≤q.num:=by
 have:=a3n r
 rw[h]at this
 refine⟨⟨r.num.natAbs,by rw[this.1,c7n]⟩,⟨r.den,this.2.symm⟩,?_⟩
 rw[this.1]
 have:=Int.natAbs_mul_self (a:=r.num)
 rw[← this];exact c8i _
theorem b9I{q:Rat}{n:Nat}(h:RM.sz q≤n):q.num.natAbs.log2<n∧q.den.log2<n:=by
 have h1:=RM.L7 q
 have h2:=RM.D3 q
 unfold RM.bl at h1 h2
 omega
theorem a0i{n k:Nat}(h:n.log2<k):n<2 ^ k:=by
 rcases c8h n with h0|h0
 ·subst h0;exact c7S k
 ·exact(c9b (by omega)).mp h
end GM
namespace GM
open PySem PySem.Spec L2 DL
open PyProof.Rows hiding St
def a05:DSp:=fun ds M R _=>∃ n:Int,ds=[.int n]∧R (.bl true) M
end GM
namespace GM
open PySem PySem.Spec L2 DL
structure Sml(g:Nat):Prop where
 log:g.log2<9000
theorem Sml.mono{a b:Nat}(h:Sml b)(l:a≤b):Sml a:=⟨F0 (c7c l (a0i h.log)) (by decide)⟩
theorem Sml.pow{k:Nat}(h:k<9000):Sml (2 ^ k):=⟨F0 (c8p (by decide) h) (by decide)⟩
end GM
namespace GM
open PySem PySem.Spec L2 DL
end GM
namespace GM
open PySem PySem.Spec L2 DL
def b0L:DSp:=fun ds _ R _=>∃ ns:List Int,ds=[.vl (ns.map D.int)]∧ns.length≤63∧∀ M',R (.bl true) M'
end GM
namespace GM
open PySem PySem.Spec L2 DL
open RM (sz)
def L6:DSp:=fun ds M R _=>∃ a b:Nat,ds=[.int (a:Int),.int (b:Int)]∧R (.int ((c7w a b:Nat):Int)) M
def a5u:DSp:=fun ds M R _=>∃ q:Rat,ds=[d9 q]∧R (d9 (-q)) M
def R5:DSp:=fun ds M R _=>∃ q r:Rat,ds=[d9 q,d9 r]∧sz q+sz r≤8900∧R (d9 (q+r)) M
def K6:DSp:=fun ds M R _=>∃ q r:Rat,ds=[d9 q,d9 r]∧sz q+sz r≤8900∧R (d9 (q - r)) M
def G2:DSp:=fun ds M R _=>∃ q r:Rat,ds=[d9 q,d9 r]∧sz q+sz r≤8900∧R (d9 (q*r)) M
def a0A:DSp:=fun ds M R _=>∃ q r:Rat,ds=[d9 q,d9 r]∧r≠0∧sz q+sz r≤8900∧R (d9 (q / r)) M
def a0B:DSp:=fun ds M R _=>∃ q r:Rat,ds=[d9 q,d9 r]∧sz q+sz r≤8900∧R (.bl (decide (q<r))) M
theorem K3(q:Rat):q.num.natAbs<2 ^ sz q:=c6R (RM.a1s _) (c7f (by decide) (RM.L7 q))
theorem J3(q:Rat):((q.den:Int)).natAbs<2 ^ sz q:=by rw[c6N];exact c6R (RM.a1s _) (c7f (by decide) (RM.D3 q))
theorem mNN{q r:Rat}(h:sz q+sz r≤8900):IntMulOk q.num r.num:=w6 _ _ (K3 q) (K3 r) (by omega)
theorem mND{q r:Rat}(h:sz q+sz r≤8900):IntMulOk q.num (r.den:Int):=w6 _ _ (K3 q) (J3 r) (by omega)
theorem mDD{q r:Rat}(h:sz q+sz r≤8900):IntMulOk (q.den:Int) (r.den:Int):=w6 _ _ (J3 q) (J3 r) (by omega)
theorem mDN{q r:Rat}(h:sz q+sz r≤8900):IntMulOk (q.den:Int) r.num:=w6 _ _ (J3 q) (K3 r) (by omega)
theorem lDD{q r:Rat}(h:sz q+sz r≤8900):((q.den:Int)*(r.den:Int)).natAbs.log2<9000:=by
 have h1:=RM.U9 q.den r.den
 have h2:=RM.D3 q
 have h3:=RM.D3 r
 rw[c7n,c6N,c6N]
 unfold RM.bl at *
 omega
theorem lDN{q r:Rat}(h:sz q+sz r≤8900):((q.den:Int)*r.num).natAbs.log2<9000:=by
 have h1:=RM.U9 q.den r.num.natAbs
 have h2:=RM.D3 q
 have h3:=RM.L7 r
 rw[c7n,c6N]
 unfold RM.bl at *
 omega
theorem c0q{r:Rat}(h:r≠0):r.num≠0:=fun z=>h (Rat.num_eq_zero.mp z)
def e9(q:Rat):Rat:=if 0≤q then q else -q
theorem a69(q:Rat):0≤e9 q:=by
 unfold e9;split
 ·assumption
 ·grind
theorem a68(q:Rat):e9 q*e9 q=q*q:=by
 unfold e9;split
 ·rfl
 ·grind
theorem c01(q:Rat):d9 (e9 q) = .tup [.int (q.num.natAbs:Int),.int (q.den:Int)]:=by
 unfold e9 d9
 have hz:0≤q↔0≤q.num:=Rat.num_nonneg.symm
 split
 ·rename_i h
  have:=hz.mp h
  rw[show q.num=(q.num.natAbs:Int)by omega];simp
 ·rename_i h
  have h':¬ 0≤q.num:=fun z=>h (hz.mpr z)
  rw[c9G,c9H,show -q.num=(q.num.natAbs:Int)by omega]
end GM
namespace GM
open RM (sz)
theorem a8K{a:Rat}{A:Int}{D S:Nat}(hS:0<S)(hD:D≠0)(hd:D<2 ^ S)(h:a*(D:Rat)=(A:Rat))(hA:A.natAbs<2 ^ S):sz a≤S:=by
 have hD':(D:Rat)≠0:=by
  intro z;exact hD (by exact_mod_cast z)
 have e:a=c7u A (D:Int):=by
  rw[c7M]
  have:a=(A:Rat) / (D:Rat):=by grind
  rw[this];rfl
 rw[e]
 exact c6V (RM.L5 A D (by omega)) (c8P.mpr ⟨RM.Y7 hA hS,RM.Y7 (by rw[c6N];exact hd) hS⟩)
structure CD(S:Nat)(a b c d:Rat):Prop where
 ex:∃(A B C E:Int) (D:Nat),D≠0∧D<2 ^ S∧(A.natAbs<2 ^ S∧B.natAbs<2 ^ S∧C.natAbs<2 ^ S∧E.natAbs<2 ^ S)∧a*(D:Rat)=(A:Rat)∧b*(D:Rat)=(B:Rat)∧c*(D:Rat)=(C:Rat)∧d*(D:Rat)=(E:Rat)
theorem u9(q:Rat){k:Nat}(h:sz q≤k):q.num.natAbs<2 ^ k:=c6R (RM.a1s _) (c7f (by decide) (c6V (RM.L7 q) h))
theorem t9(q:Rat){k:Nat}(h:sz q≤k):q.den<2 ^ k:=c6R (RM.a1s _) (c7f (by decide) (c6V (RM.D3 q) h))
theorem A0(q:Rat):q*(q.den:Rat)=(q.num:Rat):=by
 have h:(q.den:Rat)≠0:=by
  intro z;exact q.den_nz (by exact_mod_cast z)
 have e:=c8w q
 rw[c7M,c6Z]at e
 grind
theorem j8{a b m n:Nat}(h1:a<2 ^ m)(h2:b<2 ^ n):a*b<2 ^ (m+n):=by
 rw[c9c];exact Nat.mul_lt_mul'' h1 h2
theorem e7{a b:Int}{m n:Nat}(h1:a.natAbs<2 ^ m)(h2:b.natAbs<2 ^ n):(a*b).natAbs<2 ^ (m+n):=by
 rw[c7n];exact j8 h1 h2
theorem y8{a b:Int}{m:Nat}(h1:a.natAbs<2 ^ m)(h2:b.natAbs<2 ^ m):(a+b).natAbs<2 ^ (m+1):=by
 have:=c9R a b
 rw[c81];omega
theorem a0v{a m n:Nat}(h:a<2 ^ m)(hn:m≤n):a<2 ^ n:=c6R h (c7f (by decide) hn)
theorem CD.one:CD 1 1 0 0 1:=⟨1,0,0,1,1,by decide,by decide,⟨by decide,by decide,by decide,by decide⟩,by grind,by grind,by grind,by grind⟩
theorem CD.neg{S:Nat}{a b c d:Rat}(h:CD S a b c d):CD S (-a) (-b) (-c) (-d):=by
 obtain⟨A,B,C,E,D,h0,hd,⟨h1,h2,h3,h4⟩,e1,e2,e3,e4⟩:=h.ex
 refine⟨-A,-B,-C,-E,D,h0,hd,⟨by rw[c72];exact h1,by rw[c72];exact h2,by rw[c72];exact h3,by rw[c72];exact h4⟩,?_,?_,?_,?_⟩<;>(rw[c9v];grind)
theorem CD.swap{S:Nat}{a b c d:Rat}(h:CD S a b c d):CD S c d a b:=by
 obtain⟨A,B,C,E,D,h0,hd,⟨h1,h2,h3,h4⟩,e1,e2,e3,e4⟩:=h.ex
 exact⟨C,E,A,B,D,h0,hd,⟨h3,h4,h1,h2⟩,e3,e4,e1,e2⟩
theorem CD.step{S k:Nat}{a b c d q:Rat}(h:CD S a b c d)(hq:sz q≤k):CD (S+k+1) (a+q*c) (b+q*d) c d:=by
 obtain⟨A,B,C,E,D,h0,hd,⟨h1,h2,h3,h4⟩,e1,e2,e3,e4⟩:=h.ex
 have hn:=u9 q hq
 have hm:=t9 q hq
 have hm':(q.den:Int).natAbs<2 ^ k:=by rw[c6N];exact hm
 have e:=A0 q
 have z:∀{X:Int},X.natAbs<2 ^ S→(X*(q.den:Int)).natAbs<2 ^ (S+k):=fun h=>e7 h hm'
 have z2:∀{X:Int},X.natAbs<2 ^ S→(X*q.num).natAbs<2 ^ (S+k):=fun h=>e7 h hn
 refine⟨A*(q.den:Int)+C*q.num,B*(q.den:Int)+E*q.num,C*(q.den:Int),E*(q.den:Int),D*q.den,c7T h0 q.den_nz,a0v (j8 hd hm) (by omega),
  ⟨y8 (z h1) (z2 h3),y8 (z h2) (z2 h4),a0v (z h3) (by omega),a0v (z h4) (by omega)⟩,?_,?_,?_,?_⟩
 all_goals (simp only[c7x,c7X,c6T,c6Z];grind)
theorem CD.scale{S k:Nat}{a b c d q r:Rat}(h:CD S a b c d)(hq:sz q≤k)(hp:0<q.num)(hr:r*q=1):CD (S+2*k) (q*a) (q*b) (r*c) (r*d):=by
 obtain⟨A,B,C,E,D,h0,hd,⟨h1,h2,h3,h4⟩,e1,e2,e3,e4⟩:=h.ex
 have hn:=u9 q hq
 have hm:=t9 q hq
 have hm':(q.den:Int).natAbs<2 ^ k:=by rw[c6N];exact hm
 have e:=A0 q
 obtain⟨n,en⟩:∃ n:Nat,q.num=(n:Int):=⟨q.num.toNat,by omega⟩
 rw[en]at hn e hp
 rw[c6N]at hn
 rw[c6Z]at e
 have hn':(n:Int).natAbs<2 ^ k:=by rw[c6N];exact hn
 refine⟨A*((n:Int)*n),B*((n:Int)*n),C*((q.den:Int)*q.den),E*((q.den:Int)*q.den),D*(n*q.den),c7T h0 (c7T (by omega) q.den_nz),?_,⟨?_,?_,?_,?_⟩,?_,?_,?_,?_⟩
 ·rw[show S+2*k=S+(k+k)by omega];exact j8 hd (j8 hn hm)
 ·rw[show S+2*k=S+(k+k)by omega];exact e7 h1 (e7 hn' hn')
 ·rw[show S+2*k=S+(k+k)by omega];exact e7 h2 (e7 hn' hn')
 ·rw[show S+2*k=S+(k+k)by omega];exact e7 h3 (e7 hm' hm')
 ·rw[show S+2*k=S+(k+k)by omega];exact e7 h4 (e7 hm' hm')
 all_goals (simp only[c7x,c6T,c6Z];grind)
end GM
namespace GM
open PySem PySem.Spec L2 DL
open RM (sz)
abbrev a1I(a b c d:Rat):D:=.tup [d9 a,d9 b,d9 c,d9 d]
abbrev A1(y u:Rat):D:=.tup [d9 y,d9 u]
structure T4(S:Nat)(a b c d:Rat):Prop where
 a:sz a≤S
 b:sz b≤S
 c:sz c≤S
 d:sz d≤S
structure T2(S:Nat)(y u:Rat):Prop where
 y:sz y≤S
 u:sz u≤S
theorem CD.t4{S:Nat}{a b c d:Rat}(h:CD S a b c d)(hS:0<S:=by omega):T4 S a b c d:=by
 obtain⟨A,B,C,E,D,h0,hd,⟨h1,h2,h3,h4⟩,e1,e2,e3,e4⟩:=h.ex
 exact⟨a8K hS h0 hd e1 h1,a8K hS h0 hd e2 h2,a8K hS h0 hd e3 h3,a8K hS h0 hd e4 h4⟩
def a1J:DSp:=fun ds M R _=>∃ a b c d:Rat,ds=[A1 a c,A1 b d]∧R (a1I a b c d) M
theorem c2v{q:Rat}(h:0<q.num):D.tup [.int (q.den:Int),.int q.num]=d9 q⁻¹:=by
 unfold d9
 have h1:q⁻¹.num=(q.den:Int):=by rw[Rat.num_inv,c8A h,c9F]
 have h2:((q⁻¹).den:Int)=q.num:=by
  rw[Rat.inv_def,Rat.den_divInt,if_neg (by omega)]
  have hg:q.num.gcd (q.den:Int)=1:=by
   have:=q.reduced
   unfold c9S
   rw[c6N];exact this
  rw[hg,Nat.div_one];omega
 rw[h1,h2]
theorem CD.mono{S S':Nat}{a b c d:Rat}(h:CD S a b c d)(hs:S≤S'):CD S' a b c d:=by
 obtain⟨A,B,C,E,D,h0,hd,⟨h1,h2,h3,h4⟩,e1,e2,e3,e4⟩:=h.ex
 exact⟨A,B,C,E,D,h0,a0v hd hs,⟨a0v h1 hs,a0v h2 hs,a0v h3 hs,a0v h4 hs⟩,e1,e2,e3,e4⟩
end GM
namespace GM
open PySem PySem.Spec L2 DL
open RM (sz)
theorem a0z(q:Rat):sz (e9 q)=sz q:=by
 unfold e9;split
 ·rfl
 ·exact RM.O6 q
def i0(x:Str × Rat):D:=.tup [.str x.1,d9 x.2]
def B3(x:Str × Rat)(y u:Rat):Rat × Rat:=if x.1 = "gap" then(y+x.2*u,u)else if x.1 = "glass" then(y,u - x.2*y)else(y,u)
def g7(bs:List (Str × Rat))(r:Rat × Rat):Rat × Rat:=bs.foldl (fun r x=>B3 x r.1 r.2) r
theorem CD.led{S:Nat}{x:Str × Rat}{y u:Rat}(h:CD S y 0 u 0)(hx:sz x.2≤41):CD (S+42) (B3 x y u).1 0 (B3 x y u).2 0:=by
 unfold B3
 split
 ·have:=h.step hx
  rw[show(0:Rat)+x.2*0=0 by grind]at this
  exact this
 ·split
  ·have:=(h.swap.step (q:=-x.2) (k:=41) (by rw[RM.O6];exact hx)).swap
   rw[show(0:Rat) + -x.2*0=0 by grind,show u + -x.2*y=u - x.2*y by grind]at this
   exact this
  ·exact h.mono (by omega)
theorem CD.t2{S:Nat}{y u:Rat}(h:CD S y 0 u 0)(hS:0<S:=by omega):T2 S y u:=⟨h.t4.a,h.t4.c⟩
theorem CD.ray{y u:Rat}{k:Nat}(h1:sz y≤k)(h2:sz u≤k):CD (2*k) y 0 u 0:=by
 have n1:=u9 y h1
 have d1:=t9 y h1
 have n2:=u9 u h2
 have d2:=t9 u h2
 have d1':(y.den:Int).natAbs<2 ^ k:=by rw[c6N];exact d1
 have d2':(u.den:Int).natAbs<2 ^ k:=by rw[c6N];exact d2
 have e1:=A0 y
 have e2:=A0 u
 refine⟨y.num*(u.den:Int),0,u.num*(y.den:Int),0,y.den*u.den,c7T y.den_nz u.den_nz,?_,⟨?_,?_,?_,?_⟩,?_,?_,?_,?_⟩
 ·rw[show 2*k=k+k by omega];exact j8 d1 d2
 ·rw[show 2*k=k+k by omega];exact e7 n1 d2'
 ·exact c7S _
 ·rw[show 2*k=k+k by omega];exact e7 n2 d1'
 ·exact c7S _
 all_goals (simp only[c7x,c6T,c6Z,Rat.intCast_zero];grind)
theorem a1q{bs:List (Str × Rat)}{i:Nat}{x:Str × Rat}(h:bs[i]? = some x)(r:Rat × Rat):g7 (bs.take (i+1)) r=B3 x (g7 (bs.take i) r).1 (g7 (bs.take i) r).2:=by
 obtain⟨hl,he⟩:=c6P.mp h
 unfold g7
 rw[c7V hl,List.foldl_append,he]
 rfl
theorem E3(bs:List (Str × Rat))(y u:Rat):(g7 bs (y,u)).1=(g7 bs (1,0)).1*y+(g7 bs (0,1)).1*u∧(g7 bs (y,u)).2=(g7 bs (1,0)).2*y+(g7 bs (0,1)).2*u:=by
 have gen:∀(bs:List (Str × Rat)) (y u a b c d z w:Rat),z=a*y+b*u→w=c*y+d*u →
   (g7 bs (z,w)).1=(g7 bs (a,c)).1*y+(g7 bs (b,d)).1*u∧(g7 bs (z,w)).2=(g7 bs (a,c)).2*y+(g7 bs (b,d)).2*u:=by
  intro bs
  induction bs with
  | nil=>intro y u a b c d z w h1 h2;exact⟨h1,h2⟩
  | cons x r ih =>
   intro y u a b c d z w h1 h2
   refine ih y u (B3 x a c).1 (B3 x b d).1 (B3 x a c).2 (B3 x b d).2 (B3 x z w).1 (B3 x z w).2 ?_ ?_
   ·unfold B3;split
    ·grind
    ·split<;>grind
   ·unfold B3;split
    ·grind
    ·split<;>grind
 exact gen bs y u 1 0 0 1 y u (by grind) (by grind)
theorem a5y{bs:List (Str × Rat)}{i:Nat}{d:D}(h:(bs.map i0)[i]? = some d):∃ x,bs[i]? = some x∧d=i0 x:=by
 rw[c6Y]at h
 cases e:bs[i]? with
 | none=>rw[e]at h;cases h
 | some x=>rw[e]at h;exact⟨x,rfl,(Option.some.inj h).symm⟩
end GM
namespace GM
open PySem PySem.Spec L2 DL
open RM (sz)
theorem b7q(bs:List (Str × Rat)):(g7 bs (1,0)).1*(g7 bs (0,1)).2 - (g7 bs (0,1)).1*(g7 bs (1,0)).2=1:=by
 have gen:∀(bs:List (Str × Rat)) (y u z w:Rat),(g7 bs (y,u)).1*(g7 bs (z,w)).2 - (g7 bs (z,w)).1*(g7 bs (y,u)).2=y*w - z*u:=by
  intro bs
  induction bs with
  | nil=>intro y u z w;rfl
  | cons x r ih =>
   intro y u z w
   have:=ih (B3 x y u).1 (B3 x y u).2 (B3 x z w).1 (B3 x z w).2
   refine Eq.trans this ?_
   unfold B3
   split
   ·grind
   ·split<;>grind
 have:=gen bs 1 0 0 1
 rw[this];grind
end GM
namespace GM
open PySem PySem.Spec L2 DL
open RM (sz)
end GM
namespace GM
open PySem PySem.Spec L2 DL
open RM (sz)
def a5v:DSp:=fun ds M R _=>∃ q:Rat,ds=[d9 q]∧R (d9 (e9 q)) M
end GM
namespace GM
open PySem PySem.Spec L2 DL
open RM (sz)
theorem a5z{x y:Str × Rat}(h:i0 x=i0 y):x=y:=by
 unfold i0 at h
 injection h with h
 injection h with h1 h2
 injection h1 with h1
 injection h2 with h2 _
 exact Prod.ext h1 (G5 h2)
theorem j3{x y:Str × Rat}:i0 x=i0 y↔x=y:=⟨a5z,fun h=>by rw[h]⟩
theorem i3{xs ys:List (Str × Rat)}:xs.map i0=ys.map i0↔xs=ys:=c8u (fun _ _ h=>a5z h)
def o8(l:Rat × Rat × Rat):D:=.tup [d9 l.1,d9 l.2.1,d9 l.2.2]
theorem a5C{x y:Rat × Rat × Rat}(h:o8 x=o8 y):x=y:=by
 unfold o8 at h
 injection h with h
 injection h with h1 h2
 injection h2 with h2 h3
 injection h3 with h3 _
 exact Prod.ext (G5 h1) (Prod.ext (G5 h2) (G5 h3))
theorem j4{x y:Rat × Rat × Rat}:o8 x=o8 y↔x=y:=⟨a5C,fun h=>by rw[h]⟩
theorem i4{xs ys:List (Rat × Rat × Rat)}:xs.map o8=ys.map o8↔xs=ys:=c8u (fun _ _ h=>a5C h)
theorem b9V{p q r:Rat}:D.tup [d9 p,d9 q,d9 r]=o8 (p,q,r):=rfl
theorem b0k{gs:Z0}{l:Rat × Rat × Rat}{e:Ev}{M:Mem}{Q:Ev→Mem→Prop}:a8E 3 gs (o8 l) e M Q=gs [d9 l.1,d9 l.2.1,d9 l.2.2] e M Q:=a3f rfl
theorem b0n{l:Rat × Rat × Rat}{M:Mem}{R:DK}:gIx (o8 l) (.int 0) M R=R (d9 l.1) M:=a20
theorem b0m{l:Rat × Rat × Rat}{M:Mem}{R:DK}:gIx (o8 l) (.int 1) M R=R (d9 l.2.1) M:=a2Z
theorem b0l{l:Rat × Rat × Rat}{M:Mem}{R:DK}:gIx (o8 l) (.int 2) M R=R (d9 l.2.2) M:=a8W
theorem b2A{q:Rat}{M:Mem}{R:DK}:gIx (d9 q) (.int 0) M R=R (.int q.num) M:=a20
theorem b2z{q:Rat}{M:Mem}{R:DK}:gIx (d9 q) (.int 1) M R=R (.int (q.den:Int)) M:=a2Z
theorem b2y{gs:Z0}{q:Rat}{e:Ev}{M:Mem}{Q:Ev→Mem→Prop}:a8E 2 gs (d9 q) e M Q=gs [.int q.num,.int (q.den:Int)] e M Q:=a3f rfl
theorem b2x{q:Rat}{M:Mem}{R:DK}:b2b [d9 q] M R=R (.int 2) M:=a7L rfl
theorem b0j{x:Str × Rat}{M:Mem}{R:DK}:gIx (i0 x) (.int 0) M R=R (.str x.1) M:=a20
theorem b0i{x:Str × Rat}{M:Mem}{R:DK}:gIx (i0 x) (.int 1) M R=R (d9 x.2) M:=a2Z
theorem b0h{gs:Z0}{x:Str × Rat}{e:Ev}{M:Mem}{Q:Ev→Mem→Prop}:a8E 2 gs (i0 x) e M Q=gs [.str x.1,d9 x.2] e M Q:=a3f rfl
theorem a7B{q:Rat}{M:Mem}{R:DK}:C0 [d9 q,.ty "tuple"] M R=R (.bl true) M:=v6 rfl rfl
theorem a5b{x:Str × Rat}{M:Mem}{R:DK}:C0 [i0 x,.ty "tuple"] M R=R (.bl true) M:=v6 rfl rfl
theorem b0g{x:Str × Rat}{M:Mem}{R:DK}:b2b [i0 x] M R=R (.int 2) M:=a7L rfl
theorem b6q{q:Rat}:cl 60 (d9 q)=true:=rfl
theorem b6r{q:Rat}:cl 59 (d9 q)=true:=rfl
theorem b6s{q:Rat}:cl 58 (d9 q)=true:=rfl
theorem b6t{q:Rat}:cl 57 (d9 q)=true:=rfl
theorem r0:D.tup [.int 0,.int 1]=d9 0:=rfl
theorem r1:D.tup [.int 1,.int 1]=d9 1:=rfl
theorem r2:D.tup [.int 2,.int 1]=d9 2:=rfl
theorem r4:D.tup [.int 4,.int 1]=d9 4:=rfl
theorem c1U{q:Rat}:D.tup [.int (q.num.natAbs:Int),.int (q.den:Int)]=d9 (e9 q):=(c01 q).symm
theorem c1T{q:Rat}:D.tup [.int (-q.num),.int (q.den:Int)]=d9 (-q):=by unfold d9;rw[c9G,c9H]
theorem b9U{q:Rat}:D.tup [.int q.num,.int (q.den:Int)]=d9 q:=rfl
theorem rm2:D.tup [.int (-2),.int 1]=d9 (-2):=rfl
theorem rm1:D.tup [.int (-1),.int 1]=d9 (-1):=rfl
local macro_rules|`(tactic| walk_at "inj")=>`(tactic| (rename_i e h;simp only[List.cons.injEq,and_true,true_and,GM.j9,GM.j3,GM.i3,GM.j4,GM.i4,D.tup.injEq,D.ref.injEq,D.int.injEq,D.str.injEq,D.bl.injEq,D.vl.injEq,c7g,and_assoc]at e;(repeat(obtain⟨e1,e⟩:=e;subst e1));subst e;exact h))
local macro_rules|`(tactic| walk_at "injs")=>`(tactic| (rename_i e o h;rcases o with o|o<;>(subst o;first|(exfalso;simp only[D.tup.injEq,List.cons.injEq,reduceCtorEq,false_and,and_false]at e;done)|(simp only[List.cons.injEq,and_true,true_and,GM.j9,GM.j3,GM.i3,GM.j4,GM.i4,D.tup.injEq,D.ref.injEq,D.int.injEq,D.str.injEq,D.bl.injEq,D.vl.injEq,c7g,and_assoc]at e;(repeat(obtain⟨e1,e⟩:=e;subst e1));subst e;exact h))))
theorem a18{a b:Nat}{M:Mem}{R:DK}{Y:DXK}:L6 [.int (a:Int),.int (b:Int)] M R Y=(R (.int ((c7w a b:Nat):Int)) M):=propext ⟨fun z=>by obtain⟨_,_,_,_⟩:=z;walk_at "inj",fun h=>⟨a,b,rfl,h⟩⟩
theorem a94{q:Rat}{M:Mem}{R:DK}{Y:DXK}:a5u [d9 q] M R Y=(R (d9 (-q)) M):=propext ⟨fun z=>by obtain⟨_,_,_⟩:=z;walk_at "inj",fun h=>⟨q,rfl,h⟩⟩
theorem a7f{q r:Rat}{M:Mem}{R:DK}{Y:DXK}:R5 [d9 q,d9 r] M R Y=(sz q+sz r≤8900∧R (d9 (q+r)) M):=propext ⟨fun z=>by obtain⟨_,_,_,_⟩:=z;walk_at "inj",fun h=>⟨q,r,rfl,h⟩⟩
theorem a4S{q r:Rat}{M:Mem}{R:DK}{Y:DXK}:K6 [d9 q,d9 r] M R Y=(sz q+sz r≤8900∧R (d9 (q - r)) M):=propext ⟨fun z=>by obtain⟨_,_,_,_⟩:=z;walk_at "inj",fun h=>⟨q,r,rfl,h⟩⟩
theorem a4R{q r:Rat}{M:Mem}{R:DK}{Y:DXK}:G2 [d9 q,d9 r] M R Y=(sz q+sz r≤8900∧R (d9 (q*r)) M):=propext ⟨fun z=>by obtain⟨_,_,_,_⟩:=z;walk_at "inj",fun h=>⟨q,r,rfl,h⟩⟩
theorem a7g{q r:Rat}{M:Mem}{R:DK}{Y:DXK}:a0A [d9 q,d9 r] M R Y=(r≠0∧sz q+sz r≤8900∧R (d9 (q / r)) M):=propext ⟨fun z=>by obtain⟨_,_,_,_⟩:=z;walk_at "inj",fun h=>⟨q,r,rfl,h⟩⟩
theorem a7i{q r:Rat}{M:Mem}{R:DK}{Y:DXK}:a0B [d9 q,d9 r] M R Y=(sz q+sz r≤8900∧R (.bl (decide (q<r))) M):=propext ⟨fun z=>by obtain⟨_,_,_,_⟩:=z;walk_at "inj",fun h=>⟨q,r,rfl,h⟩⟩
theorem a95{a b:Int}{M:Mem}{R:DK}{Y:DXK}:V1 [.int a,.int b] M R Y=(b≠0∧b.natAbs.log2<9000∧R (d9 (c7u a b)) M):=propext ⟨fun z=>by obtain⟨_,_,_,_⟩:=z;walk_at "inj",fun h=>⟨a,b,rfl,h⟩⟩
theorem a7e{c:Int}{M:Mem}{R:DK}{Y:DXK}:a86 [.int c] M R Y=(∀ p M',M p=none→MK M M'→D9 M' p→R (.ref p) M'):=propext ⟨fun z=>by obtain⟨_,_,_⟩:=z;walk_at "inj",fun h=>⟨c,rfl,h⟩⟩
theorem a7h{p:Addr}{b:Int}{M:Mem}{R:DK}{Y:DXK}:O7 [.ref p,.int b] M R Y=(D9 M p∧0<b∧b.natAbs.log2<9000∧∀(r:Int) M',0≤r→r<b→v7 p M M'→R (.int r) M'):=propext ⟨fun z=>by obtain⟨_,_,_,_⟩:=z;walk_at "inj",fun h=>⟨p,b,rfl,h⟩⟩
theorem a96{q:Rat}{M:Mem}{R:DK}{Y:DXK}:a5v [d9 q] M R Y=(R (d9 (e9 q)) M):=propext ⟨fun z=>by obtain⟨_,_,_⟩:=z;walk_at "inj",fun h=>⟨q,rfl,h⟩⟩
theorem a7d{q:Rat}{M:Mem}{R:DK}{Y:DXK}:a85 [d9 q] M R Y=(RM.sz q≤4000∧∀ v,b5H q v→R v M):=propext ⟨fun z=>by obtain⟨_,_,_⟩:=z;walk_at "inj",fun h=>⟨q,rfl,h⟩⟩
theorem a19{a b c d:Rat}{M:Mem}{R:DK}{Y:DXK}:a1J [A1 a c,A1 b d] M R Y=(R (a1I a b c d) M):=propext ⟨fun z=>by obtain⟨_,_,_,_,_,_⟩:=z;walk_at "inj",fun h=>⟨a,b,c,d,rfl,h⟩⟩
abbrev a6t(a b c d y u:Rat)(M:Mem)(R:DK)(Y:DXK):Prop:=sz a+sz y+(sz b+sz u)≤8900∧sz c+sz y+(sz d+sz u)≤8900∧R (A1 (a*y+b*u) (c*y+d*u)) M
def b1K:DSp:=fun ds M R Y=>∃(a b c d y u:Rat),ds=[a1I a b c d,A1 y u]∧a6t a b c d y u M R Y
theorem b2u{a b c d y u:Rat}{M:Mem}{R:DK}{Y:DXK}:b1K [a1I a b c d,A1 y u] M R Y=(a6t a b c d y u M R Y):=propext ⟨fun z=>by obtain⟨_,_,_,_,_,_,_,_⟩:=z;walk_at "inj",fun h=>⟨a,b,c,d,y,u,rfl,h⟩⟩
abbrev a2L(x:Str × Rat)(y u:Rat)(M:Mem)(R:DK)(Y:DXK):Prop:=sz x.2+sz y+sz u≤8900∧R (A1 (B3 x y u).1 (B3 x y u).2) M
def b0P:DSp:=fun ds M R Y=>∃(x:Str × Rat) (y u:Rat),ds=[i0 x,A1 y u]∧a2L x y u M R Y
theorem b0d{x:Str × Rat}{y u:Rat}{M:Mem}{R:DK}{Y:DXK}:b0P [i0 x,A1 y u] M R Y=(a2L x y u M R Y):=propext ⟨fun z=>by obtain⟨_,_,_,_,_⟩:=z;walk_at "inj",fun h=>⟨x,y,u,rfl,h⟩⟩
theorem b5r{k:Nat}:∀{ds:List D},(∀ x∈ds,cl k x=true)→clL k ds=true
 | [],_=>rfl
 | d :: r,h=>by
  show(cl k d && clL k r)=true
  rw[h d c7D,b5r (fun x hx=>h x (c7j _ hx))];rfl
theorem v7.put{p l:Addr}{M M':Mem}{o:MO}(h:v7 p M M')(hl:M l=none)(hp:l≠p):v7 p M (C1 M' l o):=⟨fun b u hb e=>by
  rw[F9 (by intro z;subst z;rw[hl]at e;cases e)];exact h.keep b u hb e,by
  obtain⟨x,y,z,e⟩:=h.pool.ex
  exact⟨x,y,z,by rw[F9 (Ne.symm hp)];exact e⟩⟩
theorem v7.del{p l:Addr}{M M':Mem}(h:v7 p M M')(hl:M l=none)(hp:l≠p):v7 p M (a0Y M' l):=⟨fun b u hb e=>by
  rw[a61 (by intro z;subst z;rw[hl]at e;cases e)];exact h.keep b u hb e,by
  obtain⟨x,y,z,e⟩:=h.pool.ex
  exact⟨x,y,z,by rw[a61 (Ne.symm hp)];exact e⟩⟩
theorem b5n{ds:List D}{n:Nat}:Y4 ds none (some (n:Int))=ds.take n:=by
 unfold Y4 HT.sIx
 simp only[List.drop_zero,Nat.sub_zero]
 rw[if_neg (by omega)]
 by_cases h:n≤ds.length
 ·congr 1;omega
 ·rw[c7W (by omega),c7W (by omega)]
end GM
set_option maxHeartbeats 1000000
namespace GM
open PySem PySem.Spec L2 DL
open RM (sz)
theorem L1{xs:List D}{r:Int}{M:Mem}{R:DK}(h0:0≤r)(h1:r<xs.length)(h:∀ d∈xs,R d M):gIx (.vl xs) (.int r) M R:=by
 obtain⟨z,e,hz⟩:=b75 h0 h1
 exact⟨z,e,h z hz⟩
local macro_rules|`(tactic| walk_at "inj")=>`(tactic| (rename_i e h;simp only[List.cons.injEq,and_true,true_and,GM.j9,GM.j3,GM.i3,GM.j4,GM.i4,D.tup.injEq,D.ref.injEq,D.int.injEq,D.str.injEq,D.bl.injEq,D.vl.injEq,c7g,and_assoc]at e;(repeat(obtain⟨e1,e⟩:=e;subst e1));subst e;exact h))
local macro_rules|`(tactic| walk_at "injs")=>`(tactic| (rename_i e o h;rcases o with o|o<;>(subst o;first|(exfalso;simp only[D.tup.injEq,List.cons.injEq,reduceCtorEq,false_and,and_false]at e;done)|(simp only[List.cons.injEq,and_true,true_and,GM.j9,GM.j3,GM.i3,GM.j4,GM.i4,D.tup.injEq,D.ref.injEq,D.int.injEq,D.str.injEq,D.bl.injEq,D.vl.injEq,c7g,and_assoc]at e;(repeat(obtain⟨e1,e⟩:=e;subst e1));subst e;exact h))))
structure b5G(w:Rat):Prop where
 n:w.num.natAbs≤4
 d:w.den≤4
 ne:w≠0
theorem small_one:b5G 1:=⟨by decide,by decide,by decide⟩
theorem b5G.sz{w:Rat}(h:b5G w):RM.sz w≤3:=by
 rw[← c8w w]
 exact c0s (by decide) (by have:=h.n;omega) (by have:=h.d;omega) (RM.D8 w)
end GM
namespace GM
open PySem PySem.Spec L2 DL
open RM (sz)
abbrev Q4:=Rat × Rat × Rat × Rat
def E7(m:Q4):D:=a1I m.1 m.2.1 m.2.2.1 m.2.2.2
def N7(m k:Q4):Q4:=(m.1*k.1+m.2.1*k.2.2.1,m.1*k.2.1+m.2.1*k.2.2.2,m.2.2.1*k.1+m.2.2.2*k.2.2.1,m.2.2.1*k.2.1+m.2.2.2*k.2.2.2)
def Y3(m:Q4):Rat:=m.1*m.2.2.2 - m.2.1*m.2.2.1
def CDQ(S:Nat)(m:Q4):Prop:=CD S m.1 m.2.1 m.2.2.1 m.2.2.2
def pwQ(m:Q4):Nat→Q4
 | 0=>(1,0,0,1)
 | k+1=>N7 m (pwQ m k)
def xwQ(m:Q4):Nat→Rat × Rat
 | 0=>(0,-1)
 | k+1=>((m.1+m.2.2.2)*(xwQ m k).1 - (xwQ m k).2,(xwQ m k).1)
theorem a6Z{m k:Q4}(h1:m.1=k.1)(h2:m.2.1=k.2.1)(h3:m.2.2.1=k.2.2.1)(h4:m.2.2.2=k.2.2.2):m=k:=Prod.ext h1 (Prod.ext h2 (Prod.ext h3 h4))
theorem b8U{m:Q4}(hd:Y3 m=1):∀ k,pwQ m k=(m.1*(xwQ m k).1 - (xwQ m k).2,m.2.1*(xwQ m k).1,m.2.2.1*(xwQ m k).1,m.2.2.2*(xwQ m k).1 - (xwQ m k).2)
 | 0=>by refine a6Z ?_ ?_ ?_ ?_<;>(simp only[pwQ,xwQ];grind)
 | k+1=>by
  have ih:=b8U hd k
  have hd':m.1*m.2.2.2 - m.2.1*m.2.2.1=1:=hd
  show N7 m (pwQ m k)=_
  rw[ih]
  generalize h1:xwQ m k=xw at *
  refine a6Z ?_ ?_ ?_ ?_<;>(simp only[N7,xwQ,h1];grind)
theorem a9K(a b c:Q4):N7 (N7 a b) c=N7 a (N7 b c):=by
 refine a6Z ?_ ?_ ?_ ?_<;>(simp only[N7];grind)
theorem b3T(m:Q4)(k:Nat):∀ j,N7 (pwQ m j) (pwQ m k)=pwQ m (j+k)
 | 0=>by
  rw[c93]
  refine a6Z ?_ ?_ ?_ ?_<;>(simp only[N7,pwQ];grind)
 | j+1=>by
  rw[show j+1+k=(j+k)+1 by omega]
  show N7 (N7 m (pwQ m j)) (pwQ m k)=N7 m (pwQ m (j+k))
  rw[a9K,b3T m k j]
theorem CD.mul{S T:Nat}{m k:Q4}(h:CDQ S m)(g:CDQ T k):CDQ (S+T+1) (N7 m k):=by
 obtain⟨A,B,C,E,D,h0,hd,⟨h1,h2,h3,h4⟩,e1,e2,e3,e4⟩:=h.ex
 obtain⟨A',B',C',E',D',h0',hd',⟨h1',h2',h3',h4'⟩,e1',e2',e3',e4'⟩:=g.ex
 refine⟨A*A'+B*C',A*B'+B*E',C*A'+E*C',C*B'+E*E',D*D',c7T h0 h0',a0v (j8 hd hd') (by omega),⟨y8 (e7 h1 h1') (e7 h2 h3'),y8 (e7 h1 h2') (e7 h2 h4'),y8 (e7 h3 h1') (e7 h4 h3'),y8 (e7 h3 h2') (e7 h4 h4')⟩,?_,?_,?_,?_⟩
 all_goals (simp only[N7,c7x,c7X,c6T];grind)
theorem CD.tr{S:Nat}{a b c d:Rat}(h:CD S a b c d):sz (a+d)≤S+1:=by
 obtain⟨A,B,C,E,D,h0,hd,⟨h1,h2,h3,h4⟩,e1,e2,e3,e4⟩:=h.ex
 exact a8K (A:=A+E) (D:=D) (by omega) h0 (a0v hd (by omega)) (by rw[c7X];grind) (y8 h1 h4)
theorem a4Q{n:Int}{M:Mem}{R:DK}{Y:DXK}:a05 [.int n] M R Y=R (.bl true) M:=propext ⟨fun⟨_,e,h⟩=>by cases e;exact h,fun h=>⟨_,rfl,h⟩⟩
local macro_rules|`(tactic| walk_at "inj")=>`(tactic| (rename_i e h;simp only[List.cons.injEq,and_true,true_and,GM.j9,GM.j3,GM.i3,GM.j4,GM.i4,D.tup.injEq,D.ref.injEq,D.int.injEq,D.str.injEq,D.bl.injEq,D.vl.injEq,c7g,and_assoc]at e;(repeat(obtain⟨e1,e⟩:=e;subst e1));subst e;exact h))
local macro_rules|`(tactic| walk_at "injs")=>`(tactic| (rename_i e o h;rcases o with o|o<;>(subst o;first|(exfalso;simp only[D.tup.injEq,List.cons.injEq,reduceCtorEq,false_and,and_false]at e;done)|(simp only[List.cons.injEq,and_true,true_and,GM.j9,GM.j3,GM.i3,GM.j4,GM.i4,D.tup.injEq,D.ref.injEq,D.int.injEq,D.str.injEq,D.bl.injEq,D.vl.injEq,c7g,and_assoc]at e;(repeat(obtain⟨e1,e⟩:=e;subst e1));subst e;exact h))))
end GM
namespace GM
open PySem PySem.Spec L2 DL
open RM (sz)
def v9(G:Rat)(x:Str × Rat):Str × Rat:=if x.1 = "gap" then(x.1,G*x.2)else if x.1 = "glass" then(x.1,x.2 / G)else x
theorem a3g(G:Rat)(x:Str × Rat):(v9 G x).1=x.1:=by
 unfold v9;split
 ·rfl
 ·split<;>rfl
theorem b4z{G:Rat}(h:G≠0)(x:Str × Rat)(y u:Rat):B3 (v9 G x) (G*y) u=(G*(B3 x y u).1,(B3 x y u).2):=by
 unfold B3
 rw[a3g]
 unfold v9
 by_cases h1:x.1 = "gap"
 ·rw[if_pos h1,if_pos h1,if_pos h1]
  exact Prod.ext (by show G*y+G*x.2*u=G*(y+x.2*u);grind) rfl
 ·rw[if_neg h1,if_neg h1,if_neg h1]
  by_cases h2:x.1 = "glass"
  ·rw[if_pos h2,if_pos h2,if_pos h2]
   exact Prod.ext rfl (by show u - x.2 / G*(G*y)=u - x.2*y;grind)
  ·rw[if_neg h2,if_neg h2]
theorem b4h{G:Rat}(h:G≠0)(bs:List (Str × Rat))(y u:Rat):g7 (bs.map (v9 G)) (G*y,u)=(G*(g7 bs (y,u)).1,(g7 bs (y,u)).2):=by
 induction bs generalizing y u with
 | nil=>rfl
 | cons x r ih =>
  show g7 (r.map (v9 G)) (B3 (v9 G x) (G*y) u)=_
  rw[b4z h x y u]
  exact ih _ _
def N4(x:Str × Rat):Bool:=x.1 == "gap" || x.1 == "glass"
def F2(bs:List (Str × Rat)):Nat:=(bs.filter N4).length
theorem a8u{x:Str × Rat}(h:N4 x=false)(y u:Rat):B3 x y u=(y,u):=by
 unfold N4 at h
 rw[Bool.or_eq_false_iff]at h
 unfold B3
 rw[if_neg (by have:=h.1;intro e;rw[e]at this;cases this),if_neg (by have:=h.2;intro e;rw[e]at this;cases this)]
theorem CD.ledk{S k:Nat}{x:Str × Rat}{y u y' u':Rat}(h:CD S y y' u u')(hx:sz x.2≤k):CD (S+(k+1)) (B3 x y u).1 (B3 x y' u').1 (B3 x y u).2 (B3 x y' u').2:=by
 unfold B3
 split
 ·exact h.step hx
 ·split
  ·have:=(h.swap.step (q:=-x.2) (k:=k) (by rw[RM.O6];exact hx)).swap
   rw[show u + -x.2*y=u - x.2*y by grind,show u' + -x.2*y'=u' - x.2*y' by grind]at this
   exact this
  ·exact h.mono (by omega)
theorem b7r{k:Nat}(bs:List (Str × Rat))(hb:∀ x∈bs,N4 x=true→sz x.2≤k):∀{S:Nat} {y u y' u':Rat},CD S y y' u u'→CD (S+(k+1)*F2 bs) (g7 bs (y,u)).1 (g7 bs (y',u')).1 (g7 bs (y,u)).2 (g7 bs (y',u')).2:=by
 induction bs with
 | nil=>intro S y u y' u' h;exact h.mono (by omega)
 | cons x r ih =>
  intro S y u y' u' h
  have hr:=fun z hz=>hb z (c7j _ hz)
  cases ha:N4 x with
  | false =>
   have e:F2 (x :: r)=F2 r:=by unfold F2;rw[c7Y,ha];rfl
   rw[e]
   show CD _ (g7 r (B3 x y u)).1 (g7 r (B3 x y' u')).1 (g7 r (B3 x y u)).2 (g7 r (B3 x y' u')).2
   rw[a8u ha,a8u ha]
   exact ih hr h
  | true =>
   have e:F2 (x :: r)=F2 r+1:=by unfold F2;rw[c7Y,ha];rfl
   rw[e,show S+(k+1)*(F2 r+1)=S+(k+1)+(k+1)*F2 r by rw[Nat.mul_succ];omega]
   exact ih hr (h.ledk (hb x c7D ha))
theorem CD.wide{S k:Nat}{a b c d G:Rat}(h:CD S a b c d)(hG:sz G≤k)(hp:0<G.num):CD (S+2*k) a (G*b) (c / G) d:=by
 obtain⟨A,B,C,E,D,h0,hd,⟨h1,h2,h3,h4⟩,e1,e2,e3,e4⟩:=h.ex
 have hn:=u9 G hG
 have hm:=t9 G hG
 have hm':(G.den:Int).natAbs<2 ^ k:=by rw[c6N];exact hm
 have e:=A0 G
 obtain⟨n,en⟩:∃ n:Nat,G.num=(n:Int):=⟨G.num.toNat,by omega⟩
 rw[en]at hn e hp
 rw[c6N]at hn
 rw[c6Z]at e
 have hn':(n:Int).natAbs<2 ^ k:=by rw[c6N];exact hn
 have g0:G≠0:=by
  intro z
  rw[z]at e
  have:(n:Rat)=0:=by grind
  have:n=0:=by exact_mod_cast this
  omega
 refine⟨A*((n:Int)*G.den),B*((n:Int)*n),C*((G.den:Int)*G.den),E*((n:Int)*G.den),D*(n*G.den),c7T h0 (c7T (by omega) G.den_nz),?_,⟨?_,?_,?_,?_⟩,?_,?_,?_,?_⟩
 ·rw[show S+2*k=S+(k+k)by omega];exact j8 hd (j8 hn hm)
 ·rw[show S+2*k=S+(k+k)by omega];exact e7 h1 (e7 hn' hm')
 ·rw[show S+2*k=S+(k+k)by omega];exact e7 h2 (e7 hn' hn')
 ·rw[show S+2*k=S+(k+k)by omega];exact e7 h3 (e7 hm' hm')
 ·rw[show S+2*k=S+(k+k)by omega];exact e7 h4 (e7 hn' hm')
 all_goals (simp only[c7x,c6T,c6Z])
 ·grind
 ·grind
 ·have:c / G*G=c:=by grind
  grind
 ·grind
theorem b1v{G:Rat}(h:G≠0)(x:Str × Rat):v9 G (v9 (1 / G) x)=x:=by
 have e:=a3g (1 / G) x
 by_cases h1:x.1 = "gap"
 ·have e2:v9 (1 / G) x=(x.1,1 / G*x.2):=if_pos h1
  rw[e2]
  show(if x.1 = "gap" then(x.1,G*(1 / G*x.2))else _)=x
  rw[if_pos h1]
  exact Prod.ext rfl (by show G*(1 / G*x.2)=x.2;grind)
 ·by_cases h2:x.1 = "glass"
  ·have e2:v9 (1 / G) x=(x.1,x.2 / (1 / G)):=by unfold v9;rw[if_neg h1,if_pos h2]
   rw[e2]
   show(if x.1 = "gap" then _ else if x.1 = "glass" then(x.1,x.2 / (1 / G) / G)else _)=x
   rw[if_neg h1,if_pos h2]
   exact Prod.ext rfl (by show x.2 / (1 / G) / G=x.2;grind)
  ·have e2:v9 (1 / G) x=x:=by unfold v9;rw[if_neg h1,if_neg h2]
   rw[e2]
   unfold v9
   rw[if_neg h1,if_neg h2]
theorem a8P(G:Rat)(x:Str × Rat):N4 (v9 G x)=N4 x:=by unfold N4;rw[a3g]
theorem b2m(G:Rat)(xs:List (Str × Rat)):F2 (xs.map (v9 G))=F2 xs:=by
 induction xs with
 | nil=>rfl
 | cons x r ih =>
  unfold F2 at ih ⊢
  rw[c7I,c7Y,c7Y,a8P]
  split
  ·rw[c7A,c7A,ih]
  ·exact ih
theorem a1F(xs ys:List (Str × Rat)):F2 (xs++ys)=F2 xs+F2 ys:=by unfold F2;rw[c7H,c7l]
theorem a8O(xs:List (Str × Rat)):F2 xs.reverse=F2 xs:=by unfold F2;rw[c9J,c7B]
theorem b2n(xs:List (Str × Rat))(i:Nat):F2 (xs.take i)≤F2 xs:=by
 have:=a1F (xs.take i) (xs.drop i)
 rw[c8E]at this
 omega
theorem a9x{G:Rat}(h:0<G.num):G≠0:=by
 intro z;rw[z]at h;exact absurd h (by decide)
def tbQ(bs:List (Str × Rat)):Q4:=((g7 bs (1,0)).1,(g7 bs (0,1)).1,(g7 bs (1,0)).2,(g7 bs (0,1)).2)
theorem b6G{G:Rat}(hp:0<G.num)(hG:sz G≤67){xs:List (Str × Rat)}(hx:∀ x∈xs,N4 x=true→sz (v9 (1 / G) x).2≤5)(ha:F2 xs≤14):CDQ 230 (tbQ xs):=by
 have g0:=a9x hp
 have e:xs=(xs.map (v9 (1 / G))).map (v9 G):=by
  rw[c7N]
  exact(List.map_id xs).symm.trans (List.map_congr_left fun x _=>(b1v g0 x).symm)
 have c:=b7r (k:=5) (xs.map (v9 (1 / G))) (fun x h=>by
  obtain⟨z,hz,rfl⟩:=c7q.mp h
  rw[a8P]
  exact hx z hz) CD.one
 rw[b2m]at c
 have c2:=(c.mono (show 1+(5+1)*F2 xs≤85 by omega)).wide hG hp
 have o:=b4h g0 (xs.map (v9 (1 / G)))
 rw[← e]at o
 have o1:=o (1 / G) 0
 have o2:=o 0 1
 rw[show G*(1 / G)=1 by grind]at o1
 rw[show G*(0:Rat)=0 by grind]at o2
 have l1:=E3 (xs.map (v9 (1 / G))) (1 / G) 0
 unfold CDQ tbQ
 rw[o1,o2]
 generalize g7 (xs.map (v9 (1 / G))) (1,0)=p at *
 generalize g7 (xs.map (v9 (1 / G))) (0,1)=q at *
 show CD 230 (G*(g7 (xs.map (v9 (1 / G))) (1 / G,0)).1) (G*q.1) (g7 (xs.map (v9 (1 / G))) (1 / G,0)).2 q.2
 rw[l1.1,l1.2,show G*(p.1*(1 / G)+q.1*0)=p.1 by grind,show p.2*(1 / G)+q.2*0=p.2 / G by grind]
 exact c2.mono (by omega)
theorem a5V(bs:List (Str × Rat)):Y3 (tbQ bs)=1:=b7q bs
def d8(near:Rat)(bs:List (Str × Rat))(far:Rat):List (Str × Rat):=bs++[(Str.ofString "glass",far)]++bs.reverse++[(Str.ofString "glass",near)]
structure B8(near:Rat)(bs:List (Str × Rat))(far:Rat):Prop where
 ex:∃ G:Rat,0<G.num∧sz G≤67∧sz (near*G)≤5∧sz (far*G)≤5∧∀ x∈bs,N4 x=true→sz (v9 (1 / G) x).2≤5
 act:F2 bs≤6
 len:bs.length≤9
 part:∀ x∈bs,sz x.2≤80∧((x.1 = "gap" ∧ 0≤x.2)∨x.1 = "glass" ∨ (x.1 = "stop" ∧ 0<x.2))
 zn:sz near≤80
 zf:sz far≤80
theorem a34{G q:Rat}(h:sz (q*G)≤5):sz (v9 (1 / G) (Str.ofString "glass",q)).2≤5:=by
 have:v9 (1 / G) (Str.ofString "glass",q)=(Str.ofString "glass",q / (1 / G)):=by
  unfold v9
  rw[if_neg (show ¬ Str.ofString "glass" = Str.ofString "gap" by decide),if_pos rfl]
 rw[this]
 by_cases g:G=0
 ·rw[g]
  show sz (q / (1 / 0))≤5
  rw[show q / (1 / 0)=(0:Rat)by grind,RM.K5];decide
 ·rw[show q / (1 / G)=q*G by grind];exact h
theorem B8.cd{near far:Rat}{bs:List (Str × Rat)}(h:B8 near bs far)(i:Nat):CDQ 230 (tbQ ((d8 near bs far).take i)):=by
 obtain⟨G,hp,hG,hn,hf,hb⟩:=h.ex
 refine b6G hp hG (fun x hx ha=>?_) ?_
 ·have hx:=c8O hx
  unfold d8 at hx
  rcases c7i.mp hx with hx|hx
  ·rcases c7i.mp hx with hx|hx
   ·rcases c7i.mp hx with hx|hx
    ·exact hb x hx ha
    ·rw[c7a.mp hx];exact a34 hf
   ·exact hb x (c75.mp hx) ha
  ·rw[c7a.mp hx];exact a34 hn
 ·refine c6V (b2n _ _) ?_
  unfold d8
  rw[a1F,a1F,a1F,a8O]
  have:=h.act
  have e1:F2 [(Str.ofString "glass",far)]=1:=rfl
  have e2:F2 [(Str.ofString "glass",near)]=1:=rfl
  omega
theorem B8.szs{near far:Rat}{bs:List (Str × Rat)}(h:B8 near bs far):∀ x∈d8 near bs far,sz x.2≤80:=by
 intro x hx
 unfold d8 at hx
 rcases c7i.mp hx with hx|hx
 ·rcases c7i.mp hx with hx|hx
  ·rcases c7i.mp hx with hx|hx
   ·exact(h.part x hx).1
   ·rw[c7a.mp hx];exact h.zf
  ·exact(h.part x (c75.mp hx)).1
 ·rw[c7a.mp hx];exact h.zn
theorem Q9(near far:Rat)(bs:List (Str × Rat)):(d8 near bs far).length=2*bs.length+2:=by
 unfold d8
 simp only[c7l,c7B,c7A,c79]
 omega
theorem X6{S T:Nat}{xs:List (Str × Rat)}{y u:Rat}(h:CDQ S (tbQ xs))(g:CD T y 0 u 0):CD (S+T+1) (g7 xs (y,u)).1 0 (g7 xs (y,u)).2 0:=by
 have c:=CD.mul (k:=(y,0,u,0)) h g
 have l:=E3 xs y u
 unfold CDQ N7 tbQ at c
 rw[l.1,l.2]
 rw[show ∀ a b:Rat,a*0+b*0=0 from fun a b=>by grind]at c
 rw[show ∀ a b:Rat,a*0+b*0=0 from fun a b=>by grind]at c
 exact c
theorem b7X(q:Rat)(m:Int):c7u q.num ((q.den:Int)*m)=q / (m:Rat):=by
 rw[c7M,c6T,c6Z,← A0 q]
 have h:(q.den:Rat)≠0:=by
  intro z;exact q.den_nz (by exact_mod_cast z)
 grind
theorem c3B{m:Int}(h0:2≤m)(h1:m≤3):sz (m:Rat)≤2∧sz (1 - 1 / (m:Rat))≤2∧0<1 / (m:Rat)∧0<1 - 1 / (m:Rat):=by
 have:m=2∨m=3:=by omega
 rcases this with rfl|rfl
 ·exact⟨by decide +kernel,by decide +kernel,by decide +kernel,by decide +kernel⟩
 ·exact⟨by decide +kernel,by decide +kernel,by decide +kernel,by decide +kernel⟩
theorem a9H{q:Rat}(h:0<q):0<q.num:=by
 have:=(c9T 0 q).mp h
 simpa using this
theorem a3H{t b:Int}{k:Nat}(hk:0<k)(ht:t.natAbs<2 ^ k)(h0:0<b)(hb:b.natAbs<2 ^ k):sz (c7u t b)≤k:=c6V (RM.L5 t b (by omega)) (c8P.mpr ⟨RM.Y7 ht hk,RM.Y7 hb hk⟩)
theorem a9w{t b:Int}(h:0<t)(h0:0<b):0<c7u t b:=by
 rw[c7M]
 have h1:(0:Rat)<(t:Rat):=by exact_mod_cast h
 have h2:(0:Rat)<(b:Rat):=by exact_mod_cast h0
 exact(c9C h2).mpr (by grind)
theorem a0l{ts bs:List Int}{k:Nat}(hk:0<k)(ht:∀ t∈ts,t.natAbs<2 ^ k)(hb:∀ b∈bs,0<b∧b.natAbs<2 ^ k):∀ t∈ts,∀ b∈bs,sz (c7u t b)≤k:=fun t h b g=>a3H hk (ht t h) (hb b g).1 (hb b g).2
theorem b1a{ts bs:List Int}{k:Nat}(hk:0<k)(ht:∀ t∈ts,0<t∧t.natAbs<2 ^ k)(hb:∀ b∈bs,0<b∧b.natAbs<2 ^ k):∀ t∈ts,∀ b∈bs,0<c7u t b∧sz (c7u t b)≤k:=fun t h b g=>⟨a9w (ht t h).1 (hb b g).1,a3H hk (ht t h).2 (hb b g).1 (hb b g).2⟩
theorem b7O{ts bs:List Int}{k:Nat}(hk:0<k)(ht:∀ t∈ts,0≤t∧t.natAbs<2 ^ k)(hb:∀ b∈bs,0<b∧b.natAbs<2 ^ k):∀ t∈ts,∀ b∈bs,0≤c7u t b∧sz (c7u t b)≤k:=fun t h b g=>⟨by
 by_cases z:t=0
 ·rw[z,Rat.zero_divInt];exact Rat.le_refl
 ·exact c9w (a9w (by have:=(ht t h).1;omega) (hb b g).1),a3H hk (ht t h).2 (hb b g).1 (hb b g).2⟩
theorem lg9{n:Nat}(h:n<128):n.log2<9000:=c6R (F0 (k:=7) h (by decide)) (by decide)
local macro_rules|`(tactic| walk_at "inj")=>`(tactic| (rename_i e h;simp only[List.cons.injEq,and_true,true_and,GM.j9,GM.j3,GM.i3,GM.j4,GM.i4,D.tup.injEq,D.ref.injEq,D.int.injEq,D.str.injEq,D.bl.injEq,D.vl.injEq,c7g,and_assoc]at e;(repeat(obtain⟨e1,e⟩:=e;subst e1));subst e;exact h))
local macro_rules|`(tactic| walk_at "injs")=>`(tactic| (rename_i e o h;rcases o with o|o<;>(subst o;first|(exfalso;simp only[D.tup.injEq,List.cons.injEq,reduceCtorEq,false_and,and_false]at e;done)|(simp only[List.cons.injEq,and_true,true_and,GM.j9,GM.j3,GM.i3,GM.j4,GM.i4,D.tup.injEq,D.ref.injEq,D.int.injEq,D.str.injEq,D.bl.injEq,D.vl.injEq,c7g,and_assoc]at e;(repeat(obtain⟨e1,e⟩:=e;subst e1));subst e;exact h))))
abbrev a2J(p:Addr)(x y:D)(M:Mem)(R:DK)(Y:DXK):Prop:=D9 M p∧∃(ts bs:List Int) (P:Rat→Prop),x = .vl (ts.map D.int)∧y = .vl (bs.map D.int)∧((0<ts.length∧ts.length≤100)∧(0<bs.length∧bs.length≤100)∧(∀ b∈bs,0<b∧b≤1000)∧∀ t∈ts,∀ b∈bs,P (c7u t b))∧∀(q:Rat) M',P q→v7 p M M'→R (d9 q) M'
def a3D:DSp:=fun ds M R Y=>∃(p:Addr) (x y:D),ds=[.ref p,x,y]∧a2J p x y M R Y
theorem b0b{p:Addr}{x y:D}{M:Mem}{R:DK}{Y:DXK}:a3D [.ref p,x,y] M R Y=(a2J p x y M R Y):=propext ⟨fun z=>by obtain⟨_,_,_,_,_⟩:=z;walk_at "inj",fun h=>⟨p,x,y,rfl,h⟩⟩
abbrev a0a(p:Addr)(G:Rat)(M:Mem)(R:DK)(Y:DXK):Prop:=D9 M p∧(0<G∧sz G≤67)∧∀(qs:List Rat) M',qs.length≤3→(∀ q∈qs,0≤q∧sz q≤5)→v7 p M M'→R (.vl ((qs.map fun q=>(Str.ofString "gap",G*q)).map i0)) M'
def a6p:DSp:=fun ds M R Y=>∃(p:Addr) (G:Rat),ds=[.ref p,d9 G]∧a0a p G M R Y
theorem a43{p:Addr}{G:Rat}{M:Mem}{R:DK}{Y:DXK}:a6p [.ref p,d9 G] M R Y=(a0a p G M R Y):=propext ⟨fun z=>by obtain⟨_,_,_,_⟩:=z;walk_at "inj",fun h=>⟨p,G,rfl,h⟩⟩
abbrev a0e(p:Addr)(x:D)(n:Int)(M:Mem)(R:DK)(Y:DXK):Prop:=D9 M p∧∃ bs:List (Str × Rat),x = .vl (bs.map i0)∧(0≤n∧n≤4∧bs.length≤20)∧∀(cs:List (Str × Rat)) M',cs.length≤bs.length+n.toNat→cs.filter N4=bs.filter N4→(∀ x∈cs,x∈bs∨(x.1 = "stop" ∧ 0<x.2∧sz x.2≤10))→v7 p M M'→R (.vl (cs.map i0)) M'
def a2N:DSp:=fun ds M R Y=>∃(p:Addr) (x:D) (n:Int),ds=[.ref p,x,.int n]∧a0e p x n M R Y
theorem a47{p:Addr}{x:D}{n:Int}{M:Mem}{R:DK}{Y:DXK}:a2N [.ref p,x,.int n] M R Y=(a0e p x n M R Y):=propext ⟨fun z=>by obtain⟨_,_,_,_,_⟩:=z;walk_at "inj",fun h=>⟨p,x,n,rfl,h⟩⟩
abbrev a2M(p:Addr)(M:Mem)(R:DK)(Y:DXK):Prop:=D9 M p∧∀(near:Rat) (bs:List (Str × Rat)) (far:Rat) M',B8 near bs far→bs.length≤7→F2 bs≤4→v7 p M M'→R (.tup [d9 near,.vl (bs.map i0),d9 far]) M'
def a79:DSp:=fun ds M R Y=>∃(p:Addr),ds=[.ref p]∧a2M p M R Y
theorem b0e{p:Addr}{M:Mem}{R:DK}{Y:DXK}:a79 [.ref p] M R Y=(a2M p M R Y):=propext ⟨fun z=>by obtain⟨_,_,_⟩:=z;walk_at "inj",fun h=>⟨p,rfl,h⟩⟩
theorem a7M{G near far:Rat}{bs cs:List (Str × Rat)}(hp:0<G.num)(hG:sz G≤67)(hn:sz (near*G)≤5)(hf:sz (far*G)≤5)(zn:sz near≤80)(zf:sz far≤80)
  (hb:∀ x∈bs,sz (v9 (1 / G) x).2≤5∧sz x.2≤80∧((x.1 = "gap" ∧ 0≤x.2)∨x.1 = "glass")) (hl:bs.length≤4) (hc:cs.length≤7) (hfl:cs.filter N4=bs.filter N4)
  (hm:∀ x∈cs,x∈bs∨(x.1 = "stop" ∧ 0<x.2∧sz x.2≤10)):B8 near cs far∧cs.length≤7∧F2 cs≤4:=by
 have ha:F2 cs≤4:=by
  unfold F2;rw[hfl];exact c6V (c8k _ _) hl
 refine⟨⟨⟨G,hp,hG,hn,hf,fun x hx h=>?_⟩,by omega,by omega,fun x hx=>?_,zn,zf⟩,hc,ha⟩
 ·rcases hm x hx with h1|⟨h1,_⟩
  ·exact(hb x h1).1
  ·unfold N4 at h;rw[h1]at h;exact absurd h (by decide)
 ·rcases hm x hx with h1|⟨h1,h2,h3⟩
  ·obtain⟨_,h2,h3⟩:=hb x h1
   exact⟨h2,h3.elim .inl fun h=>.inr (.inl h)⟩
  ·exact⟨by omega,.inr (.inr ⟨h1,h2⟩)⟩
theorem b4R{G q:Rat}(h:G≠0):(v9 (1 / G) (Str.ofString "gap",G*q)).2=q:=by
 show(if Str.ofString "gap" = Str.ofString "gap" then(Str.ofString "gap",1 / G*(G*q))else _).2=q
 rw[if_pos rfl]
 show 1 / G*(G*q)=q
 grind
theorem b4k(x:Str × Rat):(v9 (1 / 1) x).2=x.2:=by
 unfold v9
 split
 ·show 1 / 1*x.2=x.2;grind
 ·split
  ·show x.2 / (1 / 1)=x.2;grind
  ·rfl
theorem a8t{G:Rat}(h:0<G.num){n b:Int}(hb:b≠0):c7u (n*(G.den:Int)) (b*G.num)=(n:Rat) / (b:Rat) / G:=by
 have hd:(G.den:Rat)≠0:=by
  intro z;exact G.den_nz (by exact_mod_cast z)
 have e:=A0 G
 have g0:=a9x h
 have b0:(b:Rat)≠0:=by
  intro z;exact hb (by exact_mod_cast z)
 rw[c7M,c6T,c6T,c6Z,← e]
 grind
theorem b4D{G:Rat}(h0:0<G)(hG:sz G≤67){qs:List Rat}(hl:qs.length≤3)(hq:∀ q∈qs,0≤q∧sz q≤5){cs:List (Str × Rat)}(hc:cs.length≤7)
  (hfl:cs.filter N4=(qs.map fun q=>(Str.ofString "gap",G*q)).filter N4) (hm:∀ x∈cs,x∈(qs.map fun q=>(Str.ofString "gap",G*q))∨(x.1 = "stop" ∧ 0<x.2∧sz x.2≤10)) {n f b:Int}
  (hn:n.natAbs≤13) (hf:f.natAbs≤13) (hb:b=1∨b=2):B8 ((n:Rat) / (b:Rat) / G) cs ((f:Rat) / (b:Rat) / G)∧cs.length≤7∧F2 cs≤4:=by
 have hp:0<G.num:=a9H h0
 have g0:=a9x hp
 have sm:∀ k:Int,k.natAbs≤13→sz ((k:Rat) / (b:Rat))≤5:=fun k hk=>by
  have:=a3H (t:=k) (b:=b) (k:=5) (by decide) (show k.natAbs<32 by omega) (by omega) (show b.natAbs<32 by omega)
  rw[c7M]at this
  exact this
 have z1:=RM.R4 ((n:Rat) / (b:Rat)) G g0
 have z2:=RM.R4 ((f:Rat) / (b:Rat)) G g0
 have y1:=sm n hn
 have y2:=sm f hf
 refine a7M hp hG ?_ ?_ (by omega) (by omega) (fun x hx=>?_) (by rw[c6Q];omega) hc hfl hm
 ·rw[show(n:Rat) / (b:Rat) / G*G=(n:Rat) / (b:Rat)by grind];exact y1
 ·rw[show(f:Rat) / (b:Rat) / G*G=(f:Rat) / (b:Rat)by grind];exact y2
 ·obtain⟨q,h1,rfl⟩:=c7q.mp hx
  have h2:=hq q h1
  have z3:=RM.y9 G q
  exact⟨by rw[b4R g0];exact h2.2,by show sz (G*q)≤80;omega,.inl ⟨rfl,c7m (c9w h0) h2.1⟩⟩
theorem a8c{near far:Rat}{bs cs:List (Str × Rat)}(hn:sz near≤5)(hf:sz far≤5)(hb:∀ x∈bs,sz x.2≤5∧((x.1 = "gap" ∧ 0≤x.2)∨x.1 = "glass"))(hl:bs.length≤4)(hc:cs.length≤7)(hfl:cs.filter N4=bs.filter N4)
  (hm:∀ x∈cs,x∈bs∨(x.1 = "stop" ∧ 0<x.2∧sz x.2≤10)):B8 near cs far∧cs.length≤7∧F2 cs≤4 :=
 a7M (G:=1) (by decide) (by rw[RM.O5];decide) (by rw[show near*1=near by grind];exact hn) (by rw[show far*1=far by grind];exact hf) (by omega) (by omega)
  (fun x hx=>⟨by rw[b4k];exact(hb x hx).1,c6V (hb x hx).1 (by decide),(hb x hx).2⟩) hl hc hfl hm
theorem a5K(bs:List (Str × Rat)):R0 (bs.map i0)=bs.zipIdx.map fun x=>D.tup [.int (x.2:Int),i0 x.1]:=by
 unfold R0
 refine c8I (by simp) fun i h1 h2=>?_
 simp
def g9(near:Rat)(bs:List (Str × Rat))(far:Rat):List (D × D × (Str × Rat)):=(bs.zipIdx.map fun x=>(D.str "forth",D.int (x.2:Int),x.1))++[(.non,.non,(Str.ofString "glass",far))]++(bs.zipIdx.reverse.map fun x=>(D.str "back",D.int (x.2:Int),x.1))++[(.non,.non,(Str.ofString "glass",near))]
theorem b09(near far:Rat)(bs:List (Str × Rat)):d8 near bs far=(g9 near bs far).map fun z=>z.2.2:=by
 unfold d8 g9
 simp only[c7d,c7N,c7I,c8d,c8J]
 have e1:∀ w:D,c8x ((fun z:D × D × (Str × Rat)=>z.2.2) ∘ fun x:(Str × Rat) × Nat=>(w,D.int (x.2:Int),x.1)) bs.zipIdx=bs:=fun w=>by
  have:((fun z:D × D × (Str × Rat)=>z.2.2) ∘ fun x:(Str × Rat) × Nat=>(w,D.int (x.2:Int),x.1))=Prod.fst:=rfl
  rw[this];exact List.zipIdx_map_fst 0 bs
 rw[e1,e1]
end GM
namespace GM
open PySem PySem.Spec L2 DL
open RM (sz)
theorem a7R{m k:Q4}(h:E7 m=E7 k):m=k:=by
 unfold E7 a1I at h
 injection h with h
 injection h with h1 h
 injection h with h2 h
 injection h with h3 h
 injection h with h4 _
 exact a6Z (G5 h1) (G5 h2) (G5 h3) (G5 h4)
theorem b6J{q r:Rat}(h:r*r=q):sz r≤sz q:=by
 have e:=a3n r
 rw[h]at e
 refine RM.b0K (c6V (RM.V0 ?_) (RM.L7 q)) (c6V (RM.V0 ?_) (RM.D3 q))
 ·rw[e.1,c7n];exact c8X _
 ·rw[e.2];exact c8X _
def trQ(m:Q4):Rat:=m.1+m.2.2.2
def a0N(m:Q4):D:=if m=(1,0,0,1)then .int 1 else if m=(-1,0,0,-1)then .int 2 else if trQ m = -1 then .int 3 else if trQ m=0 then .int 4 else if trQ m=1 then .int 6 else .non
abbrev r9(m:Q4):Prop:=m=(1,0,0,1)∨m=(-1,0,0,-1)∨trQ m = -1∨trQ m=0∨trQ m=1
theorem b0S{m:Q4}(h:r9 m):∃ n:Int,a0N m = .int n:=by
 unfold a0N
 by_cases h1:m=(1,0,0,1)
 ·exact⟨1,if_pos h1⟩
 ·rw[if_neg h1]
  by_cases h2:m=(-1,0,0,-1)
  ·exact⟨2,if_pos h2⟩
  ·rw[if_neg h2]
   by_cases h3:trQ m = -1
   ·exact⟨3,if_pos h3⟩
   ·rw[if_neg h3]
    by_cases h4:trQ m=0
    ·exact⟨4,if_pos h4⟩
    ·rw[if_neg h4]
     by_cases h5:trQ m=1
     ·exact⟨6,if_pos h5⟩
     ·rcases h with h|h|h|h|h<;>contradiction
theorem a6A{m:Q4}(h:¬ r9 m):a0N m = .non:=by
 unfold r9 at h
 unfold a0N
 rw[if_neg (fun e=>h (.inl e)),if_neg (fun e=>h (.inr (.inl e))),if_neg (fun e=>h (.inr (.inr (.inl e)))),if_neg (fun e=>h (.inr (.inr (.inr (.inl e))))),if_neg (fun e=>h (.inr (.inr (.inr (.inr e)))))]
def kwS(m:Q4):Str:=if r9 m then "same" else if e9 (trQ m)=2 then "shear" else if e9 (trQ m)<2 then "turns" else "off"
def b80(m:Q4):D:=.tup [d9 m.2.2.1,d9 (m.2.2.2 - m.1),d9 (-m.2.1)]
def a9Z(m:Q4):D:=if m.2.1=0 then A1 0 1 else A1 m.2.1 (trQ m / 2 - m.1)
def b1s(t:Rat)(v:D):Prop:=(∃ r:Rat,0≤r∧r*r=t*t - 4∧v=d9 ((t - (if t<0 then -r else r)) / 2))∨((∀ r:Rat,r*r≠t*t - 4)∧v = .non)
def c06(m:Q4)(v:D):Prop:=(kwS m = "same" ∧ v=a0N m)∨(kwS m = "turns" ∧ v=b80 m)∨(kwS m = "shear" ∧ v=a9Z m)∨(kwS m = "off" ∧ b1s (trQ m) v)
theorem b4u(m:Q4):N7 m (1,0,0,1)=m∧N7 (1,0,0,1) m=m∧N7 m (-1,0,0,-1)=(-m.1,-m.2.1,-m.2.2.1,-m.2.2.2)∧N7 (-1,0,0,-1) m=(-m.1,-m.2.1,-m.2.2.1,-m.2.2.2):=by
 refine⟨?_,?_,?_,?_⟩<;>(refine a6Z ?_ ?_ ?_ ?_<;>(simp only[N7];grind))
theorem B8.rev{near far:Rat}{bs:List (Str × Rat)}(h:B8 near bs far):B8 far bs.reverse near:=by
 obtain⟨G,g1,g2,g3,g4,g5⟩:=h.ex
 exact⟨⟨G,g1,g2,g4,g3,fun x hx=>g5 x (c75.mp hx)⟩,by rw[a8O];exact h.act,by rw[c7B];exact h.len,fun x hx=>h.part x (c75.mp hx),h.zf,h.zn⟩
def K2(m:Q4)(r:Rat × Rat):Nat→Rat × Rat
 | 0=>r
 | k+1=>(m.1*(K2 m r k).1+m.2.1*(K2 m r k).2,m.2.2.1*(K2 m r k).1+m.2.2.2*(K2 m r k).2)
theorem b0T{bs:List (Str × Rat)}(r:Rat × Rat)(k:Nat):g7 bs (K2 (tbQ bs) r k)=K2 (tbQ bs) r (k+1):=by
 have l:=E3 bs (K2 (tbQ bs) r k).1 (K2 (tbQ bs) r k).2
 exact Prod.ext l.1 l.2
theorem a9u(m:Q4)(r:Rat × Rat):∀ k,K2 m r k=((pwQ m k).1*r.1+(pwQ m k).2.1*r.2,(pwQ m k).2.2.1*r.1+(pwQ m k).2.2.2*r.2)
 | 0=>by
  show r=_
  simp only[pwQ]
  exact Prod.ext (by grind) (by grind)
 | k+1=>by
  have ih:=a9u m r k
  show(_,_)=_
  rw[ih]
  simp only[pwQ,N7]
  exact Prod.ext (by grind) (by grind)
theorem b3M{m:Q4}(hd:Y3 m=1)(r:Rat × Rat)(p q:Rat)(k:Nat):p*(K2 m r (k+2)).1+q*(K2 m r (k+2)).2=trQ m*(p*(K2 m r (k+1)).1+q*(K2 m r (k+1)).2) - (p*(K2 m r k).1+q*(K2 m r k).2):=by
 have hd':m.1*m.2.2.2 - m.2.1*m.2.2.1=1:=hd
 simp only[K2,trQ]
 grind
local macro_rules|`(tactic| walk_at "inj")=>`(tactic| (rename_i e h;simp only[List.cons.injEq,and_true,true_and,GM.j9,GM.j3,GM.i3,GM.j4,GM.i4,D.tup.injEq,D.ref.injEq,D.int.injEq,D.str.injEq,D.bl.injEq,D.vl.injEq,c7g,and_assoc]at e;(repeat(obtain⟨e1,e⟩:=e;subst e1));subst e;exact h))
local macro_rules|`(tactic| walk_at "injs")=>`(tactic| (rename_i e o h;rcases o with o|o<;>(subst o;first|(exfalso;simp only[D.tup.injEq,List.cons.injEq,reduceCtorEq,false_and,and_false]at e;done)|(simp only[List.cons.injEq,and_true,true_and,GM.j9,GM.j3,GM.i3,GM.j4,GM.i4,D.tup.injEq,D.ref.injEq,D.int.injEq,D.str.injEq,D.bl.injEq,D.vl.injEq,c7g,and_assoc]at e;(repeat(obtain⟨e1,e⟩:=e;subst e1));subst e;exact h))))
abbrev a6g(x:D)(M:Mem)(R:DK)(Y:DXK):Prop:=∃ m:Q4,x=E7 m∧CDQ 230 m∧R (d9 (trQ m)) M
def a1Q:DSp:=fun ds M R Y=>∃(x:D),ds=[x]∧a6g x M R Y
theorem b2q{x:D}{M:Mem}{R:DK}{Y:DXK}:a1Q [x] M R Y=(a6g x M R Y):=propext ⟨fun z=>by obtain⟨_,_,_⟩:=z;walk_at "inj",fun h=>⟨x,rfl,h⟩⟩
abbrev a6n(x:D)(M:Mem)(R:DK)(Y:DXK):Prop:=∃ m:Q4,x=E7 m∧CDQ 230 m∧R (a0N m) M
def a9k:DSp:=fun ds M R Y=>∃(x:D),ds=[x]∧a6n x M R Y
theorem b2t{x:D}{M:Mem}{R:DK}{Y:DXK}:a9k [x] M R Y=(a6n x M R Y):=propext ⟨fun z=>by obtain⟨_,_,_⟩:=z;walk_at "inj",fun h=>⟨x,rfl,h⟩⟩
abbrev b0Q(x:D)(M:Mem)(R:DK)(Y:DXK):Prop:=∃ m:Q4,x=E7 m∧CDQ 230 m∧R (.str (kwS m)) M
def sKw:DSp:=fun ds M R Y=>∃(x:D),ds=[x]∧b0Q x M R Y
theorem b8q{x:D}{M:Mem}{R:DK}{Y:DXK}:sKw [x] M R Y=(b0Q x M R Y):=propext ⟨fun z=>by obtain⟨_,_,_⟩:=z;walk_at "inj",fun h=>⟨x,rfl,h⟩⟩
abbrev a0f(x:D)(M:Mem)(R:DK)(Y:DXK):Prop:=∃ m:Q4,x=E7 m∧CDQ 230 m∧R (b80 m) M
def a6w:DSp:=fun ds M R Y=>∃(x:D),ds=[x]∧a0f x M R Y
theorem a48{x:D}{M:Mem}{R:DK}{Y:DXK}:a6w [x] M R Y=(a0f x M R Y):=propext ⟨fun z=>by obtain⟨_,_,_⟩:=z;walk_at "inj",fun h=>⟨x,rfl,h⟩⟩
abbrev a1o(x:D)(M:Mem)(R:DK)(Y:DXK):Prop:=∃ m:Q4,x=E7 m∧CDQ 230 m∧R (a9Z m) M
def a9s:DSp:=fun ds M R Y=>∃(x:D),ds=[x]∧a1o x M R Y
theorem a7z{x:D}{M:Mem}{R:DK}{Y:DXK}:a9s [x] M R Y=(a1o x M R Y):=propext ⟨fun z=>by obtain⟨_,_,_⟩:=z;walk_at "inj",fun h=>⟨x,rfl,h⟩⟩
abbrev a6l(t:Rat)(M:Mem)(R:DK)(Y:DXK):Prop:=sz t≤231∧∀ v,b1s t v→R v M
def b9P:DSp:=fun ds M R Y=>∃(t:Rat),ds=[d9 t]∧a6l t M R Y
theorem b2s{t:Rat}{M:Mem}{R:DK}{Y:DXK}:b9P [d9 t] M R Y=(a6l t M R Y):=propext ⟨fun z=>by obtain⟨_,_,_⟩:=z;walk_at "inj",fun h=>⟨t,rfl,h⟩⟩
end GM
namespace GM
open PySem PySem.Spec L2 DL
open RM (sz)
theorem N5(a b:Rat):e9 (a*b)=e9 a*e9 b:=by
 have h1:=a69 (a*b)
 have h2:0≤e9 a*e9 b:=c7m (a69 a) (a69 b)
 have h3:=a68 (a*b)
 have h4:=a68 a
 have h5:=a68 b
 have e:e9 (a*b)*e9 (a*b)=(e9 a*e9 b)*(e9 a*e9 b):=by grind
 have f:(e9 (a*b) - e9 a*e9 b)*(e9 (a*b)+e9 a*e9 b)=0:=by grind
 rcases c7y.mp f with z|z<;>grind
theorem b3K{m:Q4}(hd:Y3 m=1)(h:r9 m):∃ n:Nat,a0N m = .int (n:Int)∧(n=1∨n=2∨n=3∨n=4∨n=6)∧pwQ m n=(1,0,0,1):=by
 have e:=b8U hd
 unfold a0N
 by_cases h1:m=(1,0,0,1)
 ·exact⟨1,by rw[if_pos h1];rfl,by decide,by rw[h1];decide +kernel⟩
 ·rw[if_neg h1]
  by_cases h2:m=(-1,0,0,-1)
  ·exact⟨2,by rw[if_pos h2];rfl,by decide,by rw[h2];decide +kernel⟩
  ·rw[if_neg h2]
   by_cases h3:trQ m = -1
   ·refine⟨3,by rw[if_pos h3];rfl,by decide,?_⟩
    have h3':m.1+m.2.2.2 = -1:=h3
    rw[e 3]
    simp only[xwQ,h3']
    exact a6Z (by grind) (by grind) (by grind) (by grind)
   ·rw[if_neg h3]
    by_cases h4:trQ m=0
    ·refine⟨4,by rw[if_pos h4];rfl,by decide,?_⟩
     have h3':m.1+m.2.2.2=0:=h4
     rw[e 4]
     simp only[xwQ,h3']
     exact a6Z (by grind) (by grind) (by grind) (by grind)
    ·rw[if_neg h4]
     by_cases h5:trQ m=1
     ·refine⟨6,by rw[if_pos h5];rfl,by decide,?_⟩
      have h3':m.1+m.2.2.2=1:=h5
      rw[e 6]
      simp only[xwQ,h3']
      exact a6Z (by grind) (by grind) (by grind) (by grind)
     ·rcases h with h|h|h|h|h<;>contradiction
theorem b9M{t r:Rat}(h:¬ e9 t<2)(h2:¬ e9 t=2)(r0:0≤r)(r1:r*r=t*t - 4):∀ k,k=(t - (if t<0 then -r else r)) / 2→k<1∧-1<k∧k*k - t*k+1=0:=by
 intro k hk
 unfold e9 at h h2
 by_cases ht:t<0
 ·rw[if_pos ht]at hk
  rw[if_neg (by grind)]at h h2
  have e:k+k=t+r:=by grind
  have hr:r < -t:=by
   rcases c82 (a:=r) (b:=(-t))with z|z
   ·rcases Decidable.em (r = -t)with y|y
    ·exfalso;rw[y]at r1;grind
    ·grind
   ·exfalso
    have:-t * -t≤r*r:=Rat.le_trans (c8K z (by grind)) (c8F z r0)
    grind
  have kk:k*k - t*k+1=0:=by grind
  refine⟨by grind,?_,kk⟩
  rcases c82 (a:=k) (b:=(-1))with z|z
  ·exfalso
   have e2:(k+1)*(k - t - 1)=k*k - t*k - t - 1:=by grind
   have e3:k - t - 1≥0:=by grind
   have:0≤(-1 - k)*(k - t - 1):=c7m (by grind) (by grind)
   grind
  ·rcases Decidable.em (k = -1)with y|y
   ·exfalso;rw[y]at kk;grind
   ·grind
 ·rw[if_neg ht]at hk
  rw[if_pos (by grind)]at h h2
  have e:k+k=t - r:=by grind
  have kk:k*k - t*k+1=0:=by grind
  have hr:r<t:=by
   rcases c82 (a:=r) (b:=t)with z|z
   ·rcases Decidable.em (r=t)with y|y
    ·exfalso;rw[y]at r1;grind
    ·grind
   ·exfalso
    have:t*t≤r*r:=Rat.le_trans (c8K z (by grind)) (c8F z r0)
    grind
  refine⟨?_,by grind,kk⟩
  rcases c82 (a:=1) (b:=k)with z|z
  ·exfalso
   have:0≤(k - 1)*(t - 1 - k):=c7m (by grind) (by grind)
   grind
  ·rcases Decidable.em (k=1)with y|y
   ·exfalso;rw[y]at kk;grind
   ·grind
theorem D4(m:Q4):(r9 m∧kwS m=Str.ofString "same")∨(¬ r9 m∧e9 (trQ m)=2∧kwS m=Str.ofString "shear")∨(¬ r9 m∧¬ e9 (trQ m)=2∧e9 (trQ m)<2∧kwS m=Str.ofString "turns")∨(¬ r9 m∧¬ e9 (trQ m)=2∧¬ e9 (trQ m)<2∧kwS m=Str.ofString "off"):=by
 unfold kwS
 by_cases h1:r9 m
 ·exact .inl ⟨h1,if_pos h1⟩
 ·rw[if_neg h1]
  by_cases h2:e9 (trQ m)=2
  ·exact .inr (.inl ⟨h1,h2,if_pos h2⟩)
  ·rw[if_neg h2]
   by_cases h3:e9 (trQ m)<2
   ·exact .inr (.inr (.inl ⟨h1,h2,h3,if_pos h3⟩))
   ·exact .inr (.inr (.inr ⟨h1,h2,h3,if_neg h3⟩))
def hD(h:Rat × List (Str × Rat) × Rat):D:=.tup [d9 h.1,.vl (h.2.1.map i0),d9 h.2.2]
local macro_rules|`(tactic| walk_at "inj")=>`(tactic| (rename_i e h;simp only[List.cons.injEq,and_true,true_and,GM.j9,GM.j3,GM.i3,GM.j4,GM.i4,D.tup.injEq,D.ref.injEq,D.int.injEq,D.str.injEq,D.bl.injEq,D.vl.injEq,c7g,and_assoc]at e;(repeat(obtain⟨e1,e⟩:=e;subst e1));subst e;exact h))
local macro_rules|`(tactic| walk_at "injs")=>`(tactic| (rename_i e o h;rcases o with o|o<;>(subst o;first|(exfalso;simp only[D.tup.injEq,List.cons.injEq,reduceCtorEq,false_and,and_false]at e;done)|(simp only[List.cons.injEq,and_true,true_and,GM.j9,GM.j3,GM.i3,GM.j4,GM.i4,D.tup.injEq,D.ref.injEq,D.int.injEq,D.str.injEq,D.bl.injEq,D.vl.injEq,c7g,and_assoc]at e;(repeat(obtain⟨e1,e⟩:=e;subst e1));subst e;exact h))))
end GM
namespace GM
open PySem PySem.Spec L2 DL
open RM (sz)
local macro_rules|`(tactic| walk_at "inj")=>`(tactic| (rename_i e h;simp only[List.cons.injEq,and_true,true_and,GM.j9,GM.j3,GM.i3,GM.j4,GM.i4,D.tup.injEq,D.ref.injEq,D.int.injEq,D.str.injEq,D.bl.injEq,D.vl.injEq,c7g,and_assoc]at e;(repeat(obtain⟨e1,e⟩:=e;subst e1));subst e;exact h))
local macro_rules|`(tactic| walk_at "injs")=>`(tactic| (rename_i e o h;rcases o with o|o<;>(subst o;first|(exfalso;simp only[D.tup.injEq,List.cons.injEq,reduceCtorEq,false_and,and_false]at e;done)|(simp only[List.cons.injEq,and_true,true_and,GM.j9,GM.j3,GM.i3,GM.j4,GM.i4,D.tup.injEq,D.ref.injEq,D.int.injEq,D.str.injEq,D.bl.injEq,D.vl.injEq,c7g,and_assoc]at e;(repeat(obtain⟨e1,e⟩:=e;subst e1));subst e;exact h))))
abbrev X2(xs:List D)(M:Mem)(R:DK)(Y:DXK):Prop:=R (.vl xs.reverse) M
def a6f:DSp:=fun ds M R Y=>∃(x0:D) (xs:List D),ds=[x0]∧(x0 = .vl (xs)∨x0 = .tup (xs))∧X2 xs M R Y
theorem a7j{xs:List D}{M:Mem}{R:DK}{Y:DXK}:a6f [.vl (xs)] M R Y=(X2 xs M R Y):=propext ⟨fun z=>by obtain⟨_,_,_,_,_⟩:=z;walk_at "injs",fun h=>⟨_,xs,rfl,.inl rfl,h⟩⟩
theorem a2S{xs:List D}{M:Mem}{R:DK}{Y:DXK}:a6f [.tup (xs)] M R Y=(X2 xs M R Y):=propext ⟨fun z=>by obtain⟨_,_,_,_,_⟩:=z;walk_at "injs",fun h=>⟨_,xs,rfl,.inr rfl,h⟩⟩
abbrev X3(near:Rat)(bs:List (Str × Rat))(far:Rat)(M:Mem)(R:DK)(Y:DXK):Prop:=bs.length≤9∧R (.vl ((d8 near bs far).map i0)) M
def a3B:DSp:=fun ds M R Y=>∃(x0:D) (near:Rat) (bs:List (Str × Rat)) (far:Rat),ds=[.tup [d9 near,x0,d9 far]]∧(x0 = .vl (bs.map i0)∨x0 = .tup (bs.map i0))∧X3 near bs far M R Y
theorem a7n{near:Rat}{bs:List (Str × Rat)}{far:Rat}{M:Mem}{R:DK}{Y:DXK}:a3B [.tup [d9 near,.vl (bs.map i0),d9 far]] M R Y=(X3 near bs far M R Y):=propext ⟨fun z=>by obtain⟨_,_,_,_,_,_,_⟩:=z;walk_at "injs",fun h=>⟨_,near,bs,far,rfl,.inl rfl,h⟩⟩
theorem a2U{near:Rat}{bs:List (Str × Rat)}{far:Rat}{M:Mem}{R:DK}{Y:DXK}:a3B [.tup [d9 near,.tup (bs.map i0),d9 far]] M R Y=(X3 near bs far M R Y):=propext ⟨fun z=>by obtain⟨_,_,_,_,_,_,_⟩:=z;walk_at "injs",fun h=>⟨_,near,bs,far,rfl,.inr rfl,h⟩⟩
end GM
namespace GM
open PySem PySem.Spec L2 DL
open RM (sz)
def rtN(m:Q4):Nat:=if m=(1,0,0,1)then 1 else if m=(-1,0,0,-1)then 2 else if trQ m = -1 then 3 else if trQ m=0 then 4 else if trQ m=1 then 6 else 0
theorem a0O(m:Q4)(h:r9 m):a0N m = .int (rtN m:Int):=by
 unfold a0N rtN
 by_cases h1:m=(1,0,0,1)
 ·rw[if_pos h1,if_pos h1];rfl
 ·rw[if_neg h1,if_neg h1]
  by_cases h2:m=(-1,0,0,-1)
  ·rw[if_pos h2,if_pos h2];rfl
  ·rw[if_neg h2,if_neg h2]
   by_cases h3:trQ m = -1
   ·rw[if_pos h3,if_pos h3];rfl
   ·rw[if_neg h3,if_neg h3]
    by_cases h4:trQ m=0
    ·rw[if_pos h4,if_pos h4];rfl
    ·rw[if_neg h4,if_neg h4]
     by_cases h5:trQ m=1
     ·rw[if_pos h5,if_pos h5];rfl
     ·rcases h with h|h|h|h|h<;>contradiction
theorem b6U{m:Q4}(h:¬ r9 m):rtN m=0:=by
 unfold r9 at h
 unfold rtN
 rw[if_neg (fun e=>h (.inl e)),if_neg (fun e=>h (.inr (.inl e))),if_neg (fun e=>h (.inr (.inr (.inl e)))),if_neg (fun e=>h (.inr (.inr (.inr (.inl e))))),if_neg (fun e=>h (.inr (.inr (.inr (.inr e)))))]
theorem b9T{m:Q4}:r9 m↔0<rtN m:=by
 constructor
 ·intro h
  have e:=a0O m h
  unfold rtN
  rcases h with h|h|h|h|h
  ·rw[if_pos h];decide
  all_goals (repeat' split)
  all_goals first|decide|contradiction
 ·intro h
  by_cases hs:r9 m
  ·exact hs
  ·rw[b6U hs]at h;omega
theorem b0W(k:Nat):∀{bs:List (Str × Rat)},(∀ x∈bs,x.1 = "gap" ∨ x.1 = "glass" ∨ x.1 = "stop")→clL (k+2) (bs.map i0)=true
 | [],_=>rfl
 | x :: r,h=>by
  have c:PyData.canLay0 (.str x.1)=true:=by
   rcases h x c7D with e|e|e<;>(rw[e];decide +kernel)
  have ih:=b0W k (bs:=r) fun y hy=>h y (c7j _ hy)
  rw[c7I]
  show((PyData.canLay0 (.str x.1) && (cl (k+1) (d9 x.2) && true)) && clL (k+2) (r.map i0))=true
  rw[c,ih];rfl
theorem B8.cl{near far:Rat}{bs:List (Str × Rat)}(h:B8 near bs far):clL 58 (bs.map i0)=true:=b0W 56 fun x hx=>by
 rcases(h.part x hx).2 with⟨e,_⟩|e|⟨e,_⟩
 ·exact .inl e
 ·exact .inr (.inl e)
 ·exact .inr (.inr e)
theorem O3{t:Rat}:e9 t<2 ↔ -2<t∧t<2:=by
 unfold e9;split<;>constructor<;>grind
local macro_rules|`(tactic| walk_at "inj")=>`(tactic| (rename_i e h;simp only[List.cons.injEq,and_true,true_and,GM.j9,GM.j3,GM.i3,GM.j4,GM.i4,D.tup.injEq,D.ref.injEq,D.int.injEq,D.str.injEq,D.bl.injEq,D.vl.injEq,c7g,and_assoc]at e;(repeat(obtain⟨e1,e⟩:=e;subst e1));subst e;exact h))
local macro_rules|`(tactic| walk_at "injs")=>`(tactic| (rename_i e o h;rcases o with o|o<;>(subst o;first|(exfalso;simp only[D.tup.injEq,List.cons.injEq,reduceCtorEq,false_and,and_false]at e;done)|(simp only[List.cons.injEq,and_true,true_and,GM.j9,GM.j3,GM.i3,GM.j4,GM.i4,D.tup.injEq,D.ref.injEq,D.int.injEq,D.str.injEq,D.bl.injEq,D.vl.injEq,c7g,and_assoc]at e;(repeat(obtain⟨e1,e⟩:=e;subst e1));subst e;exact h))))
end GM
namespace GM
open PySem PySem.Spec L2 DL
open RM (sz)
def G8(t x f:Rat):Rat:=4*(x*x - t*(x*f)+f*f) / (4 - t*t)
theorem b0J{t:Rat}(h1:-2<t)(h2:t<2):0<4 - t*t:=by
 have:0<(2 - t)*(2+t):=c7J (by grind) (by grind)
 grind
theorem b6X{D V B n:Rat}(h1:n≠0)(h2:B≠0)(h3:D≠0):4*(n*V*B)*n / (B*(D*(n*n)))=4*V / D:=by
 have nz:B*(D*(n*n))≠0:=by
  intro z
  rcases c7y.mp z with z|z
  ·exact h2 z
  ·rcases c7y.mp z with z|z
   ·exact h3 z
   ·rcases c7y.mp z with z|z<;>exact h1 z
 have e1:4*(n*V*B)*n / (B*(D*(n*n)))*(B*(D*(n*n)))=4*(n*V*B)*n:=by grind
 have e2:4*V / D*D=4*V:=by grind
 have:(4*(n*V*B)*n / (B*(D*(n*n))) - 4*V / D)*(B*(D*(n*n)))=0:=by
  generalize 4*(n*V*B)*n / (B*(D*(n*n)))=L at *
  generalize 4*V / D=W at *
  grind
 rcases c7y.mp this with z|z
 ·grind
 ·exact absurd z nz
theorem J5{q:Rat}{b:Nat}(h:q.den ∣ b):((q.num*((b:Int).fdiv (q.den:Int)):Int):Rat)=q*(b:Rat)∧(q.num*((b:Int).fdiv (q.den:Int))).natAbs≤q.num.natAbs*b:=by
 obtain⟨k,rfl⟩:=h
 have e:((q.den*k:Nat):Int).fdiv (q.den:Int)=(k:Int):=by
  rw[J4 (by omega) (by omega),c8c]
  exact c8t _ (by have:=q.den_pos;omega)
 rw[e]
 constructor
 ·rw[c6T,c7x,← A0 q,c6Z];grind
 ·rw[c7n,c6N]
  exact c8W _ (Nat.le_mul_of_pos_left k q.den_pos)
theorem b5C{a b:Int}{k:Nat}(h1:a.natAbs<2 ^ k)(h2:b.natAbs<2 ^ k):(a+b).natAbs<2 ^ (k+1):=y8 h1 h2
theorem V8{a b:Int}{k:Nat}(h1:a.natAbs<2 ^ k)(h2:b.natAbs<2 ^ k):(a - b).natAbs<2 ^ (k+1):=by
 rw[Int.sub_eq_add_neg];exact y8 h1 (by rw[c72];exact h2)
theorem p9{n k l:Nat}(h:n<2 ^ k)(hk:k≤l):n<2 ^ l:=c6R h (c7f (by decide) hk)
local macro_rules|`(tactic| walk_at "inj")=>`(tactic| (rename_i e h;simp only[List.cons.injEq,and_true,true_and,GM.j9,GM.j3,GM.i3,GM.j4,GM.i4,D.tup.injEq,D.ref.injEq,D.int.injEq,D.str.injEq,D.bl.injEq,D.vl.injEq,c7g,and_assoc]at e;(repeat(obtain⟨e1,e⟩:=e;subst e1));subst e;exact h))
local macro_rules|`(tactic| walk_at "injs")=>`(tactic| (rename_i e o h;rcases o with o|o<;>(subst o;first|(exfalso;simp only[D.tup.injEq,List.cons.injEq,reduceCtorEq,false_and,and_false]at e;done)|(simp only[List.cons.injEq,and_true,true_and,GM.j9,GM.j3,GM.i3,GM.j4,GM.i4,D.tup.injEq,D.ref.injEq,D.int.injEq,D.str.injEq,D.bl.injEq,D.vl.injEq,c7g,and_assoc]at e;(repeat(obtain⟨e1,e⟩:=e;subst e1));subst e;exact h))))
abbrev a1g(p q y u:Rat)(M:Mem)(R:DK)(Y:DXK):Prop:=sz p+sz y+(sz q+sz u)≤8900∧R (d9 (p*y+q*u)) M
def a6q:DSp:=fun ds M R Y=>∃(p q y u:Rat),ds=[d9 p,d9 q,A1 y u]∧a1g p q y u M R Y
theorem a7r{p q y u:Rat}{M:Mem}{R:DK}{Y:DXK}:a6q [d9 p,d9 q,A1 y u] M R Y=(a1g p q y u M R Y):=propext ⟨fun z=>by obtain⟨_,_,_,_,_,_⟩:=z;walk_at "inj",fun h=>⟨p,q,y,u,rfl,h⟩⟩
end GM
namespace GM
open PySem PySem.Spec L2 DL
open RM (sz)
def C2(L:List (Str × Rat)):Nat→List (Rat × Rat × Rat)
 | 0=>[]
 | i+1=>C2 L i++(match L[i]? with|some x=>if x.1 = "stop" then[((g7 (L.take i) (1,0)).1,(g7 (L.take i) (0,1)).1,x.2)]else[]|none=>[])
def G7(T:List (D × D × (Str × Rat))):Nat→List (D × D)
 | 0=>[]
 | i+1=>G7 T i++(match T[i]? with|some x=>if x.2.2.1 = "stop" then[(x.1,x.2.1)]else[]|none=>[])
def hlD(w:D × D)(l:Rat × Rat × Rat):D:=.tup [w.1,w.2,o8 l]
def hlN(T:List (D × D × (Str × Rat)))(i:Nat):List D:=List.zipWith hlD (G7 T i) (C2 (T.map fun z=>z.2.2) i)
theorem a2A(T:List (D × D × (Str × Rat))):∀ i,(G7 T i).length=(C2 (T.map fun z=>z.2.2) i).length
 | 0=>rfl
 | i+1=>by
  have ih:=a2A T i
  unfold G7 C2
  rw[c7l,c7l,ih,c6Y]
  cases T[i]? with
  | none=>rfl
  | some x =>
   show _+(if x.2.2.1 = "stop" then[(x.1,x.2.1)]else[]).length=_+(if x.2.2.1 = "stop" then _ else[]).length
   split<;>rfl
theorem L8(L:List (Str × Rat)):∀ i,(C2 L i).length≤i
 | 0=>c7b _
 | i+1=>by
  have ih:=L8 L i
  unfold C2
  rw[c7l]
  cases L[i]? with
  | none=>exact c9Y ih
  | some x =>
   show _+(if x.1 = "stop" then _ else[]).length≤_
   split
   ·exact Nat.succ_le_succ ih
   ·exact c9Y ih
theorem a5X{L:List (Str × Rat)}{i:Nat}{x:Str × Rat}(h:L[i]? = some x):C2 L (i+1)=if x.1 = "stop" then C2 L i++[((g7 (L.take i) (1,0)).1,(g7 (L.take i) (0,1)).1,x.2)]else C2 L i:=by
 show C2 L i++(match L[i]? with|some x=>if x.1 = "stop" then[((g7 (L.take i) (1,0)).1,(g7 (L.take i) (0,1)).1,x.2)]else[]|none=>[])=_
 rw[h]
 show C2 L i++(if x.1 = "stop" then _ else[])=_
 split
 ·rfl
 ·exact c74 _
theorem J6(T:List (D × D × (Str × Rat))):∀ i,G7 T i=((T.take i).filter fun z=>z.2.2.1 == Str.ofString "stop").map fun z=>(z.1,z.2.1)
 | 0=>rfl
 | i+1=>by
  have ih:=J6 T i
  unfold G7
  rw[ih,c73,c7H,c7d]
  cases h:T[i]? with
  | none=>rfl
  | some x =>
   show _++(if x.2.2.1 = "stop" then[(x.1,x.2.1)]else[])=_++((c9e _ [x]).map _)
   by_cases e:x.2.2.1=Str.ofString "stop"
   ·rw[if_pos e,c7Y,if_pos (by rw[e];exact beq_self_eq_true _)];rfl
   ·rw[if_neg e,c7Y,if_neg (fun z=>e (eq_of_beq z))];rfl
def frW(bs:List (Str × Rat)):List ((Str × Rat) × Nat):=bs.zipIdx.filter fun x=>x.1.1 == Str.ofString "stop"
theorem b1G(near far:Rat)(bs:List (Str × Rat)):G7 (g9 near bs far) (g9 near bs far).length=((frW bs).map fun x=>(D.str "forth",D.int (x.2:Int)))++((frW bs).reverse.map fun x=>(D.str "back",D.int (x.2:Int))):=by
 rw[J6,c7t]
 unfold g9 frW
 rw[c7H,c7H,c7H,List.filter_map,List.filter_map,c7d,c7d,c7d,c7N,c7N]
 have g:∀ q:Rat,c9e (fun z:D × D × (Str × Rat)=>z.2.2.1 == Str.ofString "stop") [(D.non,D.non,(Str.ofString "glass",q))]=[]:=fun q=>by
  rw[c7Y,if_neg (by show ¬ (Str.ofString "glass" == Str.ofString "stop")=true;decide)];rfl
 rw[g,g,c8d,c74,c74,c9J]
 rfl
theorem L0(near far:Rat)(bs:List (Str × Rat)):(g9 near bs far).map (fun z=>z.2.2)=d8 near bs far:=(b09 near far bs).symm
theorem E5(near far:Rat)(bs:List (Str × Rat)):(g9 near bs far).length=(d8 near bs far).length:=by rw[b09,c6Q]
def fwD(x:(Str × Rat) × Nat):D:=.tup [.str "forth",.int (x.2:Int)]
def bwD(x:(Str × Rat) × Nat):D:=.tup [.str "back",.int (x.2:Int)]
def prD(w:D × D):D:=.tup [w.1,w.2]
theorem c0L(near far:Rat)(bs:List (Str × Rat)):(frW bs).map fwD++(frW bs).reverse.map bwD=(G7 (g9 near bs far) (g9 near bs far).length).map prD:=by
 rw[b1G,c7d,c7N,c7N];rfl
theorem c0D(near far:Rat)(bs:List (Str × Rat)):((G7 (g9 near bs far) (g9 near bs far).length).zip (C2 (d8 near bs far) (d8 near bs far).length)).map (fun z=>hlD z.1 z.2)=hlN (g9 near bs far) (g9 near bs far).length:=by
 unfold hlN
 rw[L0,E5,c8Y,c9o]
theorem b9q(ws:List (D × D))(ls:List (Rat × Rat × Rat)):V6 (ws.map prD) (ls.map o8)=(ws.zip ls).map fun z=>D.tup [prD z.1,o8 z.2]:=by
 unfold V6
 rw[c8Y,c9o]
 rw[c99]
theorem b1f(bs:List (Str × Rat)):(frW bs).length≤bs.length:=by
 unfold frW
 have:=c8k (fun x:(Str × Rat) × Nat=>x.1.1 == Str.ofString "stop") bs.zipIdx
 rw[c76]at this
 exact this
theorem c0T{k:Nat}{ds:List D}(h:∀ d∈ds,cl k d=true):clL k ds=true:=by
 induction ds with
 | nil=>rfl
 | cons d r ih=>show(cl k d && clL k r)=true;rw[h d c7D,ih fun x hx=>h x (c7j _ hx)];rfl
theorem b3x{T:List (D × D × (Str × Rat))}{i:Nat}{w:D × D}(h:w∈G7 T i):∃ z∈T,z.1=w.1∧z.2.1=w.2:=by
 rw[J6]at h
 obtain⟨z,hz,rfl⟩:=c7q.mp h
 exact⟨z,c8O (c78.mp hz).1,rfl,rfl⟩
theorem a8z{near far:Rat}{bs:List (Str × Rat)}{z:D × D × (Str × Rat)}(h:z∈g9 near bs far)(k:Nat):cl (k+1) z.1=true∧cl (k+1) z.2.1=true:=by
 have f:cl (k+1) (D.str (Str.ofString "forth"))=true:=by show PyData.canLay0 (.str (Str.ofString "forth"))=true;decide +kernel
 have b:cl (k+1) (D.str (Str.ofString "back"))=true:=by show PyData.canLay0 (.str (Str.ofString "back"))=true;decide +kernel
 unfold g9 at h
 rcases c7i.mp h with h|h
 ·rcases c7i.mp h with h|h
  ·rcases c7i.mp h with h|h
   ·obtain⟨x,_,rfl⟩:=c7q.mp h
    exact⟨f,rfl⟩
   ·rw[c7a.mp h];exact⟨rfl,rfl⟩
  ·obtain⟨x,_,rfl⟩:=c7q.mp h
   exact⟨b,rfl⟩
 ·rw[c7a.mp h];exact⟨rfl,rfl⟩
theorem a2P(near far:Rat)(bs:List (Str × Rat)):hlN (g9 near bs far) (g9 near bs far).length=((G7 (g9 near bs far) (g9 near bs far).length).zip (C2 (d8 near bs far) (g9 near bs far).length)).map (fun z=>hlD z.1 z.2):=by
 unfold hlN
 rw[L0,c8Y,c9o]
local macro_rules|`(tactic| walk_at "inj")=>`(tactic| (rename_i e h;simp only[List.cons.injEq,and_true,true_and,GM.j9,GM.j3,GM.i3,GM.j4,GM.i4,D.tup.injEq,D.ref.injEq,D.int.injEq,D.str.injEq,D.bl.injEq,D.vl.injEq,c7g,and_assoc]at e;(repeat(obtain⟨e1,e⟩:=e;subst e1));subst e;exact h))
local macro_rules|`(tactic| walk_at "injs")=>`(tactic| (rename_i e o h;rcases o with o|o<;>(subst o;first|(exfalso;simp only[D.tup.injEq,List.cons.injEq,reduceCtorEq,false_and,and_false]at e;done)|(simp only[List.cons.injEq,and_true,true_and,GM.j9,GM.j3,GM.i3,GM.j4,GM.i4,D.tup.injEq,D.ref.injEq,D.int.injEq,D.str.injEq,D.bl.injEq,D.vl.injEq,c7g,and_assoc]at e;(repeat(obtain⟨e1,e⟩:=e;subst e1));subst e;exact h))))
end GM
namespace GM
open PySem PySem.Spec L2 DL
open RM (sz)
structure F3(near:Rat)(bs:List (Str × Rat))(far:Rat):Prop where
 cd:∀ i,CDQ 230 (tbQ ((d8 near bs far).take i))
 szs:∀ x∈d8 near bs far,sz x.2≤3000
 len:bs.length≤9
 part:∀ x∈bs,(x.1 = "gap" ∨ x.1 = "glass")∨(x.1 = "stop" ∧ 0<x.2)
theorem B8.w{near far:Rat}{bs:List (Str × Rat)}(h:B8 near bs far):F3 near bs far :=
 ⟨h.cd,fun x hx=>c6V (h.szs x hx) (by decide),h.len,fun x hx=>by
  rcases(h.part x hx).2 with h|h|h
  ·exact .inl (.inl h.1)
  ·exact .inl (.inr h)
  ·exact .inr h⟩
theorem b3L{S:Nat}{L:List (Str × Rat)}{y u:Rat}(h:∀ i,CDQ 230 (tbQ (L.take i)))(g:CD S y 0 u 0)(i:Nat):sz ((g7 (L.take i) (1,0)).1*y+(g7 (L.take i) (0,1)).1*u)≤231+S∧sz ((g7 (L.take i) (1,0)).1*(g7 L (y,u)).1+(g7 (L.take i) (0,1)).1*(g7 L (y,u)).2)≤462+S:=by
 have c1:=X6 (h i) g
 have cL:=h L.length
 rw[c7t]at cL
 have c2:=X6 cL g
 have c3:=X6 (h i) c2
 have e1:=(E3 (L.take i) y u).1
 have e2:=(E3 (L.take i) (g7 L (y,u)).1 (g7 L (y,u)).2).1
 have t1:=c1.t2.y
 have t3:=c3.t2.y
 rw[e1]at t1
 rw[e2]at t3
 exact⟨by omega,by omega⟩
theorem Q3{L:List (Str × Rat)}:∀ i,∀ l∈C2 L i,∃(j:Nat) (x:Str × Rat),L[j]? = some x∧x.1 = "stop" ∧ l=((g7 (L.take j) (1,0)).1,(g7 (L.take j) (0,1)).1,x.2)
 | 0,l,hl=>by cases hl
 | i+1,l,hl=>by
  cases e:L[i]? with
  | none =>
   have:C2 L (i+1)=C2 L i++[]:=by
    show C2 L i++_=_
    rw[e]
   rw[this,c74]at hl
   exact Q3 i l hl
  | some x =>
   rw[a5X e]at hl
   by_cases hx:x.1 = "stop"
   ·rw[if_pos hx]at hl
    rcases c7i.mp hl with hl|hl
    ·exact Q3 i l hl
    ·exact⟨i,x,e,hx,c7a.mp hl⟩
   ·rw[if_neg hx]at hl
    exact Q3 i l hl
theorem b4w{q:Rat}{T B:Int}(b0:0<B):q.num*B<T*(q.den:Int)↔q<c7u T B:=by
 have hB:(0:Rat)<(B:Rat):=by exact_mod_cast b0
 have hd:(0:Rat)<(q.den:Rat):=by
  have:=q.den_pos
  exact_mod_cast this
 rw[c7M,c9C hB]
 have e:=A0 q
 have e1:(q.num*B<T*(q.den:Int))↔((q.num:Rat)*(B:Rat)<(T:Rat)*(q.den:Rat)):=by
  rw[← c6T,← c6Z,← c6T,c9q]
 rw[e1,← e]
 constructor
 ·intro h
  apply c68
  intro n
  have h1:=c7m (a:=q*(B:Rat) - (T:Rat)) (b:=(q.den:Rat)) (by grind) (by grind)
  grind
 ·intro h
  have h1:=c7J (a:=(T:Rat) - q*(B:Rat)) (b:=(q.den:Rat)) (by grind) hd
  grind
def swQ(t x f:Rat):Rat:=x*x - t*(x*f)+f*f
def u4(m:Q4)(x f r:Rat):Bool :=
 if r9 m then false else if e9 (trQ m)<2 then decide (r*r<G8 (trQ m) x f)else if swQ (trQ m) x f≠0 then true else if e9 (trQ m)=2 then false else decide (e9 x<e9 f∨r<e9 x)
theorem CD.ray2{y u:Rat}{k l:Nat}(h1:sz y≤k)(h2:sz u≤l):CD (k+l) y 0 u 0:=by
 have n1:=u9 y h1
 have d1:=t9 y h1
 have n2:=u9 u h2
 have d2:=t9 u h2
 have d1':(y.den:Int).natAbs<2 ^ k:=by rw[c6N];exact d1
 have d2':(u.den:Int).natAbs<2 ^ l:=by rw[c6N];exact d2
 have e1:=A0 y
 have e2:=A0 u
 refine⟨y.num*(u.den:Int),0,u.num*(y.den:Int),0,y.den*u.den,c7T y.den_nz u.den_nz,j8 d1 d2,⟨e7 n1 d2',c7S _,by rw[Nat.add_comm k l];exact e7 n2 d1',c7S _⟩,?_,?_,?_,?_⟩
 ·rw[c7x,c6T,c6Z,← e1];grind
 ·show(0:Rat)*_=((0:Int):Rat);grind
 ·rw[c7x,c6T,c6Z,← e2];grind
 ·show(0:Rat)*_=((0:Int):Rat);grind
theorem c2s{t k:Rat}(h:k*k - t*k+1=0):sz k≤sz t:=by
 have e1:=A0 k
 have e2:=A0 t
 have kd:(k.den:Rat)≠0:=by intro z;exact k.den_nz (by exact_mod_cast z)
 have tdn:(t.den:Rat)≠0:=by intro z;exact t.den_nz (by exact_mod_cast z)
 have main:(k.num*k.num+(k.den:Int)*(k.den:Int))*(t.den:Int)=t.num*(k.num*(k.den:Int)):=by
  have:(((k.num*k.num+(k.den:Int)*(k.den:Int))*(t.den:Int):Int):Rat)=((t.num*(k.num*(k.den:Int)):Int):Rat):=by
   rw[c6T,c7X,c6T,c6T,c6T,c6T,c6Z,c6Z,← e1,← e2]
   grind
  exact_mod_cast this
 have cop:Nat.Coprime k.num.natAbs k.den:=k.reduced
 have main':(k.num.natAbs*k.num.natAbs+k.den*k.den)*t.den=t.num.natAbs*(k.num.natAbs*k.den):=by
  have hm:=congrArg Int.natAbs main
  rw[c7n,c7n,c7n,c6N,c6N]at hm
  rw[← hm]
  congr 1
  have a1:0≤k.num*k.num:=by
   rcases Int.le_total 0 k.num with h|h
   ·exact Int.mul_nonneg h h
   ·exact Int.mul_nonneg_of_nonpos_of_nonpos h h
  have a2:(k.num.natAbs*k.num.natAbs:Nat)=(k.num*k.num).natAbs:=(c7n _ _).symm
  have a3:((k.den:Int)*(k.den:Int))=((k.den*k.den:Nat):Int):=by rw[c8c]
  rw[a2,a3]
  omega
 have d0:=t.den_pos
 have key:∀{P Q d n:Nat},Nat.Coprime P Q→(P*P+Q*Q)*d=n*(P*Q)→P ∣ d∧Q ∣ d:=fun{P Q d n} hc he=>by
  have h1:P ∣ Q*Q*d:=by
   have:P ∣ (P*P+Q*Q)*d:=by rw[he];exact⟨n*Q,by rw[c87]⟩
   rw[c9K]at this
   exact(c9Z ⟨P*d,by rw[c9O]⟩).mp this
  have h2:Q ∣ P*P*d:=by
   have:Q ∣ (P*P+Q*Q)*d:=by rw[he];exact⟨n*P,by rw[c94 P Q,c87]⟩
   rw[Nat.add_comm,c9K]at this
   exact(c9Z ⟨Q*d,by rw[c9O]⟩).mp this
  exact⟨(Nat.Coprime.mul_right hc hc).dvd_of_dvd_mul_left h1,(Nat.Coprime.mul_right hc.symm hc.symm).dvd_of_dvd_mul_left h2⟩
 obtain⟨p1,p2⟩:=key cop main'
 exact RM.b0K (c6V (RM.V0 (c9f d0 p1)) (RM.D3 t)) (c6V (RM.V0 (c9f d0 p2)) (RM.D3 t))
theorem b9L{t k:Rat}(h:¬ e9 t<2)(h2:¬ e9 t=2)(hs:b1s t (d9 k)):k≠0∧sz k≤sz t:=by
 rcases hs with⟨r,r0,r1,e⟩|⟨_,e⟩
 ·have e:k=(t - (if t<0 then -r else r)) / 2:=j9.mp e
  obtain⟨_,_,q⟩:=b9M h h2 r0 r1 k e
  exact⟨fun z=>by rw[z]at q;grind,c2s q⟩
 ·cases e
theorem c2X:a8V 10 20:=⟨by decide,by decide,by decide⟩
theorem b9h:a8V 10 40:=⟨by decide,by decide,by decide⟩
theorem c2W:a8V 10 25:=⟨by decide,by decide,by decide⟩
theorem b4l{N k:Nat}(h0:0<N)(h:N<2 ^ k):∃ q:Rat,D.tup [D.int 1,D.int (N:Int)]=d9 q∧sz q≤k+1:=by
 have hn:(0:Int)<(((N:Int):Rat)).num:=by show(0:Int)<(N:Int);omega
 refine⟨(((N:Int):Rat))⁻¹,c2v hn,?_⟩
 have hne:((N:Int):Rat)≠0:=by intro z;exact absurd (show(N:Int)=0 by exact_mod_cast z) (by omega)
 have e:(((N:Int):Rat))⁻¹=1 / ((N:Int):Rat):=by grind
 rw[e]
 have s:=RM.R4 1 ((N:Int):Rat) hne
 have s1:sz (1:Rat)=1:=RM.O5
 have hk:0<k:=by
  rcases c8h k with z|z
  ·rw[z]at h;omega
  ·exact z
 have s2:sz ((N:Int):Rat)≤k:=RM.b0K (RM.Y7 (by show(N:Int).natAbs<_;rw[c6N];exact h) hk) (RM.Y7 (show 1<2 ^ k from c83 (by omega)) hk)
 omega
theorem b4K{T:List (D × D × (Str × Rat))}{i k:Nat}{d:D}(h:(hlN T i)[k]? = some d):∃ w l,d=hlD w l∧(C2 (T.map fun z=>z.2.2) i)[k]? = some l∧w∈G7 T i:=by
 unfold hlN at h
 rw[c8j]at h
 cases h1:(G7 T i)[k]? with
 | none=>rw[h1]at h;simp at h
 | some w =>
  cases h2:(C2 (T.map fun z=>z.2.2) i)[k]? with
  | none=>rw[h1,h2]at h;simp at h
  | some l=>rw[h1,h2]at h;exact⟨w,l,(Option.some.inj h).symm,rfl,c6S h1⟩
theorem F3.line{near far:Rat}{bs:List (Str × Rat)}(hw:F3 near bs far){y u:Rat}(cd:CD 1000 y 0 u 0){l:Rat × Rat × Rat}(hl:l∈C2 (d8 near bs far) (d8 near bs far).length) :
  (sz l.1≤230∧sz l.2.1≤230)∧(sz l.2.2≤3000∧0<l.2.2)∧sz (l.1*y+l.2.1*u)≤1231∧sz (l.1*(g7 (d8 near bs far) (y,u)).1+l.2.1*(g7 (d8 near bs far) (y,u)).2)≤1462:=by
 obtain⟨j,px,hj,hpx,el⟩:=Q3 _ l hl
 obtain⟨z1,z2⟩:=b3L hw.cd cd j
 have hpz:=hw.szs px (c6S hj)
 have hp0:0<px.2:=by
  have hm:=c6S hj
  unfold d8 at hm
  have inb:px∈bs→0<px.2:=fun h=>by
   rcases hw.part px h with h|h
   ·rw[hpx]at h;exact absurd h (by decide)
   ·exact h.2
  rcases c7i.mp hm with hm|hm
  ·rcases c7i.mp hm with hm|hm
   ·rcases c7i.mp hm with hm|hm
    ·exact inb hm
    ·rw[c7a.mp hm]at hpx;exact absurd hpx (show ¬ Str.ofString "glass" = Str.ofString "stop" by decide)
   ·exact inb (c75.mp hm)
  ·rw[c7a.mp hm]at hpx;exact absurd hpx (show ¬ Str.ofString "glass" = Str.ofString "stop" by decide)
 have lj:=CD.t4 (hw.cd j)
 have lj1:sz (g7 ((d8 near bs far).take j) (1,0)).1≤230:=lj.a
 have lj2:sz (g7 ((d8 near bs far).take j) (0,1)).1≤230:=lj.b
 rw[el]
 exact⟨⟨lj1,lj2⟩,⟨hpz,hp0⟩,by omega,by omega⟩
theorem b3w{t x f:Rat}(hx:x≠0):swQ t x f=x*x*(1 - t*(f / x)+(f / x)*(f / x)):=by
 unfold swQ
 have:f=(f / x)*x:=by grind
 generalize f / x=p at *
 rw[this];grind
theorem b9l{x f:Rat}(hx:x≠0):e9 f=e9 (f / x)*e9 x:=by
 rw[← N5]
 congr 1
 grind
theorem a39{x:Rat}(hx:x≠0):0<e9 x:=by unfold e9;split<;>grind
theorem b3P{t x f:Rat}(ht:sz t≤231)(hx:sz x≤1231)(hf:sz f≤1462)(t1:-2<t)(t2:t<2):sz (G8 t x f)≤8800:=by
 have h4:=b0J t1 t2
 have m1:=RM.y9 x x
 have m2:=RM.y9 x f
 have m3:=RM.y9 t (x*f)
 have m4:=RM.R3 (x*x) (t*(x*f))
 have m5:=RM.y9 f f
 have m6:=RM.a3k (x*x - t*(x*f)) (f*f)
 have m7:=RM.y9 4 (x*x - t*(x*f)+f*f)
 have m8:=RM.y9 t t
 have m9:=RM.R3 4 (t*t)
 have s4:sz (4:Rat)≤3:=by decide +kernel
 have d:=RM.R4 (4*(x*x - t*(x*f)+f*f)) (4 - t*t) (fun z=>by rw[z]at h4;exact absurd h4 (by decide))
 unfold G8
 omega
theorem b3R{S:Nat}{L:List (Str × Rat)}{y u:Rat}(h:CDQ 230 (tbQ L))(g:CD S y 0 u 0):CD (230+S+1) y (g7 L (y,u)).1 u (g7 L (y,u)).2:=by
 have h:CD 230 (g7 L (1,0)).1 (g7 L (0,1)).1 (g7 L (1,0)).2 (g7 L (0,1)).2:=h
 have l:=E3 L y u
 rw[l.1,l.2]
 generalize (g7 L (1,0)).1=a at *
 generalize (g7 L (0,1)).1=b at *
 generalize (g7 L (1,0)).2=c at *
 generalize (g7 L (0,1)).2=d at *
 obtain⟨A,B,C,E,D0,h0,hd,⟨h1,h2,h3,h4⟩,e1,e2,e3,e4⟩:=h.ex
 obtain⟨Y,_,U,_,D1,k0,kd,⟨k1,_,k3,_⟩,f1,_,f3,_⟩:=g.ex
 have hd':(D0:Int).natAbs<2 ^ 230:=by rw[c6N];exact hd
 have up:∀{n:Nat},n<2 ^ (230+S)→n<2 ^ (230+S+1):=fun h=>c6R h (c7f (by decide) (by omega))
 refine⟨(D0:Int)*Y,A*Y+B*U,(D0:Int)*U,C*Y+E*U,D0*D1,c7T h0 k0,up (j8 hd kd),⟨up (e7 hd' k1),y8 (e7 h1 k1) (e7 h2 k3),up (e7 hd' k3),y8 (e7 h3 k1) (e7 h4 k3)⟩,?_,?_,?_,?_⟩
 ·rw[c7x,c6T,c6Z,← f1];grind
 ·rw[c7x,c7X,c6T,c6T,← f1,← f3,← e1,← e2];grind
 ·rw[c7x,c6T,c6Z,← f3];grind
 ·rw[c7x,c7X,c6T,c6T,← f1,← f3,← e3,← e4];grind
theorem b7Y{A Z q:Rat}(hz:Z≠0)(hq:q≠0):A / Z=A*q / (Z*q):=by grind
theorem b6W{t x f a b:Rat}{S:Nat}(ht:sz t≤231)(h:CD S x f a b)(t1:-2<t)(t2:t<2):(G8 t x f).num.natAbs<2 ^ (2*S+480):=by
 obtain⟨X,F,_,_,D0,h0,_,⟨h1,h2,_,_⟩,e1,e2,_,_⟩:=h.ex
 have td:=t9 t ht
 have tn:=u9 t ht
 have td':(t.den:Int).natAbs<2 ^ 231:=by rw[c6N];exact td
 have e:=A0 t
 have h4:=b0J t1 t2
 have d0:(t.den:Rat)≠0:=by intro z;exact t.den_nz (by exact_mod_cast z)
 have D0n:(D0:Rat)≠0:=by intro z;exact h0 (by exact_mod_cast z)
 have key:G8 t x f=c7u (4*((t.den:Int)*((t.den:Int)*(X*X+F*F) - t.num*(X*F)))) ((4*((t.den:Int)*(t.den:Int)) - t.num*t.num)*((D0:Int)*(D0:Int))):=by
  rw[c7M]
  simp only[c6T,c8l,c7X,c6Z]
  rw[← e1,← e2,← e,show((4:Int):Rat)=4 from rfl]
  unfold G8
  generalize (t.den:Rat)=n at *
  generalize (D0:Rat)=w at *
  have hz:4 - t*t≠0:=fun z=>by rw[z]at h4;exact absurd h4 (by decide)
  rw[show 4*(n*(n*(x*w*(x*w)+f*w*(f*w)) - t*n*(x*w*(f*w))))=(4*(x*x - t*(x*f)+f*f))*((n*n)*(w*w))by grind,show(4*(n*n) - t*n*(t*n))*(w*w)=(4 - t*t)*((n*n)*(w*w))by grind]
  have nz:n*n*(w*w)≠0:=by grind
  exact b7Y hz nz
 rw[key]
 refine c7c (RM.b4r _ _) ?_
 have xx:=e7 h1 h1
 have ff:=e7 h2 h2
 have xf:=e7 h1 h2
 have s1:=e7 td' (y8 xx ff)
 have s2:=e7 tn xf
 have s3:=e7 td' (V8 s1 (p9 s2 (show 231+(S+S)≤231+(S+S+1)by omega)))
 exact p9 (e7 (show(4:Int).natAbs<2 ^ 3 by decide) s3) (by omega)
theorem b4v{near far:Rat}{bs:List (Str × Rat)}(hw:F3 near bs far){y u:Rat}(cd:CD 1000 y 0 u 0){l:Rat × Rat × Rat}(hl:l∈C2 (d8 near bs far) (d8 near bs far).length)(t1:-2<trQ (tbQ (d8 near bs far)))(t2:trQ (tbQ (d8 near bs far))<2) :
  (G8 (trQ (tbQ (d8 near bs far))) (l.1*y+l.2.1*u) (l.1*(g7 (d8 near bs far) (y,u)).1+l.2.1*(g7 (d8 near bs far) (y,u)).2)).num.natAbs<2 ^ 3500:=by
 have cL:=hw.cd (d8 near bs far).length
 rw[c7t]at cL
 have zt:sz (trQ (tbQ (d8 near bs far)))≤231:=CD.tr cL
 obtain⟨j,px,hj,hpx,el⟩:=Q3 _ l hl
 have c:=CD.mul (k:=(y,(g7 (d8 near bs far) (y,u)).1,u,(g7 (d8 near bs far) (y,u)).2)) (hw.cd j) (b3R cL cd)
 have n:=b6W zt c t1 t2
 rw[el]
 exact p9 n (by omega)
theorem b2g{ds:List D}{n:Nat}:Y4 ds (some (n:Int)) none=ds.drop n:=by
 unfold Y4
 rw[HT.b6T,HT.b3I]
 by_cases h:n≤ds.length
 ·rw[Nat.min_eq_left h,c7W (by rw[c8e];omega)]
 ·rw[Nat.min_eq_right (by omega),c9r (by omega),c9r (by omega),List.take_nil]
theorem b5o{bs:List (Str × Rat)}{k:Nat}(h:k<bs.length)(x:Str × Rat):Y4 (bs.map i0) none (some (k:Int))++[i0 x]++Y4 (bs.map i0) (some ((k:Int)+1)) none=(bs.set k x).map i0:=by
 rw[b5n,show(k:Int)+1=((k+1:Nat):Int)by omega,b2g,List.set_eq_take_append_cons_drop,if_pos h,c7d,c7I,c9g,List.map_drop,List.append_assoc]
 rfl
theorem c3T:a8V 10 9:=⟨by decide,by decide,by decide⟩
def erS(x:Str × Rat):Str × Rat:=if x.1 = "stop" then(Str.ofString "stop",0)else x
theorem c0v(x:Str × Rat)(y u:Rat):B3 (erS x) y u=B3 x y u:=by
 unfold erS
 split
 ·rename_i h
  obtain⟨w,q⟩:=x
  have h:w=Str.ofString "stop" := h
  subst h
  unfold B3
  rfl
 ·rfl
theorem a6G(xs:List (Str × Rat)):∀ r:Rat × Rat,g7 (xs.map erS) r=g7 xs r:=by
 induction xs with
 | nil=>intro r;rfl
 | cons x xs ih =>
  intro r
  show g7 (xs.map erS) (B3 (erS x) r.1 r.2)=g7 xs (B3 x r.1 r.2)
  rw[c0v,ih]
theorem c1F{xs ys:List (Str × Rat)}(h:xs.map erS=ys.map erS):tbQ xs=tbQ ys:=by
 unfold tbQ
 rw[← a6G xs,← a6G xs,← a6G ys,← a6G ys,h]
theorem b7N(near far:Rat){bs cs:List (Str × Rat)}(h:bs.map erS=cs.map erS):(d8 near bs far).map erS=(d8 near cs far).map erS:=by
 unfold d8
 simp only[c7d,c8J,h]
theorem B8.set{near far:Rat}{bs:List (Str × Rat)}(h:B8 near bs far){at':Nat}{q0 q:Rat}(hat:bs[at']? = some (Str.ofString "stop",q0))(hq:0<q)(hz:sz q≤3000):F3 near (bs.set at' (Str.ofString "stop",q)) far:=by
 have hl:=(c6P.mp hat).1
 have hm:(bs.set at' (Str.ofString "stop",q)).map erS=bs.map erS:=by
  apply List.ext_getElem?
  intro i
  rw[c6Y,c6Y,c9X]
  by_cases e:at'=i
  ·subst e
   rw[if_pos rfl,if_pos hl,hat];rfl
  ·rw[if_neg e]
 refine⟨fun i=>?_,fun x hx=>?_,by rw[c9s];exact h.len,fun x hx=>?_⟩
 ·rw[c1F (ys:=(d8 near bs far).take i) (by rw[c9g,c9g,b7N near far hm])]
  exact h.cd i
 ·have inb:∀ x∈bs.set at' (Str.ofString "stop",q),sz x.2≤3000:=fun x hx=>by
   rcases c85 hx with hx|rfl
   ·exact c6V (h.part x hx).1 (by decide)
   ·exact hz
  unfold d8 at hx
  rcases c7i.mp hx with hx|hx
  ·rcases c7i.mp hx with hx|hx
   ·rcases c7i.mp hx with hx|hx
    ·exact inb x hx
    ·rw[c7a.mp hx];exact c6V h.zf (by decide)
   ·exact inb x (c75.mp hx)
  ·rw[c7a.mp hx];exact c6V h.zn (by decide)
 ·rcases c85 hx with hx|rfl
  ·exact h.w.part x hx
  ·exact .inr ⟨rfl,hq⟩
local macro_rules|`(tactic| walk_at "inj")=>`(tactic| (rename_i e h;simp only[List.cons.injEq,and_true,true_and,GM.j9,GM.j3,GM.i3,GM.j4,GM.i4,D.tup.injEq,D.ref.injEq,D.int.injEq,D.str.injEq,D.bl.injEq,D.vl.injEq,c7g,and_assoc]at e;(repeat(obtain⟨e1,e⟩:=e;subst e1));subst e;exact h))
local macro_rules|`(tactic| walk_at "injs")=>`(tactic| (rename_i e o h;rcases o with o|o<;>(subst o;first|(exfalso;simp only[D.tup.injEq,List.cons.injEq,reduceCtorEq,false_and,and_false]at e;done)|(simp only[List.cons.injEq,and_true,true_and,GM.j9,GM.j3,GM.i3,GM.j4,GM.i4,D.tup.injEq,D.ref.injEq,D.int.injEq,D.str.injEq,D.bl.injEq,D.vl.injEq,c7g,and_assoc]at e;(repeat(obtain⟨e1,e⟩:=e;subst e1));subst e;exact h))))
abbrev a2E(bs:List (Str × Rat))(M:Mem)(R:DK)(Y:DXK):Prop:=(((∀ x∈bs,sz x.2≤3000)∧bs.length≤40)∧∀ i,CDQ 230 (tbQ (bs.take i)))∧R (E7 (tbQ bs)) M
def b3F:DSp:=fun ds M R Y=>∃(bs:List (Str × Rat)),ds=[.vl (bs.map i0)]∧a2E bs M R Y
theorem a97{bs:List (Str × Rat)}{M:Mem}{R:DK}{Y:DXK}:b3F [.vl (bs.map i0)] M R Y=(a2E bs M R Y):=propext ⟨fun z=>by obtain⟨_,_,_⟩:=z;walk_at "inj",fun h=>⟨bs,rfl,h⟩⟩
abbrev a1b(near:Rat)(bs:List (Str × Rat))(far:Rat)(M:Mem)(R:DK)(Y:DXK):Prop:=F3 near bs far∧R (E7 (tbQ (d8 near bs far))) M
def a0t:DSp:=fun ds M R Y=>∃(x0:D) (near:Rat) (bs:List (Str × Rat)) (far:Rat),ds=[.tup [d9 near,x0,d9 far]]∧(x0 = .vl (bs.map i0)∨x0 = .tup (bs.map i0))∧a1b near bs far M R Y
theorem a98{near:Rat}{bs:List (Str × Rat)}{far:Rat}{M:Mem}{R:DK}{Y:DXK}:a0t [.tup [d9 near,.vl (bs.map i0),d9 far]] M R Y=(a1b near bs far M R Y):=propext ⟨fun z=>by obtain⟨_,_,_,_,_,_,_⟩:=z;walk_at "injs",fun h=>⟨_,near,bs,far,rfl,.inl rfl,h⟩⟩
theorem a41{near:Rat}{bs:List (Str × Rat)}{far:Rat}{M:Mem}{R:DK}{Y:DXK}:a0t [.tup [d9 near,.tup (bs.map i0),d9 far]] M R Y=(a1b near bs far M R Y):=propext ⟨fun z=>by obtain⟨_,_,_,_,_,_,_⟩:=z;walk_at "injs",fun h=>⟨_,near,bs,far,rfl,.inr rfl,h⟩⟩
abbrev a0c(bs:List (Str × Rat))(M:Mem)(R:DK)(Y:DXK):Prop:=(((∀ x∈bs,sz x.2≤3000)∧bs.length≤40)∧∀ i,CDQ 230 (tbQ (bs.take i)))∧R (.vl ((C2 bs bs.length).map o8)) M
def a6s:DSp:=fun ds M R Y=>∃(bs:List (Str × Rat)),ds=[.vl (bs.map i0)]∧a0c bs M R Y
theorem a45{bs:List (Str × Rat)}{M:Mem}{R:DK}{Y:DXK}:a6s [.vl (bs.map i0)] M R Y=(a0c bs M R Y):=propext ⟨fun z=>by obtain⟨_,_,_⟩:=z;walk_at "inj",fun h=>⟨bs,rfl,h⟩⟩
abbrev M6(near:Rat)(bs:List (Str × Rat))(far:Rat)(M:Mem)(R:DK)(Y:DXK):Prop:=F3 near bs far∧∀ p,M p=none→R (.ref p) (C1 M p (.lst (hlN (g9 near bs far) (g9 near bs far).length)))
def M7:DSp:=fun ds M R Y=>∃(x0:D) (near:Rat) (bs:List (Str × Rat)) (far:Rat),ds=[.tup [d9 near,x0,d9 far]]∧(x0 = .vl (bs.map i0)∨x0 = .tup (bs.map i0))∧M6 near bs far M R Y
theorem a2X{near:Rat}{bs:List (Str × Rat)}{far:Rat}{M:Mem}{R:DK}{Y:DXK}:M7 [.tup [d9 near,.vl (bs.map i0),d9 far]] M R Y=(M6 near bs far M R Y):=propext ⟨fun z=>by obtain⟨_,_,_,_,_,_,_⟩:=z;walk_at "injs",fun h=>⟨_,near,bs,far,rfl,.inl rfl,h⟩⟩
theorem a01{near:Rat}{bs:List (Str × Rat)}{far:Rat}{M:Mem}{R:DK}{Y:DXK}:M7 [.tup [d9 near,.tup (bs.map i0),d9 far]] M R Y=(M6 near bs far M R Y):=propext ⟨fun z=>by obtain⟨_,_,_,_,_,_,_⟩:=z;walk_at "injs",fun h=>⟨_,near,bs,far,rfl,.inr rfl,h⟩⟩
abbrev a1j(q:Rat)(T B:Int)(M:Mem)(R:DK)(Y:DXK):Prop:=(0<B∧sz q≤9000∧B.natAbs<2 ^ 9000∧T.natAbs<2 ^ 20000)∧R (.bl (decide (q<c7u T B))) M
def a3E:DSp:=fun ds M R Y=>∃(q:Rat) (T B:Int),ds=[d9 q,.tup [.int T,.int B]]∧a1j q T B M R Y
theorem a7u{q:Rat}{T B:Int}{M:Mem}{R:DK}{Y:DXK}:a3E [d9 q,.tup [.int T,.int B]] M R Y=(a1j q T B M R Y):=propext ⟨fun z=>by obtain⟨_,_,_,_,_⟩:=z;walk_at "inj",fun h=>⟨q,T,B,rfl,h⟩⟩
abbrev Z3(N:Nat)(M:Mem)(R:DK)(Y:DXK):Prop:=N<2 ^ 20000∧∀ a:Nat,a*a≤N→N<(a+1)*(a+1)→R (.int (a:Int)) M
def a6e:DSp:=fun ds M R Y=>∃(N:Nat),ds=[.int (N:Int)]∧Z3 N M R Y
theorem a4U{N:Nat}{M:Mem}{R:DK}{Y:DXK}:a6e [.int (N:Int)] M R Y=(Z3 N M R Y):=propext ⟨fun z=>by obtain⟨_,_,_⟩:=z;walk_at "inj",fun h=>⟨N,rfl,h⟩⟩
abbrev Z8(y u g:Rat)(M:Mem)(R:DK)(Y:DXK):Prop:=(sz y+sz g≤8900∧sz u+sz g≤8900)∧R (A1 (y*g) (u*g)) M
def a2G:DSp:=fun ds M R Y=>∃(y u g:Rat),ds=[A1 y u,d9 g]∧Z8 y u g M R Y
theorem a4Z{y u g:Rat}{M:Mem}{R:DK}{Y:DXK}:a2G [A1 y u,d9 g] M R Y=(Z8 y u g M R Y):=propext ⟨fun z=>by obtain⟨_,_,_,_,_⟩:=z;walk_at "inj",fun h=>⟨y,u,g,rfl,h⟩⟩
abbrev a0g(near:Rat)(bs:List (Str × Rat))(far:Rat)(b:Bool)(M:Mem)(R:DK)(Y:DXK):Prop:=B8 near bs far∧∀(y u:Rat),(sz y≤463∧sz u≤463∧sz y+sz u≤700)→R (A1 y u) M
def a6z:DSp:=fun ds M R Y=>∃(near:Rat) (bs:List (Str × Rat)) (far:Rat) (b:Bool),ds=[.tup [d9 near,.vl (bs.map i0),d9 far],.bl b]∧a0g near bs far b M R Y
theorem a5a{near:Rat}{bs:List (Str × Rat)}{far:Rat}{b:Bool}{M:Mem}{R:DK}{Y:DXK}:a6z [.tup [d9 near,.vl (bs.map i0),d9 far],.bl b] M R Y=(a0g near bs far b M R Y):=propext ⟨fun z=>by obtain⟨_,_,_,_,_,_⟩:=z;walk_at "inj",fun h=>⟨near,bs,far,b,rfl,h⟩⟩
abbrev a1d(p:Addr)(x y:D)(M:Mem)(R:DK)(Y:DXK):Prop:=D9 M p∧∃(ts bs:List Int) (P:Rat→Prop),x = .vl (ts.map D.int)∧y = .vl (bs.map D.int)∧((0<ts.length∧ts.length≤100)∧(0<bs.length∧bs.length≤100)∧(∀ b∈bs,0<b∧b.natAbs<2 ^ 133)∧∀ t∈ts,∀ b∈bs,P (c7u t b))∧∀(q:Rat) M',P q→v7 p M M'→R (d9 q) M'
def a9l:DSp:=fun ds M R Y=>∃(p:Addr) (x y:D),ds=[.ref p,x,y]∧a1d p x y M R Y
theorem a7o{p:Addr}{x y:D}{M:Mem}{R:DK}{Y:DXK}:a9l [.ref p,x,y] M R Y=(a1d p x y M R Y):=propext ⟨fun z=>by obtain⟨_,_,_,_,_⟩:=z;walk_at "inj",fun h=>⟨p,x,y,rfl,h⟩⟩
abbrev a2I(p:Addr)(near:Rat)(bs:List (Str × Rat))(far:Rat)(M:Mem)(R:DK)(Y:DXK):Prop:=D9 M p∧B8 near bs far∧∀(y u:Rat) M',CD 1000 y 0 u 0→v7 p M M'→R (A1 y u) M'
def b3H:DSp:=fun ds M R Y=>∃(p:Addr) (near:Rat) (bs:List (Str × Rat)) (far:Rat),ds=[.ref p,.tup [d9 near,.vl (bs.map i0),d9 far]]∧a2I p near bs far M R Y
theorem b0a{p:Addr}{near:Rat}{bs:List (Str × Rat)}{far:Rat}{M:Mem}{R:DK}{Y:DXK}:b3H [.ref p,.tup [d9 near,.vl (bs.map i0),d9 far]] M R Y=(a2I p near bs far M R Y):=propext ⟨fun z=>by obtain⟨_,_,_,_,_,_⟩:=z;walk_at "inj",fun h=>⟨p,near,bs,far,rfl,h⟩⟩
abbrev Q5(near:Rat)(bs:List (Str × Rat))(far:Rat)(y u p q:Rat)(M:Mem)(R:DK)(Y:DXK):Prop:=(F3 near bs far∧CD 1000 y 0 u 0∧(sz p≤230∧sz q≤230)∧sz (p*y+q*u)≤1231∧sz (p*(g7 (d8 near bs far) (y,u)).1+q*(g7 (d8 near bs far) (y,u)).2)≤1462∧-2<trQ (tbQ (d8 near bs far))∧trQ (tbQ (d8 near bs far))<2)∧R (d9 (G8 (trQ (tbQ (d8 near bs far))) (p*y+q*u) (p*(g7 (d8 near bs far) (y,u)).1+q*(g7 (d8 near bs far) (y,u)).2))) M
def a1c:DSp:=fun ds M R Y=>∃(x0:D) (near:Rat) (bs:List (Str × Rat)) (far:Rat) (y u p q:Rat),ds=[.tup [d9 near,x0,d9 far],A1 y u,d9 p,d9 q]∧(x0 = .vl (bs.map i0)∨x0 = .tup (bs.map i0))∧Q5 near bs far y u p q M R Y
theorem a42{near:Rat}{bs:List (Str × Rat)}{far:Rat}{y u p q:Rat}{M:Mem}{R:DK}{Y:DXK}:a1c [.tup [d9 near,.vl (bs.map i0),d9 far],A1 y u,d9 p,d9 q] M R Y=(Q5 near bs far y u p q M R Y):=propext ⟨fun z=>by obtain⟨_,_,_,_,_,_,_,_,_,_,_⟩:=z;walk_at "injs",fun h=>⟨_,near,bs,far,y,u,p,q,rfl,.inl rfl,h⟩⟩
theorem a2a{near:Rat}{bs:List (Str × Rat)}{far:Rat}{y u p q:Rat}{M:Mem}{R:DK}{Y:DXK}:a1c [.tup [d9 near,.tup (bs.map i0),d9 far],A1 y u,d9 p,d9 q] M R Y=(Q5 near bs far y u p q M R Y):=propext ⟨fun z=>by obtain⟨_,_,_,_,_,_,_,_,_,_,_⟩:=z;walk_at "injs",fun h=>⟨_,near,bs,far,y,u,p,q,rfl,.inr rfl,h⟩⟩
abbrev a07(p:Addr)(near:Rat)(bs:List (Str × Rat))(far:Rat)(y u:Rat)(M:Mem)(R:DK)(Y:DXK):Prop:=D9 M p∧(B8 near bs far∧bs.length≤7∧CD 1000 y 0 u 0)∧∀(bs':List (Str × Rat)) M',F3 near bs' far→v7 p M M'→R (.tup [d9 near,.vl (bs'.map i0),d9 far]) M'
def a9h:DSp:=fun ds M R Y=>∃(p:Addr) (near:Rat) (bs:List (Str × Rat)) (far:Rat) (y u:Rat),ds=[.ref p,.tup [d9 near,.vl (bs.map i0),d9 far],A1 y u]∧a07 p near bs far y u M R Y
theorem a7k{p:Addr}{near:Rat}{bs:List (Str × Rat)}{far:Rat}{y u:Rat}{M:Mem}{R:DK}{Y:DXK}:a9h [.ref p,.tup [d9 near,.vl (bs.map i0),d9 far],A1 y u] M R Y=(a07 p near bs far y u M R Y):=propext ⟨fun z=>by obtain⟨_,_,_,_,_,_,_,_⟩:=z;walk_at "inj",fun h=>⟨p,near,bs,far,y,u,rfl,h⟩⟩
end GM
namespace DL
open PySem PySem.Spec L2
theorem b5p{e0:Ev}{g:DTG}{te:DTE}{ds:List D}{stay:Mem→Prop}{M1:Mem}{E:List D→Mem→Prop}{β:Type}(out:β→D)(Rl:Nat→β→Prop)(hn:ds.length≤1000)(hst:stay M1)
  (step:∀ i d,ds[i]? = some d→∀ Q:DK,(∀ b,Rl i b→Q (out b) M1)→g d e0 M1 fun e2 M2=>te e2 M2 Q) (h:∀ bs:List β,bs.length=ds.length→(∀ i b,bs[i]? = some b→Rl i b)→E (bs.map out) M1):∃ W,a5S e0 g b7Z te ds stay M1 E W:=by
 refine⟨fun i ys M=>M=M1∧∃ bs:List β,bs.length=i∧(∀ j b,bs[j]? = some b→Rl j b)∧ys=bs.map out,⟨⟨rfl,[],rfl,(fun j b z=>by simp at z),rfl⟩,fun i ys M _ w=>by rw[w.1];exact hst,fun i d ys M hd w=>?_,fun ys M w=>?_⟩⟩
 ·obtain⟨rfl,bs,hl,hok,rfl⟩:=w
  have hi:i<ds.length:=(c6P.mp hd).1
  refine step i d hd _ fun b hb=>⟨?_,rfl,bs++[b],by simp[hl],fun j c hc=>?_,by simp⟩
  ·rw[c6Q,hl];exact c6R (c6R hi hn) (show 1000≤sizeLine by decide)
  ·rcases c77 j bs.length with z|z
   ·rw[c8q z]at hc;exact hok j c hc
   ·rw[c8o z]at hc
    have hj:j - bs.length=0:=by
     have:=(c6P.mp hc).1
     simp at this;omega
    rw[hj]at hc
    have e:b=c:=by simpa using hc
    have ej:j=i:=by omega
    rw[ej,← e];exact hb
 ·obtain⟨rfl,bs,hl,hok,rfl⟩:=w
  exact h bs hl hok
end DL
namespace GM
open PySem PySem.Spec L2 DL
open RM (sz)
def stQ(t:Rat)(p:Rat × Rat):Nat→Rat × Rat
 | 0=>p
 | n+1=>((stQ t p n).2,t*(stQ t p n).2 - (stQ t p n).1)
def B9(t:Rat)(l:Rat × Rat × Rat)(n:Nat):Prop:=l.2.2<e9 (stQ t (l.1,l.2.1) n).1
instance c3a(t:Rat)(l:Rat × Rat × Rat)(n:Nat):Decidable (B9 t l n):=by unfold B9;infer_instance
def A8(t:Rat)(ls:List (Rat × Rat × Rat))(k n:Nat):Bool:=match ls[k]? with|some l=>decide (B9 t l n)|none=>false
def L9(t:Rat)(ls:List (Rat × Rat × Rat))(ws:List Nat)(N:Nat):Option (Nat × Nat) :=
 match (c7K N).find? fun n=>ws.any fun k=>A8 t ls k n with
 | none=>none
 | some n=>(ws.find? fun k=>A8 t ls k n).map fun k=>(n,k)
theorem a3l{t:Rat}{ls:List (Rat × Rat × Rat)}{ws:List Nat}{N:Nat}(h:∀ n,n<N→∀ k∈ws,A8 t ls k n=false):L9 t ls ws N=none:=by
 unfold L9
 rw[c8y.mpr fun n hn=>?_]
 rw[c8L,c8m]
 exact fun k hk=>by rw[h n (c71.mp hn) k hk];decide
theorem a83{t:Rat}{ls:List (Rat × Rat × Rat)}{ws:List Nat}{N n i k:Nat}(hn:n<N)(hi:ws[i]? = some k)(hb:A8 t ls k n=true)(h1:∀ j,j<n→∀ k∈ws,A8 t ls k j=false)
  (h2:∀ j,j<i→∀ k',ws[j]? = some k'→A8 t ls k' n=false):L9 t ls ws N=some (n,k):=by
 unfold L9
 have hk:=c6S hi
 have e:(c7K N).find? (fun n=>ws.any fun k=>A8 t ls k n)=some n:=by
  rw[c88]
  refine⟨d0a.mpr ⟨k,hk,hb⟩,c71.mpr hn,fun j hj=>?_⟩
  have:(ws.any fun k=>A8 t ls k j)=false:=c8m.mpr fun k hk=>by rw[h1 j hj k hk];decide
  rw[this];rfl
 rw[e]
 have hl:=(c6P.mp hi).1
 have e2:ws.find? (fun k=>A8 t ls k n)=some k:=by
  rw[c8G]
  refine⟨hb,i,hl,(c6P.mp hi).2,fun j hj=>?_⟩
  rw[h2 j hj _ (c7e (Nat.lt_trans hj hl))];rfl
 show(ws.find? fun k=>A8 t ls k n).map (fun k=>(n,k))=_
 rw[e2];rfl
def a3m:Option (Nat × Nat)→D
 | none=>.non
 | some z=>.tup [.int (z.1:Int),.int (z.2:Int)]
theorem b1r(a:Int):e9 (a:Rat)=((a.natAbs:Nat):Rat):=by
 rw[← c6Z]
 unfold e9
 split
 ·rename_i h
  have h:0≤a:=by exact_mod_cast h
  rw[show((a.natAbs:Nat):Int)=a by omega]
 ·rename_i h
  have h:¬ 0≤a:=fun z=>h (by exact_mod_cast z)
  rw[show((a.natAbs:Nat):Int) = -a by omega,c9v]
structure a8R(t:Rat)(l:Rat × Rat × Rat)(n:Nat)(s:Int × Int × Int):Prop where
 ex:∃ W:Nat,0<W∧(s.1:Rat)=(stQ t (l.1,l.2.1) n).1*(W:Rat)∧(s.2.1:Rat)=(stQ t (l.1,l.2.1) n).2*((W:Rat)*(t.den:Rat))∧(s.2.2:Rat)=l.2.2*(W:Rat)
 b1:s.1.natAbs<2 ^ (12000+470*n)
 b2:s.2.1.natAbs<2 ^ (12000+470*n)
 b3:s.2.2.natAbs<2 ^ (12000+470*n)
def stD(s:Int × Int × Int):D:=.tup [.int s.1,.int s.2.1,.int s.2.2]
theorem a8R.bey{t:Rat}{l:Rat × Rat × Rat}{n:Nat}{s:Int × Int × Int}(h:a8R t l n s):(s.2.2<(s.1.natAbs:Int))↔B9 t l n:=by
 obtain⟨W,W0,e1,_,e3⟩:=h.ex
 have W0:(0:Rat)<(W:Rat):=by exact_mod_cast W0
 unfold B9
 have e4:=b1r s.1
 rw[e1,N5,show e9 (W:Rat)=(W:Rat)by unfold e9;rw[if_pos (by grind)]]at e4
 generalize (stQ t (l.1,l.2.1) n).1=x at *
 have c:(s.2.2<(s.1.natAbs:Int))↔((s.2.2:Rat)<((s.1.natAbs:Nat):Rat)):=by
  rw[← c6Z,c9q]
 rw[c,e3,← e4]
 generalize e9 x=a at *
 constructor
 ·intro z
  apply c68
  intro nz
  have:=c7m (a:=l.2.2 - a) (b:=(W:Rat)) (by grind) (by grind)
  grind
 ·intro z
  have:=c7J (a:=a - l.2.2) (b:=(W:Rat)) (by grind) W0
  grind
theorem a8R.next{t:Rat}{l:Rat × Rat × Rat}{n:Nat}{s:Int × Int × Int}(ht:sz t≤231)(h:a8R t l n s):a8R t l (n+1) (s.2.1,t.num*s.2.1 - (t.den:Int)*(t.den:Int)*s.1,s.2.2*(t.den:Int)):=by
 obtain⟨W,W0,e1,e2,e3⟩:=h.ex
 have td:=t9 t ht
 have tn:=u9 t ht
 have td':(t.den:Int).natAbs<2 ^ 231:=by rw[c6N];exact td
 have e:=A0 t
 refine⟨⟨W*t.den,c9h W0 t.den_pos,?_,?_,?_⟩,?_,?_,?_⟩
 ·show(s.2.1:Rat)=(stQ t (l.1,l.2.1) n).2*((W*t.den:Nat):Rat)
  rw[e2,c7x]
 ·show((t.num*s.2.1 - (t.den:Int)*(t.den:Int)*s.1:Int):Rat)=(t*(stQ t (l.1,l.2.1) n).2 - (stQ t (l.1,l.2.1) n).1)*(((W*t.den:Nat):Rat)*(t.den:Rat))
  rw[c8l,c6T,c6T,c6T,c6Z,e1,e2,← e,c7x]
  grind
 ·show((s.2.2*(t.den:Int):Int):Rat)=l.2.2*((W*t.den:Nat):Rat)
  rw[c6T,e3,c6Z,c7x]
  grind
 ·exact p9 h.b2 (by omega)
 ·have m1:=e7 tn h.b2
  have m2:=e7 (e7 td' td') h.b1
  exact p9 (V8 (p9 m1 (show _≤462+(12000+470*n)by omega)) (p9 m2 (by omega))) (by omega)
 ·exact p9 (e7 h.b3 td') (by omega)
def szs(qs:List Rat):Nat:=(qs.map sz).sum
theorem a2z{qs:List Rat}{q:Rat}(h:q∈qs):sz q≤szs qs:=by
 induction qs with
 | nil=>cases h
 | cons a r ih =>
  show sz q≤sz a+szs r
  rcases c7h.mp h with rfl|h
  ·omega
  ·have:=ih h;omega
theorem b3v{qs:List Rat}{i:Nat}{q:Rat}(h:qs[i]? = some q):szs (qs.take (i+1))=szs (qs.take i)+sz q:=by
 rw[c73,h]
 unfold szs
 rw[c7d,List.sum_append];rfl
theorem b9H(qs:List Rat)(i:Nat):szs (qs.take i)≤szs qs:=by
 have h:=congrArg szs (c8E i qs)
 unfold szs at h ⊢
 rw[c7d,List.sum_append]at h
 omega
local macro_rules|`(tactic| walk_at "inj")=>`(tactic| (rename_i e h;simp only[List.cons.injEq,and_true,true_and,GM.j9,GM.j3,GM.i3,GM.j4,GM.i4,D.tup.injEq,D.ref.injEq,D.int.injEq,D.str.injEq,D.bl.injEq,D.vl.injEq,c7g,and_assoc]at e;(repeat(obtain⟨e1,e⟩:=e;subst e1));subst e;exact h))
local macro_rules|`(tactic| walk_at "injs")=>`(tactic| (rename_i e o h;rcases o with o|o<;>(subst o;first|(exfalso;simp only[D.tup.injEq,List.cons.injEq,reduceCtorEq,false_and,and_false]at e;done)|(simp only[List.cons.injEq,and_true,true_and,GM.j9,GM.j3,GM.i3,GM.j4,GM.i4,D.tup.injEq,D.ref.injEq,D.int.injEq,D.str.injEq,D.bl.injEq,D.vl.injEq,c7g,and_assoc]at e;(repeat(obtain⟨e1,e⟩:=e;subst e1));subst e;exact h))))
abbrev a6y(x:D)(M:Mem)(R:DK)(Y:DXK):Prop:=∃ qs:List Rat,(x = .tup (qs.map d9)∨x = .vl (qs.map d9))∧szs qs≤8500∧∀ B:Nat,0<B→B≤2 ^ szs qs→(∀ q∈qs,q.den ∣ B)→B ∣ (qs.map fun q:Rat=>q.den).prod→R (.int (B:Int)) M
def b3J:DSp:=fun ds M R Y=>∃(x:D),ds=[x]∧a6y x M R Y
theorem b2w{x:D}{M:Mem}{R:DK}{Y:DXK}:b3J [x] M R Y=(a6y x M R Y):=propext ⟨fun z=>by obtain⟨_,_,_⟩:=z;walk_at "inj",fun h=>⟨x,rfl,h⟩⟩
abbrev a6i(x:D)(b:Nat)(M:Mem)(R:DK)(Y:DXK):Prop:=∃ qs:List Rat,(x = .tup (qs.map d9)∨x = .vl (qs.map d9))∧(qs.length≤1000∧b≤2 ^ 8500∧0<b∧(∀ q∈qs,q.den ∣ b∧sz q≤8900))∧R (.vl (qs.map fun q=>.int (q.num*(b:Int).fdiv (q.den:Int)))) M
def b3G:DSp:=fun ds M R Y=>∃(x:D) (b:Nat),ds=[x,.int (b:Int)]∧a6i x b M R Y
theorem b2r{x:D}{b:Nat}{M:Mem}{R:DK}{Y:DXK}:b3G [x,.int (b:Int)] M R Y=(a6i x b M R Y):=propext ⟨fun z=>by obtain⟨_,_,_,_⟩:=z;walk_at "inj",fun h=>⟨x,b,rfl,h⟩⟩
abbrev T8(t x f r:Rat)(M:Mem)(R:DK)(Y:DXK):Prop:=(sz t≤231∧sz x+sz f+sz r≤8400∧sz x≤3000∧sz f≤3000∧sz r≤3000)∧∀ s:Int × Int × Int,a8R t (x,f,r) 0 s→R (stD s) M
def a3F:DSp:=fun ds M R Y=>∃(t x f r:Rat),ds=[d9 t,d9 x,d9 f,d9 r]∧T8 t x f r M R Y
theorem a2Y{t x f r:Rat}{M:Mem}{R:DK}{Y:DXK}:a3F [d9 t,d9 x,d9 f,d9 r] M R Y=(T8 t x f r M R Y):=propext ⟨fun z=>by obtain⟨_,_,_,_,_,_⟩:=z;walk_at "inj",fun h=>⟨t,x,f,r,rfl,h⟩⟩
abbrev a0b(t:Rat)(x:D)(M:Mem)(R:DK)(Y:DXK):Prop:=∃ s:Int × Int × Int,x=stD s∧(sz t≤231∧∃ k,s.1.natAbs<2 ^ k∧s.2.1.natAbs<2 ^ k∧s.2.2.natAbs<2 ^ k∧k≤60000)∧R (stD (s.2.1,t.num*s.2.1 - (t.den:Int)*(t.den:Int)*s.1,s.2.2*(t.den:Int))) M
def a6r:DSp:=fun ds M R Y=>∃(t:Rat) (x:D),ds=[d9 t,x]∧a0b t x M R Y
theorem a44{t:Rat}{x:D}{M:Mem}{R:DK}{Y:DXK}:a6r [d9 t,x] M R Y=(a0b t x M R Y):=propext ⟨fun z=>by obtain⟨_,_,_,_⟩:=z;walk_at "inj",fun h=>⟨t,x,rfl,h⟩⟩
theorem c0M{a b:Int}{q:Rat}(b0:0<b):c7u a b=q↔a*(q.den:Int)=q.num*b:=by
 have hB:(b:Rat)≠0:=by intro z;exact absurd (show b=0 by exact_mod_cast z) (by omega)
 have hd:(q.den:Rat)≠0:=by intro z;exact q.den_nz (by exact_mod_cast z)
 have e:=A0 q
 rw[c7M]
 have e1:(a*(q.den:Int)=q.num*b)↔((a:Rat)*(q.den:Rat)=(q.num:Rat)*(b:Rat)):=by
  rw[← c6T,← c6Z,← c6T,Rat.intCast_inj]
 rw[e1,← e]
 constructor
 ·intro h;rw[← h];grind
 ·intro h
  have:(a:Rat)=q*(b:Rat):=by grind
  rw[this];grind
abbrev a2K(a b:Int)(M:Mem)(R:DK)(Y:DXK):Prop:=(b≠0∧c7w a.natAbs b.natAbs<2 ^ 9000)∧R (d9 (c7u a b)) M
def b0O:DSp:=fun ds M R Y=>∃(a b:Int),ds=[.int a,.int b]∧a2K a b M R Y
theorem b0c{a b:Int}{M:Mem}{R:DK}{Y:DXK}:b0O [.int a,.int b] M R Y=(a2K a b M R Y):=propext ⟨fun z=>by obtain⟨_,_,_,_⟩:=z;walk_at "inj",fun h=>⟨a,b,rfl,h⟩⟩
abbrev Z4(q r:Rat)(M:Mem)(R:DK)(Y:DXK):Prop:=(sz q+sz r≤40000∧c7w (q.num*r.num).natAbs ((q.den:Int)*(r.den:Int)).natAbs<2 ^ 9000)∧R (d9 (q*r)) M
def a6h:DSp:=fun ds M R Y=>∃(q r:Rat),ds=[d9 q,d9 r]∧Z4 q r M R Y
theorem a4V{q r:Rat}{M:Mem}{R:DK}{Y:DXK}:a6h [d9 q,d9 r] M R Y=(Z4 q r M R Y):=propext ⟨fun z=>by obtain⟨_,_,_,_⟩:=z;walk_at "inj",fun h=>⟨q,r,rfl,h⟩⟩
abbrev a1e(q r:Rat)(M:Mem)(R:DK)(Y:DXK):Prop:=(sz q+sz r≤40000∧c7w (q.num*(r.den:Int)+r.num*(q.den:Int)).natAbs ((q.den:Int)*(r.den:Int)).natAbs<2 ^ 9000)∧R (d9 (q+r)) M
def a9m:DSp:=fun ds M R Y=>∃(q r:Rat),ds=[d9 q,d9 r]∧a1e q r M R Y
theorem a7p{q r:Rat}{M:Mem}{R:DK}{Y:DXK}:a9m [d9 q,d9 r] M R Y=(a1e q r M R Y):=propext ⟨fun z=>by obtain⟨_,_,_,_⟩:=z;walk_at "inj",fun h=>⟨q,r,rfl,h⟩⟩
abbrev a1l(x:D)(M:Mem)(R:DK)(Y:DXK):Prop:=((∃ q:Rat,x=d9 q∧R (.bl true) M) ∨ ∃ n:Int,x = .int n∧R (.bl false) M)
def a6v:DSp:=fun ds M R Y=>∃(x:D),ds=[x]∧a1l x M R Y
theorem a7x{x:D}{M:Mem}{R:DK}{Y:DXK}:a6v [x] M R Y=(a1l x M R Y):=propext ⟨fun z=>by obtain⟨_,_,_⟩:=z;walk_at "inj",fun h=>⟨x,rfl,h⟩⟩
abbrev Z2(x:D)(M:Mem)(R:DK)(Y:DXK):Prop:=((∃ q:Rat,x=d9 q∧R (.bl false) M) ∨ ∃ n:Int,x = .int n∧R (.bl true) M)
def a6d:DSp:=fun ds M R Y=>∃(x:D),ds=[x]∧Z2 x M R Y
theorem a4T{x:D}{M:Mem}{R:DK}{Y:DXK}:a6d [x] M R Y=(Z2 x M R Y):=propext ⟨fun z=>by obtain⟨_,_,_⟩:=z;walk_at "inj",fun h=>⟨x,rfl,h⟩⟩
abbrev a1a(a b:Int)(q:Rat)(M:Mem)(R:DK)(Y:DXK):Prop:=(0<b∧a.natAbs<2 ^ 20000∧b.natAbs<2 ^ 9000∧sz q≤9000)∧R (.bl (decide (c7u a b=q))) M
def a9j:DSp:=fun ds M R Y=>∃(a b:Int) (q:Rat),ds=[.tup [.int a,.int b],d9 q]∧a1a a b q M R Y
theorem a7m{a b:Int}{q:Rat}{M:Mem}{R:DK}{Y:DXK}:a9j [.tup [.int a,.int b],d9 q] M R Y=(a1a a b q M R Y):=propext ⟨fun z=>by obtain⟨_,_,_,_,_⟩:=z;walk_at "inj",fun h=>⟨a,b,q,rfl,h⟩⟩
abbrev Z5(t x f:Rat)(M:Mem)(R:DK)(Y:DXK):Prop:=(sz t≤231∧sz x+sz f≤4200)∧∀(T B:Int),0<B→B.natAbs<2 ^ 8402→T.natAbs<2 ^ 17100→(T:Rat)=t.den*(x*x - t*(x*f)+f*f)*B→R (.tup [.int T,.int B]) M
def a2F:DSp:=fun ds M R Y=>∃(t x f:Rat),ds=[d9 t,d9 x,d9 f]∧Z5 t x f M R Y
theorem a4W{t x f:Rat}{M:Mem}{R:DK}{Y:DXK}:a2F [d9 t,d9 x,d9 f] M R Y=(Z5 t x f M R Y):=propext ⟨fun z=>by obtain⟨_,_,_,_,_⟩:=z;walk_at "inj",fun h=>⟨t,x,f,rfl,h⟩⟩
abbrev a2H(t x f:Rat)(M:Mem)(R:DK)(Y:DXK):Prop:=(sz t≤231∧-2<t∧t<2∧sz x+sz f≤4200)∧∀(T B:Int),0<B→B.natAbs<2 ^ 8870→T.natAbs<2 ^ 17400→c7u T B=G8 t x f→R (.tup [.int T,.int B]) M
def a5x:DSp:=fun ds M R Y=>∃(t x f:Rat),ds=[d9 t,d9 x,d9 f]∧a2H t x f M R Y
theorem a99{t x f:Rat}{M:Mem}{R:DK}{Y:DXK}:a5x [d9 t,d9 x,d9 f] M R Y=(a2H t x f M R Y):=propext ⟨fun z=>by obtain⟨_,_,_,_,_⟩:=z;walk_at "inj",fun h=>⟨t,x,f,rfl,h⟩⟩
abbrev Z7(w:D)(t x f r:Rat)(M:Mem)(R:DK)(Y:DXK):Prop:=∃ m:Q4,w = .str (kwS m)∧t=trQ m∧(CDQ 230 m∧Y3 m=1∧sz x+sz f≤4200∧sz r≤3000∧0<r)∧R (.bl (u4 m x f r)) M
def a6m:DSp:=fun ds M R Y=>∃(w:D) (t x f r:Rat),ds=[w,d9 t,d9 x,d9 f,d9 r]∧Z7 w t x f r M R Y
theorem a4Y{w:D}{t x f r:Rat}{M:Mem}{R:DK}{Y:DXK}:a6m [w,d9 t,d9 x,d9 f,d9 r] M R Y=(Z7 w t x f r M R Y):=propext ⟨fun z=>by obtain⟨_,_,_,_,_,_,_⟩:=z;walk_at "inj",fun h=>⟨w,t,x,f,r,rfl,h⟩⟩
structure a16(l:Rat × Rat × Rat):Prop where
 xf:sz l.1+sz l.2.1≤4200
 x:sz l.1≤3000
 f:sz l.2.1≤3000
 r:sz l.2.2≤3000
 p:0<l.2.2
abbrev a08(t:Rat)(x y:D)(N:Nat)(M:Mem)(R:DK)(Y:DXK):Prop:=∃(ls:List (Rat × Rat × Rat)) (ws:List Nat),x = .vl (ls.map o8)∧y = .vl (ws.map fun k:Nat=>D.int (k:Int))∧(sz t≤231∧(ls.length≤40∧ws.length≤40)∧N≤60∧(∀ l∈ls,a16 l)∧∀ k∈ws,k<ls.length)∧R (a3m (L9 t ls ws N)) M
def a6j:DSp:=fun ds M R Y=>∃(t:Rat) (x y:D) (N:Nat),ds=[d9 t,x,y,.int (N:Int)]∧a08 t x y N M R Y
theorem V7{t:Rat}{x y:D}{N:Nat}{M:Mem}{R:DK}{Y:DXK}:a6j [d9 t,x,y,.int (N:Int)] M R Y=(a08 t x y N M R Y):=propext ⟨fun z=>by obtain⟨_,_,_,_,_,_⟩:=z;walk_at "inj",fun h=>⟨t,x,y,N,rfl,h⟩⟩
inductive En where
 | one (w:Str)
 | int (w:Str) (n:Int)
 | rat (w:Str) (q:Rat)
def enD:En→D
 | .one w=>.tup [.str w]
 | .int w n=>.tup [.str w,.int n]
 | .rat w q=>.tup [.str w,d9 q]
def V2(m:Q4)(l:Rat × Rat × Rat):En→Prop
 | .one w=>w = "nought" ∧ l.1=0∧l.2.1=0
 | .int w n=>w = "round" ∧ r9 m∧n=(rtN m:Int)∧∀ j,j<rtN m→¬ B9 (trQ m) l j
 | .rat w q=>(w = "reach" ∧ (¬ r9 m∧e9 (trQ m)<2)∧G8 (trQ m) l.1 l.2.1=q∧¬ l.2.2*l.2.2<q)∨(w = "kept" ∧ ¬ 1<e9 q∧q*q+1=trQ m*q∧q*l.1=l.2.1∧¬ l.2.2<e9 l.1)
def N9(m:Q4)(l:Rat × Rat × Rat)(e:En):Bool:=@decide (V2 m l e) (c7z _)
theorem a3X{m:Q4}{l:Rat × Rat × Rat}{e:En}(h:V2 m l e):N9 m l e=true:=@decide_eq_true _ (c7z _) h
theorem F4{m:Q4}{l:Rat × Rat × Rat}{e:En}(h:¬ V2 m l e):N9 m l e=false:=@decide_eq_false _ (c7z _) h
theorem c0u{m:Q4}{l:Rat × Rat × Rat}{e:En}:N9 m l e=true↔V2 m l e:=@decide_eq_true_iff _ (c7z _)
theorem c0H(q:Rat):c7w (q.num*q.num).natAbs ((q.den:Int)*(q.den:Int)).natAbs<2 ^ 9000:=by
 rw[c7n,← c8c,c6N]
 have h:Nat.Coprime q.num.natAbs q.den:=q.reduced
 have:c7w (q.num.natAbs*q.num.natAbs) (q.den*q.den)=1:=Nat.Coprime.mul_left (Nat.Coprime.mul_right h h) (Nat.Coprime.mul_right h h)
 rw[this];exact c83 (by decide)
theorem c0I{q r:Rat}(hq:sz q≤4000)(hr:sz r≤8990):c7w (q.num*r.num).natAbs ((q.den:Int)*(r.den:Int)).natAbs<2 ^ 9000:=by
 rw[c7n,← c8c,c6N]
 have h1:Nat.Coprime q.num.natAbs q.den:=q.reduced
 have h2:Nat.Coprime r.num.natAbs r.den:=r.reduced
 by_cases z:q.num=0
 ·have qd:q.den=1:=by rw[z]at h1;simpa using h1
  rw[z,qd]
  show c7w (0*_) (1*r.den)<_
  rw[Nat.zero_mul,Nat.gcd_zero_left,Nat.one_mul]
  exact p9 (t9 r hr) (by decide)
 ·have d1:c7w (q.num.natAbs*r.num.natAbs) (q.den*r.den) ∣ c7w (q.num.natAbs*r.num.natAbs) q.den*c7w (q.num.natAbs*r.num.natAbs) r.den:=Nat.gcd_mul_right_dvd_mul_gcd _ _ _
  have e1:c7w (q.num.natAbs*r.num.natAbs) q.den=c7w r.num.natAbs q.den:=Nat.Coprime.gcd_mul_left_cancel _ h1
  have e2:c7w (q.num.natAbs*r.num.natAbs) r.den=c7w q.num.natAbs r.den:=Nat.Coprime.gcd_mul_right_cancel _ h2
  rw[e1,e2]at d1
  have p1:c7w r.num.natAbs q.den≤q.den:=c9n _ q.den_pos
  have p2:c7w q.num.natAbs r.den≤q.num.natAbs:=Nat.gcd_le_left _ (c9B.mpr z)
  have p3:=j8 (t9 q hq) (u9 q hq)
  have p4:0<c7w r.num.natAbs q.den*c7w q.num.natAbs r.den:=c9h (c8b _ q.den_pos) (c8b _ r.den_pos)
  exact p9 (c7c (c6V (c9f p4 d1) (c8g p1 p2)) p3) (by decide)
theorem b7P(q:Rat):c7w (q.num*((1:Rat).den:Int)+(1:Rat).num*(q.den:Int)).natAbs ((q.den:Int)*((1:Rat).den:Int)).natAbs<2 ^ 9000:=by
 have h:Nat.Coprime q.num.natAbs q.den:=q.reduced
 have e1:((1:Rat).den:Int)=1:=rfl
 have e2:(1:Rat).num=1:=rfl
 rw[e1,e2,d0b,d0b,c9F,c6N]
 have:c7w (q.num+(q.den:Int)).natAbs q.den=1:=by
  have g:c9S (q.num+(q.den:Int)) (q.den:Int)=c9S q.num (q.den:Int):=Int.gcd_add_self_left ..
  exact g.trans h
 rw[this];exact c83 (by decide)
theorem c2r{t k:Rat}(h:k*k+1=t*k):sz k≤sz t:=c2s (by grind)
abbrev Z9(x:D)(l:Rat × Rat × Rat)(d:D)(M:Mem)(R:DK)(Y:DXK):Prop:=∃ m,x=E7 m∧(CDQ 230 m∧Y3 m=1∧a16 l)∧((∃ q:Rat,d=d9 q∧R (.bl false) M) ∨ ∃ n:Int,d = .int n∧R (.bl (N9 m l (.int "round" n))) M)
def a6o:DSp:=fun ds M R Y=>∃(x:D) (l:Rat × Rat × Rat) (d:D),ds=[x,o8 l,d]∧Z9 x l d M R Y
theorem a40{x:D}{l:Rat × Rat × Rat}{d:D}{M:Mem}{R:DK}{Y:DXK}:a6o [x,o8 l,d] M R Y=(Z9 x l d M R Y):=propext ⟨fun z=>by obtain⟨_,_,_,_,_⟩:=z;walk_at "inj",fun h=>⟨x,l,d,rfl,h⟩⟩
abbrev T6(x:D)(l:Rat × Rat × Rat)(d:D)(M:Mem)(R:DK)(Y:DXK):Prop:=∃ m,x=E7 m∧(CDQ 230 m∧Y3 m=1∧a16 l)∧((∃ q:Rat,d=d9 q∧sz q≤8900∧R (.bl (N9 m l (.rat "reach" q))) M) ∨ ∃ n:Int,d = .int n∧R (.bl false) M)
def a3C:DSp:=fun ds M R Y=>∃(x:D) (l:Rat × Rat × Rat) (d:D),ds=[x,o8 l,d]∧T6 x l d M R Y
theorem a2V{x:D}{l:Rat × Rat × Rat}{d:D}{M:Mem}{R:DK}{Y:DXK}:a3C [x,o8 l,d] M R Y=(T6 x l d M R Y):=propext ⟨fun z=>by obtain⟨_,_,_,_,_⟩:=z;walk_at "inj",fun h=>⟨x,l,d,rfl,h⟩⟩
abbrev a1k(x:D)(l:Rat × Rat × Rat)(d:D)(M:Mem)(R:DK)(Y:DXK):Prop:=∃ m,x=E7 m∧(CDQ 230 m∧Y3 m=1∧a16 l)∧((∃ q:Rat,d=d9 q∧sz q≤8890∧R (.bl (N9 m l (.rat "kept" q))) M) ∨ ∃ n:Int,d = .int n∧R (.bl false) M)
def a9q:DSp:=fun ds M R Y=>∃(x:D) (l:Rat × Rat × Rat) (d:D),ds=[x,o8 l,d]∧a1k x l d M R Y
theorem a7w{x:D}{l:Rat × Rat × Rat}{d:D}{M:Mem}{R:DK}{Y:DXK}:a9q [x,o8 l,d] M R Y=(a1k x l d M R Y):=propext ⟨fun z=>by obtain⟨_,_,_,_,_⟩:=z;walk_at "inj",fun h=>⟨x,l,d,rfl,h⟩⟩
def a93:En→Prop
 | .one w=>cl 57 (.str w)=true
 | .int w n=>cl 57 (.str w)=true∧n.natAbs<2 ^ 20
 | .rat w q=>cl 57 (.str w)=true∧sz q≤8890
abbrev a1i(x:D)(l:Rat × Rat × Rat)(d:D)(M:Mem)(R:DK)(Y:DXK):Prop:=∃ m,x=E7 m∧(CDQ 230 m∧Y3 m=1∧a16 l)∧∃ e:En,d=enD e∧a93 e∧R (.bl (N9 m l e)) M
def a9p:DSp:=fun ds M R Y=>∃(x:D) (l:Rat × Rat × Rat) (d:D),ds=[x,o8 l,d]∧a1i x l d M R Y
theorem a7t{x:D}{l:Rat × Rat × Rat}{d:D}{M:Mem}{R:DK}{Y:DXK}:a9p [x,o8 l,d] M R Y=(a1i x l d M R Y):=propext ⟨fun z=>by obtain⟨_,_,_,_,_⟩:=z;walk_at "inj",fun h=>⟨x,l,d,rfl,h⟩⟩
def y7(L:List (Str × Rat))(y u:Rat)(l:Rat × Rat × Rat):Rat × Rat × Rat:=(l.1*y+l.2.1*u,l.1*(g7 L (y,u)).1+l.2.1*(g7 L (y,u)).2,l.2.2)
def u6(near:Rat)(bs:List (Str × Rat))(far:Rat)(y u:Rat):List (Rat × Rat × Rat):=(C2 (d8 near bs far) (d8 near bs far).length).map (y7 (d8 near bs far) y u)
def a0Q(m:Q4)(ls:List (Rat × Rat × Rat))(es:List En):Bool:=decide (es.length=ls.length) && (ls.zip es).all fun z=>N9 m z.1 z.2
theorem F3.ln{near far:Rat}{bs:List (Str × Rat)}(hw:F3 near bs far){y u:Rat}{S:Nat}(cd:CD S y 0 u 0)(hS:S≤1700){l:Rat × Rat × Rat}(hl:l∈C2 (d8 near bs far) (d8 near bs far).length):a16 (y7 (d8 near bs far) y u l)∧sz l.1≤230∧sz l.2.1≤230:=by
 obtain⟨⟨a1,a2⟩,⟨a3,a4⟩,_,_⟩:=hw.line (y:=0) (u:=0) ((CD.ray2 (k:=1) (l:=1) (by rw[RM.K5];decide) (by rw[RM.K5];decide)).mono (by decide)) hl
 obtain⟨j,px,hj,hpx,el⟩:=Q3 _ l hl
 obtain⟨z1,z2⟩:=b3L hw.cd cd j
 have e1:(g7 ((d8 near bs far).take j) (1,0)).1=l.1:=by rw[el]
 have e2:(g7 ((d8 near bs far).take j) (0,1)).1=l.2.1:=by rw[el]
 rw[e1,e2]at z1 z2
 have w1:sz (y7 (d8 near bs far) y u l).1≤231+S:=z1
 have w2:sz (y7 (d8 near bs far) y u l).2.1≤462+S:=z2
 exact⟨⟨by omega,by omega,by omega,a3,a4⟩,a1,a2⟩
theorem a8A{near far:Rat}{bs:List (Str × Rat)}(hw:F3 near bs far){y u:Rat}{S:Nat}(cd:CD S y 0 u 0)(hS:S≤1700):∀ l∈u6 near bs far y u,a16 l:=fun l hl=>by
 obtain⟨l0,h0,rfl⟩:=c7q.mp hl
 exact(hw.ln cd hS h0).1
theorem a5J(near far:Rat)(bs:List (Str × Rat))(y u:Rat):(u6 near bs far y u).length≤2*bs.length+2:=by
 have:=L8 (d8 near bs far) (d8 near bs far).length
 have:=Q9 near far bs
 unfold u6
 rw[c6Q];omega
theorem a4P(near far:Rat)(bs:List (Str × Rat)):(((G7 (g9 near bs far) (g9 near bs far).length).zip (C2 (d8 near bs far) (g9 near bs far).length)).map fun z=>o8 z.2)=(C2 (d8 near bs far) (d8 near bs far).length).map o8:=by
 have h:=a2A (g9 near bs far) (g9 near bs far).length
 rw[L0]at h
 rw[show(fun z:(D × D) × (Rat × Rat × Rat)=>o8 z.2)=o8 ∘ Prod.snd from rfl,← c7N,List.map_snd_zip (by omega),E5]
abbrev K8(x:D)(y u:Rat)(z:D)(M:Mem)(R:DK)(Y:DXK):Prop:=∃(L:List (Str × Rat)) (ls:List (Rat × Rat × Rat)),x=E7 (tbQ L)∧z = .vl (ls.map o8)∧(∃ S,CDQ 230 (tbQ L)∧CD S y 0 u 0∧S≤1700∧ls.length≤40∧∀ l∈ls,sz l.1≤230∧sz l.2.1≤230)∧R (.vl ((ls.map (y7 L y u)).map o8)) M
def T7:DSp:=fun ds M R Y=>∃(x:D) (y u:Rat) (z:D),ds=[x,A1 y u,z]∧K8 x y u z M R Y
theorem a02{x:D}{y u:Rat}{z:D}{M:Mem}{R:DK}{Y:DXK}:T7 [x,A1 y u,z] M R Y=(K8 x y u z M R Y):=propext ⟨fun z=>by obtain⟨_,_,_,_,_,_⟩:=z;walk_at "inj",fun h=>⟨x,y,u,z,rfl,h⟩⟩
abbrev a1h(x0:D)(y u:Rat)(x:D)(M:Mem)(R:DK)(Y:DXK):Prop:=∃(near:Rat) (bs:List (Str × Rat)) (far:Rat) (es:List En),x0 = .tup [d9 near,.vl (bs.map i0),d9 far]∧(x = .vl (es.map enD)∨x = .tup (es.map enD))∧((F3 near bs far∧∃ S,CD S y 0 u 0∧S≤1700)∧es.length≤40∧∀ e∈es,a93 e)∧R (.bl (a0Q (tbQ (d8 near bs far)) (u6 near bs far y u) es)) M
def a9o:DSp:=fun ds M R Y=>∃(x0:D) (y u:Rat) (x:D),ds=[x0,A1 y u,x]∧a1h x0 y u x M R Y
theorem a7s{x0:D}{y u:Rat}{x:D}{M:Mem}{R:DK}{Y:DXK}:a9o [x0,A1 y u,x] M R Y=(a1h x0 y u x M R Y):=propext ⟨fun z=>by obtain⟨_,_,_,_,_,_⟩:=z;walk_at "inj",fun h=>⟨x0,y,u,x,rfl,h⟩⟩
end GM
namespace L2
open PySem PySem.Spec PyProof.Rows
theorem b2k(a d:Value):argsOk "min" ⟨[a],[(Str.ofString "default",d)]⟩:=by unfold argsOk;kernel_rfl
def C7(h0 h:Heap):Prop:=∀ b o,h0.get? b=some o→h.get? b=some o
def b1u(prog:Program)(w:World)(A:Around)(h0:Heap)(P:Nat→Value→Prop)(bt:Nat→Nat→Bool):Prop :=
 ∀ i j x y (s:Shared) (Q:Value→Shared→Prop) (E:Value→Shared→Prop),C7 h0 s.heap→P i x→P j y→Q (.bool (bt i j)) s→wpAny (model prog w) A (richCompare .Lt x y) Q E s
section
variable {prog:Program} {w:World} {A:Around} {R:Result→Shared→Prop} {I S:Addr} {fp wr:List Addr} {n:Nat} {P:Nat→Value→Prop} {St:Nat→Heap→Prop} {bt:Nat→Nat→Bool} {h0:Heap}
theorem b0Z:(toString "min" ++ toString ".loop" : String) = "min.loop" := by decide
abbrev dfl:List (Str × Value):=[(Str.ofString "default",.none)]
theorem a9L(W:Walks prog w A.in1 I fp wr n P St)(cmp:b1u prog w A.in1 h0 P bt)(nf:S∉fp)(n0:h0.get? S=none)(w0:∀ b∈wr,h0.get? b=none) :
  ∀(k j:Nat) (s:Shared) (x:Value) (c:Nat),j+1+k=n→C7 h0 s.heap→St (j+1) s.heap→P (argBest bt j) x→s.heap.get? S=some { cls:=.type "list",dict:=none,data:=.seq #[x,x] c,slots:=#[] } →
  (∀ v h2 tk,P (argBest bt (n - 1)) v→C7 h0 h2→R (.ok (.ret v)) { s with heap:=h2,toks:=tk })→codeAny (model prog w) A (.builtin "min.loop" ⟨[.ref I,.none,.ref S],dfl⟩) R s:=by
 have nw:S∉wr:=fun z=>nf (W.sub _ z)
 have onw:∀{h h2:Heap},C7 h0 h→(∀ b o,b∉wr→h.get? b=some o→h2.get? b=some o)→C7 h0 h2:=fun st kp b o e=>kp b o (fun z=>by rw[w0 b z]at e;cases e) (st b o e)
 have onS:∀{h:Heap} {g:Obj→Obj},C7 h0 h→C7 h0 (h.update S g):=fun st b o e=>(c7r _ _ (fun z:S=b=>by rw[← z,n0]at e;cases e)).trans (st b o e)
 intro k
 induction k with
 | zero =>
  intro j s x c ej st hst px oS fin
  refine codeAny_builtin F.entry_min_loop ?_
  rw[Around.under_plainId F.plain_min_loop _]
  show wpAny _ A.in1 (seqItems? (.ref S) >>= _) _ _ s
  refine c6L (wpAny_seqItems oS rfl ?_)
  show wpAny _ A.in1 (tryCatch (pyNext (.ref I)) _ >>= _) _ _ s
  have ej:j+1=n:=by omega
  refine c6L (wpAny_tryCatch (W.done s _ _ (ej▸hst) fun h2 tk kp=>?_))
  have oS2:=kp S _ nw oS
  show wpAny _ A.in1 (updateSeq S (fun _=>#[]) >>= _) _ _ _
  refine c6L ?_
  refine wpAny_updateSeq oS2 rfl (c6L (wpAny_letGo (c6U ?_)))
  exact fin x _ tk (by rw[← ej];exact px) (onS (onw st kp))
 | succ k ih =>
  intro j s x c ej st hst px oS fin
  refine codeAny_builtin F.entry_min_loop ?_
  rw[Around.under_plainId F.plain_min_loop _]
  show wpAny _ A.in1 (seqItems? (.ref S) >>= _) _ _ s
  refine c6L (wpAny_seqItems oS rfl ?_)
  show wpAny _ A.in1 (tryCatch (pyNext (.ref I)) _ >>= _) _ _ s
  refine c6L (wpAny_tryCatch (W.item (j+1) s _ _ (by omega) hst fun y h2 tk py hst2 kp=>?_))
  have oS2:=kp S _ nw oS
  have st2:=onw st kp
  show wpAny _ A.in1 (tryCatch (holding [y,y] (richCompare .Lt y x >>= _)) _ >>= _) _ _ _
  refine c6L (wpAny_tryCatch (wpAny_holding (c6L (cmp (j+1) (argBest bt j) y x _ _ _ st2 py px ?_))))
  refine c6L (wpAny_holding (wpAny_truthy_bool ?_))
  refine c6L (wpAny_letGo (c6U ?_))
  cases hb:bt (j+1) (argBest bt j)with
  | true =>
   simp only[if_true]
   refine c6L ?_
   refine wpAny_updateSeq oS2 rfl (c6L (wpAny_letGo ?_))
   rw[b0Z]
   refine c6U ⟨plainId_quiet F.plain_min_loop _,ih (j+1) _ y _ (by omega) (onS st2) (W.frame _ _ _ hst2 fun b bf o e=>?_) (by simp only[argBest,hb,if_true];exact py) (c7E _ oS2 rfl) fin⟩
   exact(c7r _ _ (fun z:S=b=>nf (by rw[z];exact bf))).trans e
  | false =>
   simp only[c7R,if_false]
   refine c6L (wpAny_letGo ?_)
   rw[b0Z]
   exact c6U ⟨plainId_quiet F.plain_min_loop _,ih (j+1) _ x c (by omega) st2 hst2 (by simp only[argBest,hb,c7R,if_false];exact px) oS2 fin⟩
theorem a9M(W:Walks prog w A.in1 I fp wr n P St)(cmp:b1u prog w A.in1 h0 P bt)(nf:S∉fp)(n0:h0.get? S=none)(w0:∀ b∈wr,h0.get? b=none){s:Shared}{c:Nat}(st:C7 h0 s.heap)(hst:St 0 s.heap)
  (oS:s.heap.get? S=some { cls:=.type "list",dict:=none,data:=.seq #[] c,slots:=#[] })
  (fin0:n=0→∀ h2 tk,C7 h0 h2→R (.ok (.ret .none)) { s with heap:=h2,toks:=tk })
  (fin:0<n→∀ v h2 tk,P (argBest bt (n - 1)) v→C7 h0 h2→R (.ok (.ret v)) { s with heap:=h2,toks:=tk }):codeAny (model prog w) A (.builtin "min.loop" ⟨[.ref I,.none,.ref S],dfl⟩) R s:=by
 have nw:S∉wr:=fun z=>nf (W.sub _ z)
 have onw:∀{h h2:Heap},C7 h0 h→(∀ b o,b∉wr→h.get? b=some o→h2.get? b=some o)→C7 h0 h2:=fun st kp b o e=>kp b o (fun z=>by rw[w0 b z]at e;cases e) (st b o e)
 have onS:∀{h:Heap} {g:Obj→Obj},C7 h0 h→C7 h0 (h.update S g):=fun st b o e=>(c7r _ _ (fun z:S=b=>by rw[← z,n0]at e;cases e)).trans (st b o e)
 refine codeAny_builtin F.entry_min_loop ?_
 rw[Around.under_plainId F.plain_min_loop _]
 show wpAny _ A.in1 (seqItems? (.ref S) >>= _) _ _ s
 refine c6L (wpAny_seqItems oS rfl ?_)
 show wpAny _ A.in1 (tryCatch (pyNext (.ref I)) _ >>= _) _ _ s
 rcases c8h n with z|z
 ·subst z
  refine c6L (wpAny_tryCatch (W.done s _ _ hst fun h2 tk kp=>?_))
  show wpAny _ A.in1 (rule _ >>= _) _ _ _
  exact c6L (wpAny_rule (c6U (fin0 rfl h2 tk (onw st kp))))
 ·refine c6L (wpAny_tryCatch (W.item 0 s _ _ z hst fun y h2 tk py hst2 kp=>?_))
  have oS2:=kp S _ nw oS
  show wpAny _ A.in1 (updateSeq S (fun _=>#[y,y]) >>= _) _ _ _
  refine c6L ?_
  refine wpAny_updateSeq oS2 rfl ?_
  rw[b0Z]
  refine c6U ⟨plainId_quiet F.plain_min_loop _,a9L W cmp nf n0 w0 (n - 1) 0 _ y _ (by omega) (onS (onw st kp)) (W.frame _ _ _ hst2 fun b bf o e=>?_) py (c7E _ oS2 rfl) (fin z)⟩
  exact(c7r _ _ (fun z:S=b=>nf (by rw[z];exact bf))).trans e
theorem a9X{l:Addr}{vs:Array Value}{s:Shared}{Q:Value→Shared→Prop}{E:Value→Shared→Prop}(hh:A.handled=none)(hl:s.heap.IsList l vs)(cmp:b1u prog w A.in1 s.heap (fun i v=>vs[i]? = some v) bt)
  (fin0:vs.size=0→∀ h2 tk,C7 s.heap h2→Q .none { s with heap:=h2,toks:=tk })
  (fin:0<vs.size→∀ v h2 tk,vs[argBest bt (vs.size - 1)]? = some v→C7 s.heap h2→Q v { s with heap:=h2,toks:=tk }) :
  wpAny (model prog w) A (call (.builtin "min") [.ref l] dfl) Q E s:=by
 have lt:l<s.heap.objs.size:=by obtain⟨o,ho,_⟩:=hl;exact c6X ho
 refine kmb_tree F.kind_min F.plain_min F.entry_min (b2k _ _) ?_
 show wpAny _ A.in1 (Builtin.Builtins.bindParams "min" ["key","default"] 0 ⟨[],dfl⟩ >>= _) _ _ s
 refine c6L (wpAny_of_eq (a:=[none,some .none]) rfl ?_)
 refine c6L (c6U ?_)
 refine c6L (wpAny_pyIter_list hl ?_)
 refine c6L (wpAny_newObj_type ?_)
 rw[b0Z]
 have z1:(s.heap.push { cls:=.type "list_iterator",data:=.fields #[.ref l,.int 0 0] }).objs.size=s.heap.objs.size+1:=c7O ..
 have fr:∀ b,s.heap.objs.size≤b→s.heap.get? b=none:=fun b hb=>c9y hb
 refine c6U ⟨plainId_quiet F.plain_min_loop _,?_⟩
 refine a9M (Walks.list (A:=A.in1) hh s.heap.objs.size l (c7v lt) vs) cmp (fun hm=>?_) (fr _ (by rw[z1];omega)) (fun b hb=>by rw[c7a.mp hb];exact fr _ (c7b _)) (fun b o e=>c6O _ (c6O _ e)) ⟨⟨_,c6O _ (c6W _ rfl),rfl,rfl⟩,(hl.push _).push _⟩ (c6W _ rfl) (fun z h2 tk st=>fin0 z h2 tk st) (fun z v h2 tk pv st=>fin z v h2 tk pv st)
 rcases c7h.mp hm with hm|hm
 ·rw[z1]at hm;exact c7U (Nat.lt_succ_self _) hm
 ·have e:=c7a.mp hm
  rw[z1]at e
  rw[← e]at lt
  exact c7Z _ (Nat.lt_of_succ_lt lt)
end
end L2
namespace L2
open PySem PySem.Spec PyProof.Rows
theorem C7.tup{h h2:Heap}{a:Addr}{its:Array Value}(st:C7 h h2)(t:IsTup h a its):IsTup h2 a its:=by
 obtain⟨o,ho,r⟩:=t
 exact⟨o,st a o ho,r⟩
theorem b7F{a b c d:Int}:HT.C3 [a,b] [c,d]=true↔a<c∨(a=c∧b<d):=by
 rw[HT.a0U]
 by_cases h:a=c
 ·rw[if_pos h,HT.a0U]
  by_cases h2:b=d
  ·rw[if_pos h2,HT.a0w];simp;omega
  ·rw[if_neg h2,decide_eq_true_eq];omega
 ·rw[if_neg h,decide_eq_true_eq];omega
theorem b9k(p:Nat→Int × Int):∀ k,argBest (fun i j=>HT.C3 [(p i).1,(p i).2] [(p j).1,(p j).2]) k≤k∧∀ j,j≤k→¬ HT.C3 [(p j).1,(p j).2] [(p (argBest (fun i j=>HT.C3 [(p i).1,(p i).2] [(p j).1,(p j).2]) k)).1,(p (argBest (fun i j=>HT.C3 [(p i).1,(p i).2] [(p j).1,(p j).2]) k)).2]=true
 | 0=>⟨c7b _,fun j hj=>by
  obtain rfl:j=0:=by omega
  show ¬ HT.C3 [(p 0).1,(p 0).2] [(p 0).1,(p 0).2]=true
  rw[b7F];omega⟩
 | k+1=>by
  obtain⟨h1,h2⟩:=b9k p k
  generalize hb:argBest (fun i j=>HT.C3 [(p i).1,(p i).2] [(p j).1,(p j).2]) k=b at *
  have e:argBest (fun i j=>HT.C3 [(p i).1,(p i).2] [(p j).1,(p j).2]) (k+1)=if HT.C3 [(p (k+1)).1,(p (k+1)).2] [(p b).1,(p b).2]=true then k+1 else b:=by
   rw[← hb];rfl
  rw[e]
  by_cases h:HT.C3 [(p (k+1)).1,(p (k+1)).2] [(p b).1,(p b).2]=true
  ·rw[if_pos h]
   refine⟨c7b _,fun j hj=>?_⟩
   rcases c77 k j with z|z
   ·obtain rfl:j=k+1:=by omega
    rw[b7F];omega
   ·have:=h2 j z
    rw[b7F]at *;omega
  ·rw[if_neg h]
   refine⟨by omega,fun j hj=>?_⟩
   rcases c77 k j with z|z
   ·obtain rfl:j=k+1:=by omega
    exact h
   ·exact h2 j z
section
variable {X:Cx} {e:Expr} {p pos:Pos} {t:TA}
def c1W(K:c6M)(xs:List V)(H:Hp)(Q:VK):Prop:=∃(l:Addr) (as:List Addr) (ps:List (Int × Int)),xs=[.ref l]∧SqL K H l (as.map V.ref)∧as.length=ps.length∧(∀(i:Nat) (a:Addr) (p:Int × Int),as[i]? = some a→ps[i]? = some p→SqT K H a ([p.1,p.2].map V.int)) ∧
 (ps=[]→Q .non H)∧∀(i:Nat) (a:Addr) (p:Int × Int),as[i]? = some a→ps[i]? = some p→(∀ q∈ps,¬ HT.C3 [q.1,q.2] [p.1,p.2]=true)→Q (.ref a) H
theorem a7N:∀{as:List Addr} {us:List Value},p0 (as.map V.ref) us→us=as.map Value.ref
 | [],us,h=>by cases h;rfl
 | a :: as,us,h=>by
  cases h with
  | cons r t=>rw[a7N t];cases r;rfl
theorem b7k{kj kp kq}(hu:X.A.units+64<cLine)(hc:X.calm=true)(hg:Gl X "min")(hm:X.mg "min" = none)(hv:bootBuiltins "min" = some (.builtin "min"))(ha:PA X [e] t)(he:backTo pos (starEach [e] X.env)=(false,eval e X.env) :: backTo pos (starEach [] X.env):=by rfl)
  (hpl:(backTo pos (starEach [e] X.env)).any (·.1)=false:=by rfl):PE X (.Call (.Name "min" p) [e] [⟨some "default",.Constant .none kj kp,kq⟩] pos) (tCB (c1W X.K) t):=by
 intro pins s σ H Q I h
 refine wpAny_Call_Name_kw (Q0 I hg hm hv ?_ (by decide) (by decide))
 refine callWith_kw (thn (ha pos pins s σ H _ I h) fun us s1 ⟨vs,H1,I1,r1,q1⟩=>kws_cons (Constant_none (kws_nil ?_))) he hpl
 obtain⟨l,as,ps,rfl,hS,hlen,hT,q0,q⟩:=q1
 obtain⟨u,rfl,ru⟩:=a2i r1
 cases ru
 obtain⟨its,rv,pl,_⟩:=I1.list hS
 have ei:=a7N rv
 subst ei
 have hl:s1.heap.IsList l (as.map Value.ref).toArray:=pl.isList
 have sz:(as.map Value.ref).toArray.size=ps.length:=by rw[c69,c6Q,hlen]
 let pp:Nat→Int × Int:=fun i=>ps.getD i (0,0)
 have cmp:b1u X.prog X.w X.A.in1 s1.heap (fun i v=>(as.map Value.ref).toArray[i]? = some v) (fun i j=>HT.C3 [(pp i).1,(pp i).2] [(pp j).1,(pp j).2]):=by
  intro i j x y s2 Q2 E2 st hx hy q2
  have one:∀{i:Nat} {x:Value},(as.map Value.ref).toArray[i]? = some x→∃ a its,x = .ref a∧IsTup s2.heap a its∧IntsAre its.toList [(pp i).1,(pp i).2]:=fun{i x} hx=>by
   rw[c9x,c6Y]at hx
   obtain⟨a,hai,rfl⟩:=c7s.mp hx
   have hi:i<ps.length:=by rw[← hlen];exact(c6P.mp hai).1
   have hpi:=c7e hi
   obtain⟨its,r2,p2,_⟩:=I1.tuple (hT i a _ hai hpi)
   refine⟨a,its.toArray,rfl,st.tup p2,?_⟩
   have:pp i=ps[i]:=by show ps.getD i (0,0)=_;rw[c7C,hpi];rfl
   rw[this]
   exact a9R r2
  obtain⟨a,i1,rfl,t1,n1⟩:=one hx
  obtain⟨b,i2,rfl,t2,n2⟩:=one hy
  exact HT.a9O t1 t2 n1 n2 (by show X.A.units+1<cLine;omega) q2
 refine a9X (I1.ok.hd hc) hl cmp (fun z h2 tk st=>?_) (fun z v h2 tk hv2 st=>?_)
 ·rw[sz]at z
  exact⟨.non,H1,I1.kept st,rfl,q0 (c8M z)⟩
 ·rw[sz]at z hv2
  obtain⟨b1,b2⟩:=b9k pp (ps.length - 1)
  generalize argBest (fun i j=>HT.C3 [(pp i).1,(pp i).2] [(pp j).1,(pp j).2]) (ps.length - 1)=b at *
  rw[c9x,c6Y]at hv2
  obtain⟨a,hab,rfl⟩:=c7s.mp hv2
  have hb:b<ps.length:=by omega
  have hpb:=c7e hb
  have eb:pp b=ps[b]:=by show ps.getD b (0,0)=_;rw[c7C,hpb];rfl
  rw[eb]at b2
  refine⟨.ref a,H1,I1.kept st,rfl,q b a _ hab hpb fun r hr=>?_⟩
  obtain⟨j,hj⟩:=c7G hr
  have ej:pp j=r:=by show ps.getD j (0,0)=_;rw[c7C,hj];rfl
  have:=b2 j (by have:=(c6P.mp hj).1;omega)
  rw[ej]at this
  exact this
end
end L2
namespace DL
open PySem PySem.Spec L2
open PyProof.Rows hiding St
section
variable {X:Cx} {e:Expr} {p pos:Pos} {t:DTA}
def a2v(p:Int × Int):D:=.tup [.int p.1,.int p.2]
def b8Z:DRC:=fun ds M R=>∃ ps:List (Int × Int),ds=[.vl (ps.map a2v)]∧(ps=[]→R .non M)∧∀ p∈ps,(∀ q∈ps,¬ (q.1<p.1∨(q.1=p.1∧q.2<p.2)))→R (a2v p) M
theorem HasL.prs2{K:c6M}{H:Hp}:∀{ps:List (Int × Int)} {xs:List V},HasL K H xs (ps.map a2v)→∃ as:List Addr,xs=as.map V.ref∧as.length=ps.length∧∀(i:Nat) (a:Addr) (p:Int × Int),as[i]? = some a→ps[i]? = some p→SqT K H a ([p.1,p.2].map V.int)
 | [],xs,h=>by cases h;exact⟨[],rfl,rfl,fun i a p h=>by simp at h⟩
 | p :: ps,xs,h=>by
  cases h with
  | cons h1 h2 =>
   obtain⟨as,rfl,hl,ht⟩:=HasL.prs2 h2
   unfold a2v at h1
   cases h1 with
   | tup sq hi =>
    rename_i a xs
    cases hi with
    | cons i1 hi=>cases hi with
     | cons i2 hi =>
      cases hi;cases i1;cases i2
      refine⟨a :: as,rfl,by rw[c7A,c7A,hl],fun i b q hb hq=>?_⟩
      cases i with
      | zero=>cases hb;cases hq;exact sq
      | succ i=>exact ht i b q hb hq
theorem b7J{kj kp kq}(hu:X.A.units+64<cLine)(hc:X.calm=true)(hg:Gl X "min")(hm:X.mg "min" = none)(hv:bootBuiltins "min" = some (.builtin "min"))(ha:JA X [e] t)(he:backTo pos (starEach [e] X.env)=(false,eval e X.env) :: backTo pos (starEach [] X.env):=by rfl)
  (hpl:(backTo pos (starEach [e] X.env)).any (·.1)=false:=by rfl):JE X (.Call (.Name "min" p) [e] [⟨some "default",.Constant .none kj kp,kq⟩] pos) (dCB b8Z t):=by
 refine⟨(b7k hu hc hg hm hv ha.out he hpl).imp fun σ H Q ⟨e,M,R,ok,am,t,f⟩=>⟨e,M,_,ok,am,t,fun ds M1 ⟨ps,z,r0,r⟩ vs H1 k1 a1 hl=>?_⟩⟩
 subst z
 obtain⟨v,rfl,hv⟩:=hl.one
 obtain⟨a,xs,rfl,hS,hL⟩:=F5 a1 hv (show U1 M1 (.vl (ps.map a2v))=some (ps.map a2v)from rfl)
 obtain⟨as,rfl,hlen,hT⟩:=hL.prs2
 refine⟨a,as,ps,rfl,hS,hlen,hT,fun z=>f _ _ (r0 z) _ _ k1 a1 .non,fun i b q hb hq hm=>?_⟩
 refine f _ _ (r q (c6S hq) fun x hx=>by rw[← b7F];exact hm x hx) _ _ k1 a1 ?_
 exact .tup (hT i b q hb hq) (.cons (.int _) (.cons (.int _) .nil))
end
end DL
namespace DL
theorem b9C{ps:List (Int × Int)}{M:Mem}{R:DK}:b8Z [.vl (ps.map a2v)] M R=((ps=[]→R .non M)∧∀ p∈ps,(∀ q∈ps,¬ (q.1<p.1∨(q.1=p.1∧q.2<p.2)))→R (a2v p) M):=propext ⟨fun⟨qs,e,h⟩=>by
 have inj:∀{x y:Int × Int},a2v x=a2v y→x=y:=fun{x y} h=>by
  unfold a2v at h
  injection h with h;injection h with h1 h;injection h with h2 _
  injection h1 with h1;injection h2 with h2
  exact Prod.ext h1 h2
 have e:ps=qs:=by
  injection e with e _
  injection e with e
  exact(c8u (fun _ _=>inj)).mp e
 subst e;exact h,fun h=>⟨_,rfl,h⟩⟩
end DL
namespace L2
open PySem PySem.Spec PyProof.Rows
def a8a(n:Nat):List V:=(c7K n).map fun i:Nat=>V.int (i:Int)
def tLr(ta:TA):TE:=fun σ H Q=>ta σ H fun vs H1=>∃ n:Nat,vs=[.int (n:Int)]∧n≤1000∧∀ l,H1 l=none→Q (.ref l) (upd H1 l (.lst (a8a n)))
theorem b1H(n:Nat):Builtin.Range.rangeSize 0 (n:Int) 1=n:=by
 unfold Builtin.Range.rangeSize
 rw[if_pos (by decide)]
 by_cases h:(0:Int)<(n:Int)
 ·rw[if_pos h,Int.ediv_one];omega
 ·rw[if_neg h];omega
theorem b1z{n:Nat}{acc:Array Value}(h:ItemsOf (fun i v=>∃ t,v=Value.int (0+(i:Int)*1) t) acc n):p0 (a8a n) acc.toList:=by
 obtain⟨hs,hv⟩:=h
 have key:∀(k:Nat) (us:List Value),(∀(j:Nat) v,us[j]? = some v→∃ t,v=Value.int ((k+j:Nat):Int) t)→p0 ((c7K us.length).map fun i:Nat=>V.int ((k+i:Nat):Int)) us:=by
  intro k us
  induction us generalizing k with
  | nil=>intro _;exact .nil
  | cons u us ih =>
   intro h
   rw[c7A,List.range_succ_eq_map,c7I,c7N]
   obtain⟨t,rfl⟩:=h 0 u rfl
   refine .cons ⟨t,rfl⟩ ?_
   have:=ih (k+1) fun j v hj=>by
    obtain⟨t,e⟩:=h (j+1) v hj
    exact⟨t,by rw[e];congr 1;omega⟩
   have e:((fun i:Nat=>V.int ((k+i:Nat):Int)) ∘ Nat.succ)=fun i:Nat=>V.int ((k+1+i:Nat):Int):=by
    funext i;show V.int ((k+(i+1):Nat):Int)=_;congr 1;omega
   rw[e];exact this
 have:=key 0 acc.toList fun j v hj=>by
  rw[Array.getElem?_toList]at hj
  obtain⟨t,e⟩:=hv j v hj
  exact⟨t,by rw[e];congr 1;omega⟩
 rw[Array.length_toList,hs]at this
 have e:a8a n=(c7K n).map fun i:Nat=>V.int ((0+i:Nat):Int):=by
  unfold a8a;congr 1;funext i;congr 1;omega
 rw[e];exact this
theorem a6D{X:Cx}{a:Expr}{ta:TA}{p1 p2 pos1 pos2:Pos}(hc:X.calm=true)(g1:Gl X "list")(n1:X.mg "list" = none)(v1:bootBuiltins "list" = some (.type "list"))(g2:Gl X "range")(n2:X.mg "range" = none)(ha:PA X [a] ta)
  (hs:starEach [a] X.env=[(false,eval a X.env)]:=by rfl) (hs3:starEach [.Call (.Name "range" p2) [a] [] pos2] X.env=[(false,eval (.Call (.Name "range" p2) [a] [] pos2) X.env)]:=by rfl) :
  PE X (.Call (.Name "list" p1) [.Call (.Name "range" p2) [a] [] pos2] [] pos1) (tLr ta):=by
 intro pins s σ H Q I h
 refine wpAny_Call_Name_kw (Q0 I g1 n1 v1 ?_ (by decide) (by decide))
 refine PyProof.Rows.callWith_type1 ?_ (by rw[hs3];rfl) (by rfl)
 rw[hs3]
 show wpAny _ _ (spliced ((false,eval (.Call (.Name "range" p2) [a] [] pos2) X.env) :: backTo pos1 (starEach [] X.env))) _ _ s
 refine Calls.spliced_cons ?_
 refine wpAny_Call_Name_kw (Q0 I g2 n2 boot_range (PyProof.Rows.callWith_type1 (thn (ha pos2 pins s σ H _ I h) fun us s1 ⟨vs,H1,I1,r1,q1⟩=>?_) (by rw[hs];rfl) (by rfl)) (by decide) (by decide))
 obtain⟨n,rfl,hn,q⟩:=q1
 obtain⟨u,rfl,ru⟩:=a2i r1
 obtain⟨t,rfl⟩:=ru
 refine call_range_1 ?_
 refine Calls.spliced_nil ?_
 refine call_list_range (n:=n) (I1.ok.hd hc) (c6W _ rfl) (small_one (by omega) (by omega) (by omega) (by omega)) (b1H n) (by omega) fun h' tk acc c kk e2 e3=>?_
 have k0:∀ b o,s1.heap.get? b=some o→h'.get? b=some o:=fun b o e=>kk b o (c6O _ e)
 have big:s1.heap.objs.size≤(s1.heap.push { cls:=.type "range",data:=.fields #[.int 0 s1.toks,.int (n:Int) t,.int 1 (s1.toks+1)] }).objs.size:=by rw[c7O];exact Nat.le_succ _
 refine⟨.ref _,_,I1.laid (t':=tk) (o:=.lst (a8a n)) k0 big ?_,rfl,q _ (I1.hok.fresh big)⟩
 refine⟨?_,acc.toList,c,b1z e3,?_⟩
 ·unfold a8a
  rw[c6Q,c89]
  exact c6V hn (by decide)
 ·rw[Array.toArray_toList];exact e2
end L2
namespace DL
open PySem PySem.Spec L2
open PyProof.Rows hiding St
section
variable {X:Cx} {a:Expr} {ta:DTA} {p1 p2 pos1 pos2:Pos}
def dLr(ta:DTA):DTE:=fun e M R=>ta e M fun ds M1=>∃ n:Nat,ds=[.int (n:Int)]∧n≤1000∧R (.vl ((c7K n).map fun i:Nat=>D.int (i:Int))) M1
theorem b6V{K:c6M}{H:Hp}(n:Nat):HasL K H (a8a n) ((c7K n).map fun i:Nat=>D.int (i:Int)):=by
 unfold a8a
 induction (c7K n)with
 | nil=>exact .nil
 | cons i r ih=>exact .cons (.int _) ih
theorem a6U(hc:X.calm=true)(g1:Gl X "list")(n1:X.mg "list" = none)(v1:bootBuiltins "list" = some (.type "list"))(g2:Gl X "range")(n2:X.mg "range" = none)(ha:JA X [a] ta)
  (hs:starEach [a] X.env=[(false,eval a X.env)]:=by rfl) (hs3:starEach [.Call (.Name "range" p2) [a] [] pos2] X.env=[(false,eval (.Call (.Name "range" p2) [a] [] pos2) X.env)]:=by rfl) :
  JE X (.Call (.Name "list" p1) [.Call (.Name "range" p2) [a] [] pos2] [] pos1) (dLr ta):=by
 refine⟨(a0P (a6D hc g1 n1 v1 g2 n2 ha.out hs hs3)).imp fun σ H Q ⟨e,M,R,ok,am,t,f⟩=>⟨e,M,_,ok,am,t,fun ds M1 ⟨n,z,hn,r⟩ vs H1 k1 a1 r1=>?_⟩⟩
 subst z
 obtain⟨v,rfl,hv⟩:=r1.one
 cases hv
 exact⟨n,rfl,hn,fun p hp=>a0m f k1 a1 (b6V n) r p hp⟩
theorem c3l{ta:DTA}{e:Ev}{M:Mem}{R:DK}:dLr ta e M R=ta e M fun ds M1=>∃ n:Nat,ds=[.int (n:Int)]∧n≤1000∧R (.vl ((c7K n).map fun i:Nat=>D.int (i:Int))) M1:=rfl
end
end DL
namespace GM
open PySem PySem.Spec L2 DL
open RM (sz)
theorem a5W(t x f:Rat):swQ t f (t*f - x)=swQ t x f:=by unfold swQ;grind
theorem b8T(t:Rat)(p:Rat × Rat):∀ n,swQ t (stQ t p n).1 (stQ t p n).2=swQ t p.1 p.2
 | 0=>rfl
 | n+1=>by
  show swQ t (stQ t p n).2 (t*(stQ t p n).2 - (stQ t p n).1)=_
  rw[a5W,b8T t p n]
theorem b9J{a r:Rat}(hr:0≤r)(h:a*a≤r*r):¬ r<e9 a:=by
 intro z
 have h1:e9 a*e9 a=a*a:=by unfold e9;split<;>grind
 have:=c7J (a:=e9 a - r) (b:=e9 a+r) (by grind) (by grind)
 grind
theorem a3j{t x f r:Rat}(t1:-2<t)(t2:t<2)(hr:0<r)(h:¬ r*r<G8 t x f)(n:Nat):¬ B9 t (x,f,r) n:=by
 have h4:=b0J t1 t2
 unfold B9
 have e:=b8T t (x,f) n
 have e:swQ t (stQ t (x,f) n).1 (stQ t (x,f) n).2=swQ t x f:=e
 generalize (stQ t (x,f) n).1=a at *
 generalize (stQ t (x,f) n).2=b at *
 refine b9J (by grind) ?_
 have r1:G8 t x f=4*swQ t x f / (4 - t*t):=rfl
 rw[r1,← e]at h
 have p:(0:Rat)≤(2*b - t*a)*(2*b - t*a):=by
  rcases c82 (a:=0) (b:=2*b - t*a)with z|z
  ·exact c7m z z
  ·have:=c7m (a:=-(2*b - t*a)) (b:=-(2*b - t*a)) (by grind) (by grind)
   grind
 apply c68
 intro nz
 apply h
 rw[c9C h4]
 have m1:=c7J (a:=a*a - r*r) (b:=4 - t*t) (by grind) h4
 unfold swQ
 grind
theorem c2Z{t k x:Rat}(hk:k*k - t*k+1=0):∀ n,(stQ t (x,k*x) n).2=k*(stQ t (x,k*x) n).1
 | 0=>rfl
 | n+1=>by
  show t*(stQ t (x,k*x) n).2 - (stQ t (x,k*x) n).1=k*(stQ t (x,k*x) n).2
  rw[c2Z hk n]
  generalize (stQ t (x,k*x) n).1=a
  have:(k*k - t*k+1)*a=0:=by rw[hk];grind
  grind
theorem b03{t k x r:Rat}(hk:k*k - t*k+1=0)(h1:e9 k≤1)(h:¬ r<e9 x):∀ n,¬ r<e9 (stQ t (x,k*x) n).1
 | 0=>h
 | n+1=>by
  show ¬ r<e9 (stQ t (x,k*x) n).2
  rw[c2Z hk n,N5]
  have ih:=b03 hk h1 h n
  generalize (stQ t (x,k*x) n).1=a at *
  have a0:0≤e9 a:=by unfold e9;split<;>grind
  have:=c7m (a:=1 - e9 k) (b:=e9 a) (by grind) a0
  grind
theorem a0x{t r:Rat}(hr:0<r):∀ n,(stQ t (0,0) n)=(0,0)
 | 0=>rfl
 | n+1=>by
  show((stQ t (0,0) n).2,t*(stQ t (0,0) n).2 - (stQ t (0,0) n).1)=_
  rw[a0x hr n]
  show((0:Rat),t*0 - 0)=(0,0)
  congr 1;grind
theorem a0V{m:Q4}(hs:¬ r9 m){l:Rat × Rat × Rat}(hr:0<l.2.2)(hl:u4 m l.1 l.2.1 l.2.2=false)(h0:¬ l.2.2<e9 l.1)(n:Nat):¬ B9 (trQ m) l n:=by
 obtain⟨x,f,r⟩:=l
 have hr:0<r:=hr
 have h0:¬ r<e9 x:=h0
 have hl:u4 m x f r=false:=hl
 unfold u4 at hl
 rw[if_neg hs]at hl
 by_cases h2:e9 (trQ m)<2
 ·rw[if_pos h2]at hl
  obtain⟨t1,t2⟩:=O3.mp h2
  exact a3j t1 t2 hr (of_decide_eq_false hl) n
 ·rw[if_neg h2]at hl
  by_cases hw:swQ (trQ m) x f≠0
  ·rw[if_pos hw]at hl;cases hl
  ·rw[if_neg hw]at hl
   have hw:swQ (trQ m) x f=0:=c68 hw
   unfold B9
   show ¬ r<e9 (stQ (trQ m) (x,f) n).1
   by_cases hx:x=0
   ·have hf:f=0:=by
     rw[hx]at hw
     unfold swQ at hw
     grind
    rw[hx,hf,a0x hr n]
    have:e9 (0:Rat)=0:=by decide +kernel
    rw[this];grind
   ·have hk:(f / x)*(f / x) - trQ m*(f / x)+1=0:=by
     rw[b3w hx]at hw
     have:=c7y.mp hw
     rcases this with z|z
     ·rcases c7y.mp z with z|z<;>exact absurd z hx
     ·grind
    have ef:f=(f / x)*x:=by grind
    have h1:e9 (f / x)≤1:=by
     by_cases h3:e9 (trQ m)=2
     ·have ht:trQ m=2∨trQ m = -2:=by
       unfold e9 at h3;split at h3
       ·exact .inl h3
       ·exact .inr (by grind)
      rcases ht with ht|ht
      ·rw[ht]at hk
       have z:(f / x - 1)*(f / x - 1)=0:=by grind
       have:f / x=1:=by rcases c7y.mp z with z|z<;>grind
       rw[this];decide +kernel
      ·rw[ht]at hk
       have z:(f / x+1)*(f / x+1)=0:=by grind
       have:f / x = -1:=by rcases c7y.mp z with z|z<;>grind
       rw[this];decide +kernel
     ·rw[if_neg h3]at hl
      have hl:=of_decide_eq_false hl
      have h4:¬ e9 x<e9 f:=fun z=>hl (.inl z)
      rw[b9l (f:=f) hx]at h4
      have p:=a39 hx
      apply c68
      intro nz
      have:=c7J (a:=e9 (f / x) - 1) (b:=e9 x) (by grind) p
      grind
    rw[ef]
    exact b03 hk h1 h0 n
def a5R(m:Q4)(l:Rat × Rat × Rat):Prop:=∃ p q y u:Rat,l.1=p*y+q*u∧l.2.1=p*(m.1*y+m.2.1*u)+q*(m.2.2.1*y+m.2.2.2*u)
theorem a84{m:Q4}(hd:Y3 m=1){p q y u:Rat}:∀ n,stQ (trQ m) (p*y+q*u,p*(m.1*y+m.2.1*u)+q*(m.2.2.1*y+m.2.2.2*u)) n=(p*(K2 m (y,u) n).1+q*(K2 m (y,u) n).2,p*(K2 m (y,u) (n+1)).1+q*(K2 m (y,u) (n+1)).2)
 | 0=>rfl
 | n+1=>by
  show((stQ _ _ n).2,trQ m*(stQ _ _ n).2 - (stQ _ _ n).1)=_
  rw[a84 hd n,b3M hd (y,u) p q n]
theorem b6L{m:Q4}(hd:Y3 m=1)(hs:r9 m){l:Rat × Rat × Rat}(h:a5R m l)(n:Nat):stQ (trQ m) (l.1,l.2.1) (n+rtN m)=stQ (trQ m) (l.1,l.2.1) n:=by
 obtain⟨p,q,y,u,e1,e2⟩:=h
 obtain⟨n0,h1,h2,h3⟩:=b3K hd hs
 rw[a0O _ hs]at h1
 have h1:rtN m=n0:=by injection h1 with h1;omega
 subst h1
 have key:∀ k,K2 m (y,u) (k+rtN m)=K2 m (y,u) k:=fun k=>by
  have:pwQ m (k+rtN m)=pwQ m k:=by rw[← b3T m (rtN m) k,h3,(b4u (pwQ m k)).1]
  rw[a9u,a9u,this]
 rw[e1,e2,a84 hd,a84 hd,key n,show n+rtN m+1=(n+1)+rtN m by omega,key (n+1)]
theorem a3z{m:Q4}(hd:Y3 m=1)(hs:r9 m){l:Rat × Rat × Rat}(h:a5R m l)(hb:∀ n,n<rtN m→¬ B9 (trQ m) l n):∀ n,¬ B9 (trQ m) l n:=fun n=>by
 have hp:=b9T.mp hs
 induction n using Nat.strongRecOn with
 | _ n ih =>
  rcases c77 n (rtN m)with z|z
  ·exact hb n z
  ·have:=ih (n - rtN m) (by omega)
   unfold B9 at *
   rw[show n=(n - rtN m)+rtN m by omega,b6L hd hs h]
   exact this
theorem a33{near far:Rat}{bs:List (Str × Rat)}{y u:Rat}:∀ l∈u6 near bs far y u,a5R (tbQ (d8 near bs far)) l:=fun l hl=>by
 obtain⟨l0,_,rfl⟩:=c7q.mp hl
 have ol:=E3 (d8 near bs far) y u
 refine⟨l0.1,l0.2.1,y,u,rfl,?_⟩
 show l0.1*(g7 (d8 near bs far) (y,u)).1+l0.2.1*(g7 (d8 near bs far) (y,u)).2=_
 rw[ol.1,ol.2];rfl
def a2o(m:Q4):Prop:=r9 m∨e9 (trQ m)=2
def FS(m:Q4)(ls:List (Rat × Rat × Rat)):Option (Nat × Nat)→Prop
 | none=>∀ n k,(a2o m∨n<60)→A8 (trQ m) ls k n=false
 | some z=>A8 (trQ m) ls z.2 z.1=true∧(∀ n,n<z.1→∀ k,A8 (trQ m) ls k n=false)∧(∀ k,k<z.2→A8 (trQ m) ls k z.1=false)∧(a2o m∨z.1<60)
def A2(m:Q4)(ls:List (Rat × Rat × Rat)):List Nat:=((ls.zipIdx).filter fun z=>u4 m z.1.1 z.1.2.1 z.1.2.2).map Prod.snd
theorem Q6{m:Q4}{ls:List (Rat × Rat × Rat)}{k:Nat}:k∈A2 m ls ↔ ∃ l,ls[k]? = some l∧u4 m l.1 l.2.1 l.2.2=true:=by
 unfold A2
 rw[c7q]
 constructor
 ·rintro⟨z,hz,rfl⟩
  obtain⟨h1,h2⟩:=c78.mp hz
  exact⟨z.1,c7F.mp h1,h2⟩
 ·rintro⟨l,h1,h2⟩
  exact⟨(l,k),c78.mpr ⟨c7F.mpr h1,h2⟩,rfl⟩
theorem b7G(m:Q4)(ls:List (Rat × Rat × Rat)):(A2 m ls).Pairwise (· < ·):=by
 unfold A2
 have h:∀(xs:List (Rat × Rat × Rat)) (k:Nat),((xs.zipIdx k).map Prod.snd).Pairwise (· < ·):=fun xs k=>by
  rw[c9L];exact c9i
 have h0:=h ls 0
 rw[c9a]at h0 ⊢
 exact h0.filter _
theorem b4B{m:Q4}{ls:List (Rat × Rat × Rat)}{i j a b:Nat}(hi:(A2 m ls)[i]? = some a)(hj:(A2 m ls)[j]? = some b)(h:a<b):i<j:=by
 have pw:=b7G m ls
 rw[c86]at pw
 obtain⟨h1,e1⟩:=c6P.mp hi
 obtain⟨h2,e2⟩:=c6P.mp hj
 rcases c8n i j with z|z|z
 ·exact z
 ·subst z;rw[e1]at e2;omega
 ·have:=pw j i h2 h1 z
  rw[e1,e2]at this;omega
theorem a1D{t:Rat}{ls:List (Rat × Rat × Rat)}{k n:Nat}:A8 t ls k n=true ↔ ∃ l,ls[k]? = some l∧B9 t l n:=by
 unfold A8
 cases h:ls[k]? with
 | none=>simp
 | some l=>simp
theorem O2{t:Rat}{ls:List (Rat × Rat × Rat)}{k n:Nat}:A8 t ls k n=false ↔ ∀ l,ls[k]? = some l→¬ B9 t l n:=by
 unfold A8
 cases h:ls[k]? with
 | none=>simp
 | some l=>simp
theorem W2{t:Rat}{ls:List (Rat × Rat × Rat)}{ws:List Nat}{N:Nat}(h:L9 t ls ws N=none):∀ n,n<N→∀ k∈ws,A8 t ls k n=false:=by
 intro n hn k hk
 unfold L9 at h
 cases e:(c7K N).find? fun n=>ws.any fun k=>A8 t ls k n with
 | none =>
  have:=c8y.mp e n (c71.mpr hn)
  rw[c8L,c8m]at this
  have:=this k hk
  rwa [c8L]at this
 | some n2 =>
  rw[e]at h
  have h5:=List.find?_some e
  obtain⟨k2,h6,h7⟩:=d0a.mp h5
  cases e2:ws.find? fun k=>A8 t ls k n2 with
  | none=>exact absurd h7 (c8y.mp e2 k2 h6)
  | some k3 =>
   simp only[e2,d0c]at h
   cases h
theorem W1{t:Rat}{ls:List (Rat × Rat × Rat)}{ws:List Nat}{N:Nat}{z:Nat × Nat}(h:L9 t ls ws N=some z):z.1<N∧(∃ i:Nat,ws[i]? = some z.2∧∀ j:Nat,j<i→∀ k,ws[j]? = some k→A8 t ls k z.1=false)∧A8 t ls z.2 z.1=true∧∀ n,n<z.1→∀ k∈ws,A8 t ls k n=false:=by
 unfold L9 at h
 cases e:(c7K N).find? fun n=>ws.any fun k=>A8 t ls k n with
 | none=>rw[e]at h;cases h
 | some n2 =>
  rw[e]at h
  obtain⟨_,h2,h3⟩:=c88.mp e
  cases e2:ws.find? fun k=>A8 t ls k n2 with
  | none=>simp only[e2,Option.map_none]at h;cases h
  | some k3 =>
   simp only[e2,d0c]at h
   obtain rfl:=Option.some.inj h
   obtain⟨h4,i,hi,h5,h6⟩:=c8G.mp e2
   refine⟨c71.mp h2,⟨i,by rw[c7e hi,h5],fun j hj k hk=>?_⟩,h4,fun n hn k hk=>?_⟩
   ·have:=h6 j hj
    obtain⟨hl,e3⟩:=c6P.mp hk
    rw[e3]at this
    simpa using this
   ·have:=h3 n hn
    have:(ws.any fun k=>A8 t ls k n)=false:=by simpa using this
    have:=c8m.mp this k hk
    rwa [c8L]at this
theorem a5w{t x f:Rat}(ht:e9 t=2):∀ n:Nat,e9 (stQ t (x,f) n).1=e9 (x+(n:Rat)*((if 0<t then f else -f) - x)):=by
 have key:∀ n:Nat,∃ e:Rat,(e=1∨e = -1)∧(stQ t (x,f) n).1=e*(x+(n:Rat)*((if 0<t then f else -f) - x))∧(stQ t (x,f) n).2=e*(if 0<t then 1 else -1)*(x+((n:Rat)+1)*((if 0<t then f else -f) - x)):=by
  have h2:t=2∨t = -2:=by
   unfold e9 at ht;split at ht
   ·exact .inl ht
   ·exact .inr (by grind)
  intro n
  induction n with
  | zero =>
   refine⟨1,.inl rfl,?_,?_⟩
   ·show x=1*(x+((0:Nat):Rat)*_)
    rw[show((0:Nat):Rat)=0 from rfl];grind
   ·show f=1*(if 0<t then 1 else -1)*(x+(((0:Nat):Rat)+1)*((if 0<t then f else -f) - x))
    rw[show((0:Nat):Rat)=0 from rfl]
    split<;>grind
  | succ n ih =>
   obtain⟨e,he,e1,e2⟩:=ih
   have c:((n+1:Nat):Rat)=(n:Rat)+1:=by rw[Rat.natCast_add];rfl
   refine⟨e*(if 0<t then 1 else -1),?_,?_,?_⟩
   ·split<;>grind
   ·show(stQ t (x,f) n).2=_
    rw[e2,c]
   ·show t*(stQ t (x,f) n).2 - (stQ t (x,f) n).1=_
    rw[e1,e2,c]
    rcases h2 with h|h
    ·rw[h,if_pos (by decide),if_pos (by decide)];grind
    ·rw[h,if_neg (by decide),if_neg (by decide)];grind
 intro n
 obtain⟨e,he,e1,_⟩:=key n
 rw[e1,N5]
 have:e9 e=1:=by rcases he with rfl|rfl<;>decide +kernel
 rw[this];grind
theorem a87{t x f:Rat}(ht:e9 t=2)(h:swQ t x f≠0):(if 0<t then f else -f) - x≠0:=by
 have h2:t=2∨t = -2:=by
  unfold e9 at ht;split at ht
  ·exact .inl ht
  ·exact .inr (by grind)
 intro z
 apply h
 unfold swQ
 rcases h2 with h|h
 ·rw[h,if_pos (by decide)]at z
  have:f=x:=by grind
  rw[h,this];grind
 ·rw[h,if_neg (by decide)]at z
  have:f = -x:=by grind
  rw[h,this];grind
theorem a7X{t x f r:Rat}(ht:e9 t=2)(h0:¬ r<e9 x){d g:Rat}(hd:d=(if 0<t then f else -f) - x)(hdn:d≠0)(hg:g=if 0<d then r - x else r+x){N:Nat}(h1:(N:Rat)*e9 d≤g)(h2:g<((N:Rat)+1)*e9 d) :
  B9 t (x,f,r) (N+1)∧∀ n,n<N+1→¬ B9 t (x,f,r) n:=by
 have xr:x≤r∧-r≤x:=by
  unfold e9 at h0;split at h0<;>exact⟨by grind,by grind⟩
 have c:((N+1:Nat):Rat)=(N:Rat)+1:=by rw[Rat.natCast_add];rfl
 refine⟨?_,fun n hn=>?_⟩
 ·unfold B9
  show r<e9 (stQ t (x,f) (N+1)).1
  rw[a5w ht,← hd,c]
  by_cases p:0<d
  ·rw[if_pos p]at hg
   rw[show e9 d=d by unfold e9;rw[if_pos (by grind)]]at h2
   have:r<x+((N:Rat)+1)*d:=by grind
   unfold e9;split<;>grind
  ·rw[if_neg p]at hg
   rw[show e9 d = -d by unfold e9;rw[if_neg (by grind)]]at h2
   have:x+((N:Rat)+1)*d < -r:=by grind
   unfold e9;split<;>grind
 ·unfold B9
  show ¬ r<e9 (stQ t (x,f) n).1
  rw[a5w ht,← hd]
  have n0:(0:Rat)≤(n:Rat):=by exact_mod_cast c7L n
  have nN:(n:Rat)≤(N:Rat):=by exact_mod_cast c9U hn
  by_cases p:0<d
  ·rw[if_pos p]at hg
   rw[show e9 d=d by unfold e9;rw[if_pos (by grind)]]at h1
   have a1:=c7m (a:=(n:Rat)) (b:=d) n0 (by grind)
   have a2:=c7m (a:=(N:Rat) - (n:Rat)) (b:=d) (by grind) (by grind)
   unfold e9;split<;>grind
  ·rw[if_neg p]at hg
   rw[show e9 d = -d by unfold e9;rw[if_neg (by grind)]]at h1
   have a1:=c7m (a:=(n:Rat)) (b:=-d) n0 (by grind)
   have a2:=c7m (a:=(N:Rat) - (n:Rat)) (b:=-d) (by grind) (by grind)
   unfold e9;split<;>grind
theorem b1h(bs:List (Rat × Rat × Rat)):R0 (bs.map o8)=bs.zipIdx.map fun x=>D.tup [.int (x.2:Int),o8 x.1]:=by
 unfold R0
 refine c8I (by simp) fun i h1 h2=>?_
 simp
theorem b0H{q:Rat}{B P k l n:Nat}(h:q.den ∣ B)(hp:B ∣ q.den*P)(hq:q.num.natAbs<2 ^ k)(P0:0<P)(hP:P<2 ^ l)(hn:k+l≤n):(q.num*(B:Int).fdiv (q.den:Int)).natAbs<2 ^ n:=by
 obtain⟨c,rfl⟩:=h
 have e:((q.den*c:Nat):Int).fdiv (q.den:Int)=(c:Int):=by
  rw[J4 (by omega) (by omega),c8c]
  exact c8t _ (by have:=q.den_pos;omega)
 rw[e,c7n,c6N]
 have hc:c ∣ P:=Nat.dvd_of_mul_dvd_mul_left q.den_pos hp
 exact p9 (c7c (c8W _ (c9f P0 hc)) (j8 hq hP)) hn
local macro_rules|`(tactic| walk_at "inj")=>`(tactic| (rename_i e h;simp only[List.cons.injEq,and_true,true_and,GM.j9,GM.j3,GM.i3,GM.j4,GM.i4,D.tup.injEq,D.ref.injEq,D.int.injEq,D.str.injEq,D.bl.injEq,D.vl.injEq,c7g,and_assoc]at e;(repeat(obtain⟨e1,e⟩:=e;subst e1));subst e;exact h))
local macro_rules|`(tactic| walk_at "injs")=>`(tactic| (rename_i e o h;rcases o with o|o<;>(subst o;first|(exfalso;simp only[D.tup.injEq,List.cons.injEq,reduceCtorEq,false_and,and_false]at e;done)|(simp only[List.cons.injEq,and_true,true_and,GM.j9,GM.j3,GM.i3,GM.j4,GM.i4,D.tup.injEq,D.ref.injEq,D.int.injEq,D.str.injEq,D.bl.injEq,D.vl.injEq,c7g,and_assoc]at e;(repeat(obtain⟨e1,e⟩:=e;subst e1));subst e;exact h))))
abbrev a0d(x y:D)(M:Mem)(R:DK)(Y:DXK):Prop:=∃(m:Q4) (ls:List (Rat × Rat × Rat)),x=E7 m∧y = .vl (ls.map o8)∧(CDQ 230 m∧Y3 m=1∧ls.length≤40∧∀ l∈ls,a16 l)∧R (.vl ((A2 m ls).map fun k:Nat=>D.int (k:Int))) M
def a6u:DSp:=fun ds M R Y=>∃(x y:D),ds=[x,y]∧a0d x y M R Y
theorem a46{x y:D}{M:Mem}{R:DK}{Y:DXK}:a6u [x,y] M R Y=(a0d x y M R Y):=propext ⟨fun z=>by obtain⟨_,_,_,_⟩:=z;walk_at "inj",fun h=>⟨x,y,rfl,h⟩⟩
abbrev a09(t x f r:Rat)(M:Mem)(R:DK)(Y:DXK):Prop:=(e9 t=2∧a16 (x,f,r)∧¬ r<e9 x∧swQ t x f≠0)∧∀ N:Nat,B9 t (x,f,r) N→(∀ n,n<N→¬ B9 t (x,f,r) n)→R (.int (N:Int)) M
def a9i:DSp:=fun ds M R Y=>∃(t x f r:Rat),ds=[d9 t,d9 x,d9 f,d9 r]∧a09 t x f r M R Y
theorem a7l{t x f r:Rat}{M:Mem}{R:DK}{Y:DXK}:a9i [d9 t,d9 x,d9 f,d9 r] M R Y=(a09 t x f r M R Y):=propext ⟨fun z=>by obtain⟨_,_,_,_,_,_⟩:=z;walk_at "inj",fun h=>⟨t,x,f,r,rfl,h⟩⟩
abbrev a6x(t:Rat)(x y:D)(M:Mem)(R:DK)(Y:DXK):Prop:=∃(ls:List (Rat × Rat × Rat)) (ws:List Nat),x = .vl (ls.map o8)∧y = .vl (ws.map fun k:Nat=>D.int (k:Int))∧(e9 t=2∧(ls.length≤40∧ws.length≤40)∧(∀ l∈ls,a16 l∧¬ l.2.2<e9 l.1)∧∀ k∈ws,∃ l,ls[k]? = some l∧swQ t l.1 l.2.1≠0)∧(ws=[]→R .non M)∧∀ n k:Nat,k∈ws→A8 t ls k n=true→(∀ n',n'<n→∀ k'∈ws,A8 t ls k' n'=false)→(∀ k'∈ws,k'<k→A8 t ls k' n=false)→R (.tup [.int (n:Int),.int (k:Int)]) M
def b9R:DSp:=fun ds M R Y=>∃(t:Rat) (x y:D),ds=[d9 t,x,y]∧a6x t x y M R Y
theorem b2v{t:Rat}{x y:D}{M:Mem}{R:DK}{Y:DXK}:b9R [d9 t,x,y] M R Y=(a6x t x y M R Y):=propext ⟨fun z=>by obtain⟨_,_,_,_,_⟩:=z;walk_at "inj",fun h=>⟨t,x,y,rfl,h⟩⟩
abbrev a1m(x y z:D)(M:Mem)(R:DK)(Y:DXK):Prop:=∃(m:Q4) (ls:List (Rat × Rat × Rat)),x=E7 m∧y = .vl (ls.map o8)∧z = .vl ((A2 m ls).map fun k:Nat=>D.int (k:Int))∧(CDQ 230 m∧Y3 m=1∧ls.length≤40∧∀ l∈ls,a16 l∧a5R m l)∧∀ o,FS m ls o→R (a3m o) M
def a9r:DSp:=fun ds M R Y=>∃(x y z:D),ds=[x,y,z]∧a1m x y z M R Y
theorem a7y{x y z:D}{M:Mem}{R:DK}{Y:DXK}:a9r [x,y,z] M R Y=(a1m x y z M R Y):=propext ⟨fun z=>by obtain⟨_,_,_,_,_⟩:=z;walk_at "inj",fun h=>⟨x,y,z,rfl,h⟩⟩
def O8(m:Q4)(l:Rat × Rat × Rat):En:=if l.1=0∧l.2.1=0 then .one "nought" else if r9 m then .int "round" (rtN m:Int)else if e9 (trQ m)<2 then .rat "reach" (G8 (trQ m) l.1 l.2.1)else .rat "kept" (l.2.1 / l.1)
abbrev T5(w x:D)(a f:Rat)(M:Mem)(R:DK)(Y:DXK):Prop:=∃(m:Q4) (r:Rat),w = .str (kwS m)∧x=E7 m∧(CDQ 230 m∧Y3 m=1∧a16 (a,f,r)∧(¬ r9 m→¬ e9 (trQ m)<2→a=0→f=0))∧R (enD (O8 m (a,f,r))) M
def a3A:DSp:=fun ds M R Y=>∃(w x:D) (a f:Rat),ds=[w,x,d9 a,d9 f]∧T5 w x a f M R Y
theorem a2T{w x:D}{a f:Rat}{M:Mem}{R:DK}{Y:DXK}:a3A [w,x,d9 a,d9 f] M R Y=(T5 w x a f M R Y):=propext ⟨fun z=>by obtain⟨_,_,_,_,_,_⟩:=z;walk_at "inj",fun h=>⟨w,x,a,f,rfl,h⟩⟩
inductive EvR where
 | stopped (n k:Nat)
 | late (k:Nat)
 | never
def c3j(m:Q4)(ls:List (Rat × Rat × Rat)):EvR→Prop
 | .stopped n k=>FS m ls (some (n,k))
 | .late k=>FS m ls none∧(A2 m ls).head? = some k
 | .never=>FS m ls none∧A2 m ls=[]
def evD(ws:List (D × D))(m:Q4)(ls:List (Rat × Rat × Rat)):EvR→D
 | .stopped n k=>.tup [.str "stopped",.int (n:Int),(ws.getD k (.non,.non)).1,(ws.getD k (.non,.non)).2]
 | .late k=>.tup [.str "late",.int (k:Int)]
 | .never=>.tup [.str "never",.vl ((ls.map (O8 m)).map enD)]
abbrev a1n(near:Rat)(bs:List (Str × Rat))(far:Rat)(y u:Rat)(M:Mem)(R:DK)(Y:DXK):Prop:=(F3 near bs far∧∃ S,CD S y 0 u 0∧S≤1700)∧∀ r,c3j (tbQ (d8 near bs far)) (u6 near bs far y u) r→R (evD (G7 (g9 near bs far) (g9 near bs far).length) (tbQ (d8 near bs far)) (u6 near bs far y u) r) M
def b0R:DSp:=fun ds M R Y=>∃(x0:D) (near:Rat) (bs:List (Str × Rat)) (far:Rat) (y u:Rat),ds=[.tup [d9 near,x0,d9 far],A1 y u]∧(x0 = .vl (bs.map i0)∨x0 = .tup (bs.map i0))∧a1n near bs far y u M R Y
theorem b0f{near:Rat}{bs:List (Str × Rat)}{far:Rat}{y u:Rat}{M:Mem}{R:DK}{Y:DXK}:b0R [.tup [d9 near,.vl (bs.map i0),d9 far],A1 y u] M R Y=(a1n near bs far y u M R Y):=propext ⟨fun z=>by obtain⟨_,_,_,_,_,_,_,_,_⟩:=z;walk_at "injs",fun h=>⟨_,near,bs,far,y,u,rfl,.inl rfl,h⟩⟩
theorem a49{near:Rat}{bs:List (Str × Rat)}{far:Rat}{y u:Rat}{M:Mem}{R:DK}{Y:DXK}:b0R [.tup [d9 near,.tup (bs.map i0),d9 far],A1 y u] M R Y=(a1n near bs far y u M R Y):=propext ⟨fun z=>by obtain⟨_,_,_,_,_,_,_,_,_⟩:=z;walk_at "injs",fun h=>⟨_,near,bs,far,y,u,rfl,.inr rfl,h⟩⟩
end GM
namespace GM
open PySem PySem.Spec L2 DL
open RM (sz)
abbrev T3:=D × D × (Str × Rat)
def G6(T:List T3)(j:Nat)(z:T3):Rat × Rat × Rat:=((g7 ((T.map fun z=>z.2.2).take j) (1,0)).1,(g7 ((T.map fun z=>z.2.2).take j) (0,1)).1,z.2.2.2)
def a9Q(z:T3):Bool:=z.2.2.1 == Str.ofString "stop"
def K9(T:List T3)(i:Nat):List (T3 × Nat):=((T.take i).zipIdx).filter fun z=>a9Q z.1
theorem V9{z:T3}:a9Q z=true↔z.2.2.1 = "stop" := by unfold a9Q;exact beq_iff_eq
theorem b3X{T:List T3}{i:Nat}{z:T3}(h:T[i]? = some z):K9 T (i+1)=K9 T i++(if z.2.2.1 = "stop" then[(z,i)]else[]):=by
 have hl:=(c6P.mp h).1
 unfold K9
 rw[c73,h,List.zipIdx_append,c7H,c7P,Nat.min_eq_left (by omega)]
 congr 1
 show([(z,0+i)].filter fun z=>a9Q z.1)=_
 rw[c93]
 by_cases hz:z.2.2.1 = "stop"
 ·rw[if_pos hz,c9j (p:=fun z:T3 × Nat=>a9Q z.1) (V9.mpr hz)];rfl
 ·rw[if_neg hz,c9k (p:=fun z:T3 × Nat=>a9Q z.1) (fun e=>hz (V9.mp e))];rfl
theorem a7T(T:List T3):∀ i,i≤T.length→C2 (T.map fun z=>z.2.2) i=(K9 T i).map fun z=>G6 T z.2 z.1
 | 0,_=>rfl
 | i+1,h=>by
  have hz:=c7e (l:=T) (i:=i) (by omega)
  have hL:(T.map fun z=>z.2.2)[i]? = some (T[i]).2.2:=by rw[c6Y,hz];rfl
  rw[a5X hL,b3X hz,c7d,← a7T T i (by omega)]
  split
  ·rfl
  ·rw[c8d,c74]
theorem a7S(T:List T3):∀ i,i≤T.length→G7 T i=(K9 T i).map fun z=>(z.1.1,z.1.2.1)
 | 0,_=>rfl
 | i+1,h=>by
  have hz:=c7e (l:=T) (i:=i) (by omega)
  rw[J6,c73,hz,c7H,c7d,b3X hz,c7d,← a7S T i (by omega),J6]
  congr 1
  show(([T[i]].filter a9Q).map fun z=>(z.1,z.2.1))=_
  by_cases hs:(T[i]).2.2.1 = "stop"
  ·rw[if_pos hs,c9j (V9.mpr hs)];rfl
  ·rw[if_neg hs,c9k (fun e=>hs (V9.mp e))];rfl
theorem N8{T:List T3}{z:T3}{j:Nat}:(z,j)∈K9 T T.length↔T[j]? = some z∧z.2.2.1 = "stop" := by
 unfold K9
 rw[c7t,c78,c7F]
 exact and_congr Iff.rfl V9
theorem b7c{T:List T3}{i k:Nat}{a b:T3 × Nat}(hi:(K9 T T.length)[i]? = some a)(hk:(K9 T T.length)[k]? = some b):a.2<b.2↔i<k:=by
 have pw:((K9 T T.length).map Prod.snd).Pairwise (· < ·):=by
  unfold K9
  rw[c7t]
  have h:∀(xs:List T3) (k:Nat),((xs.zipIdx k).map Prod.snd).Pairwise (· < ·):=fun xs k=>by
   rw[c9L];exact c9i
  have h0:=h T 0
  rw[c9a]at h0 ⊢
  exact h0.filter _
 rw[c9a,c86]at pw
 obtain⟨h1,e1⟩:=c6P.mp hi
 obtain⟨h2,e2⟩:=c6P.mp hk
 rcases c8n i k with z|z|z
 ·have:=pw i k h1 h2 z
  rw[e1,e2]at this
  exact⟨fun _=>z,fun _=>this⟩
 ·subst z;rw[e1]at e2;subst e2
  exact⟨fun h=>absurd h (by omega),fun h=>absurd h (by omega)⟩
 ·have:=pw k i h2 h1 z
  rw[e1,e2]at this
  exact⟨fun h=>absurd h (by omega),fun h=>absurd h (by omega)⟩
def bT(t:Rat)(T:List T3)(y u:Rat)(n j:Nat):Prop:=∃ z,T[j]? = some z∧z.2.2.1 = "stop" ∧ B9 t (y7 (T.map fun z=>z.2.2) y u (G6 T j z)) n
def laT(m:Q4)(T:List T3)(y u:Rat)(j:Nat):Prop:=∃ z,T[j]? = some z∧z.2.2.1 = "stop" ∧ u4 m (y7 (T.map fun z=>z.2.2) y u (G6 T j z)).1 (y7 (T.map fun z=>z.2.2) y u (G6 T j z)).2.1 z.2.2.2=true
theorem a5I(near far:Rat)(bs:List (Str × Rat))(y u:Rat):u6 near bs far y u=(K9 (g9 near bs far) (g9 near bs far).length).map fun z=>y7 ((g9 near bs far).map fun z=>z.2.2) y u (G6 (g9 near bs far) z.2 z.1):=by
 unfold u6
 rw[← E5,← L0,a7T _ _ (c7b _),c7N];rfl
section
variable {m:Q4} {T:List T3} {y u:Rat} {ls:List (Rat × Rat × Rat)}
theorem a1C(hls:ls=(K9 T T.length).map fun z=>y7 (T.map fun z=>z.2.2) y u (G6 T z.2 z.1)){t:Rat}{i n:Nat}{z:T3 × Nat}(h:(K9 T T.length)[i]? = some z):A8 t ls i n=true↔bT t T y u n z.2:=by
 have hm:=c6S h
 obtain⟨hz,hs⟩:=N8.mp (show(z.1,z.2)∈_ from hm)
 have e:ls[i]? = some (y7 (T.map fun z=>z.2.2) y u (G6 T z.2 z.1)):=by rw[hls,c6Y,h];rfl
 rw[a1D]
 constructor
 ·rintro⟨l,hl,hb⟩
  rw[e]at hl
  obtain rfl:=Option.some.inj hl
  exact⟨z.1,hz,hs,hb⟩
 ·rintro⟨z2,hz2,_,hb⟩
  rw[hz]at hz2
  obtain rfl:=Option.some.inj hz2
  exact⟨_,e,hb⟩
theorem b5B{t:Rat}{n j:Nat}(h:bT t T y u n j):∃(i:Nat) (z:T3),(K9 T T.length)[i]? = some (z,j):=by
 obtain⟨z,hz,hs,_⟩:=h
 obtain⟨i,hi⟩:=c7G (N8.mpr ⟨hz,hs⟩)
 exact⟨i,z,hi⟩
theorem a8v(hls:ls=(K9 T T.length).map fun z=>y7 (T.map fun z=>z.2.2) y u (G6 T z.2 z.1)):A2 m ls=[] ↔ ∀ j,¬ laT m T y u j:=by
 constructor
 ·rintro h j ⟨z,hz,hs,hb⟩
  obtain⟨i,hi⟩:=c7G (N8.mpr ⟨hz,hs⟩)
  have:i∈A2 m ls:=Q6.mpr ⟨_,by rw[hls,c6Y,hi];rfl,hb⟩
  rw[h]at this;cases this
 ·intro h
  apply c68
  intro hn
  obtain⟨i,hi⟩:=List.exists_mem_of_ne_nil _ hn
  obtain⟨l,hl,hb⟩:=Q6.mp hi
  rw[hls,c6Y]at hl
  obtain⟨z,hz,rfl⟩:=c7s.mp hl
  obtain⟨h1,h2⟩:=N8.mp (show(z.1,z.2)∈_ from c6S hz)
  exact h z.2 ⟨z.1,h1,h2,hb⟩
def NoT(m:Q4)(T:List T3)(y u:Rat):Prop:=∀ n j,(a2o m∨n<60)→¬ bT (trQ m) T y u n j
def AtT(m:Q4)(T:List T3)(y u:Rat)(n j:Nat):Prop:=bT (trQ m) T y u n j∧(∀ n',n'<n→∀ j',¬ bT (trQ m) T y u n' j')∧(∀ j',j'<j→¬ bT (trQ m) T y u n j')∧(a2o m∨n<60)
theorem b1t(hls:ls=(K9 T T.length).map fun z=>y7 (T.map fun z=>z.2.2) y u (G6 T z.2 z.1)):FS m ls none↔NoT m T y u:=by
 constructor
 ·intro h n j hn hb
  obtain⟨i,z,hi⟩:=b5B hb
  have:=h n i hn
  rw[(a1C hls hi).mpr hb]at this;cases this
 ·intro h n i hn
  cases e:(K9 T T.length)[i]? with
  | none=>exact O2.mpr fun l hl=>by rw[hls,c6Y,e]at hl;cases hl
  | some z =>
   cases e2:A8 (trQ m) ls i n with
   | false=>rfl
   | true=>exact absurd ((a1C hls e).mp e2) (h n z.2 hn)
theorem b8a(hls:ls=(K9 T T.length).map fun z=>y7 (T.map fun z=>z.2.2) y u (G6 T z.2 z.1)){n i:Nat}(h:FS m ls (some (n,i))):∃ z:T3 × Nat,(K9 T T.length)[i]? = some z∧AtT m T y u n z.2:=by
 obtain⟨h1,h2,h3,h4⟩:=h
 have h1:A8 (trQ m) ls i n=true:=h1
 obtain⟨l,hl,_⟩:=a1D.mp h1
 rw[hls,c6Y]at hl
 obtain⟨z,hz,_⟩:=c7s.mp hl
 refine⟨z,hz,(a1C hls hz).mp h1,fun n' hn' j' hb=>?_,fun j' hj' hb=>?_,h4⟩
 ·obtain⟨i',z',hi'⟩:=b5B hb
  have:=h2 n' hn' i'
  rw[(a1C hls hi').mpr hb]at this;cases this
 ·obtain⟨i',z',hi'⟩:=b5B hb
  have:=h3 i' ((b7c hi' hz).mp hj')
  have this:A8 (trQ m) ls i' n=false:=this
  rw[(a1C hls hi').mpr hb]at this;cases this
end
def EvT(m:Q4)(T:List T3)(y u:Rat)(d:D):Prop :=
 (∃(n j:Nat) (z:T3),d = .tup [.str "stopped",.int (n:Int),z.1,z.2.1]∧T[j]? = some z∧z.2.2.1 = "stop" ∧ AtT m T y u n j) ∨
 (∃ k:Nat,d = .tup [.str "late",.int (k:Int)]∧NoT m T y u∧∃ j,laT m T y u j) ∨
 (∃ es:List En,d = .tup [.str "never",.vl (es.map enD)]∧NoT m T y u∧(∀ j,¬ laT m T y u j)∧es=((K9 T T.length).map fun z=>O8 m (y7 (T.map fun z=>z.2.2) y u (G6 T z.2 z.1))))
theorem b7U{near far:Rat}{bs:List (Str × Rat)}{y u:Rat}{r:EvR}(h:c3j (tbQ (d8 near bs far)) (u6 near bs far y u) r):EvT (tbQ (d8 near bs far)) (g9 near bs far) y u (evD (G7 (g9 near bs far) (g9 near bs far).length) (tbQ (d8 near bs far)) (u6 near bs far y u) r):=by
 have hls:=a5I near far bs y u
 cases r with
 | stopped n i =>
  obtain⟨z,hz,hat⟩:=b8a hls h
  obtain⟨h1,h2⟩:=N8.mp (show(z.1,z.2)∈_ from c6S hz)
  refine .inl ⟨n,z.2,z.1,?_,h1,h2,hat⟩
  have e:(G7 (g9 near bs far) (g9 near bs far).length).getD i (.non,.non)=(z.1.1,z.1.2.1):=by
   rw[a7S _ _ (c7b _),c7C,c6Y,hz];rfl
  show D.tup [D.str (Str.ofString "stopped"),D.int (n:Int),((G7 (g9 near bs far) (g9 near bs far).length).getD i (.non,.non)).1,((G7 (g9 near bs far) (g9 near bs far).length).getD i (.non,.non)).2]=_
  rw[e]
 | late k =>
  obtain⟨h1,h2⟩:=h
  refine .inr (.inl ⟨k,rfl,(b1t hls).mp h1,?_⟩)
  apply c68
  intro hn
  have:=(a8v (m:=tbQ (d8 near bs far)) hls).mpr fun j hj=>hn ⟨j,hj⟩
  rw[this]at h2;cases h2
 | never =>
  obtain⟨h1,h2⟩:=h
  refine .inr (.inr ⟨_,rfl,(b1t hls).mp h1,(a8v hls).mp h2,?_⟩)
  rw[hls,c7N];rfl
def wS:D→Str
 | .tup (.str w :: _)=>w
 | _ => ""
def nS:D→Int
 | .tup (_ :: .int n :: _)=>n
 | _=>0
theorem b1I(m:Q4)(l:Rat × Rat × Rat):cl 58 (enD (O8 m l))=true:=by
 unfold O8
 have c1:PyData.canLay0 (.str (Str.ofString "nought"))=true:=by decide +kernel
 have c2:PyData.canLay0 (.str (Str.ofString "round"))=true:=by decide +kernel
 have c3:PyData.canLay0 (.str (Str.ofString "reach"))=true:=by decide +kernel
 have c4:PyData.canLay0 (.str (Str.ofString "kept"))=true:=by decide +kernel
 split
 ·show(PyData.canLay0 (.str (Str.ofString "nought")) && true)=true
  rw[c1];rfl
 ·split
  ·show(PyData.canLay0 (.str (Str.ofString "round")) && (true && true))=true
   rw[c2];rfl
  ·split
   ·show(PyData.canLay0 (.str (Str.ofString "reach")) && (cl 56 (d9 (G8 (trQ m) l.1 l.2.1)) && true))=true
    rw[c3];rfl
   ·show(PyData.canLay0 (.str (Str.ofString "kept")) && (cl 56 (d9 (l.2.1 / l.1)) && true))=true
    rw[c4];rfl
theorem a60{m:Q4}{T:List T3}{y u:Rat}{d:D}(hT:∀ z∈T,cl 59 z.1=true∧cl 59 z.2.1=true)(h:EvT m T y u d):cl 60 d=true:=by
 have c1:PyData.canLay0 (.str (Str.ofString "stopped"))=true:=by decide +kernel
 have c2:PyData.canLay0 (.str (Str.ofString "late"))=true:=by decide +kernel
 have c3:PyData.canLay0 (.str (Str.ofString "never"))=true:=by decide +kernel
 rcases h with⟨n,j,z,rfl,hz,_⟩|⟨k,rfl,_⟩|⟨es,rfl,_,_,rfl⟩
 ·obtain⟨a,b⟩:=hT z (c6S hz)
  show(PyData.canLay0 (.str (Str.ofString "stopped")) && (true && (cl 59 z.1 && (cl 59 z.2.1 && true))))=true
  rw[c1,a,b];rfl
 ·show(PyData.canLay0 (.str (Str.ofString "late")) && (true && true))=true
  rw[c2];rfl
 ·show(PyData.canLay0 (.str (Str.ofString "never")) && (cl 59 (.vl _) && true))=true
  have:clL 58 ((((K9 T T.length).map fun z=>O8 m (y7 (T.map fun z=>z.2.2) y u (G6 T z.2 z.1)))).map enD)=true:=c0T fun d hd=>by
   obtain⟨e,he,rfl⟩:=c7q.mp hd
   obtain⟨z,_,rfl⟩:=c7q.mp he
   exact b1I _ _
  rw[c3]
  show(true && (clL 58 _ && true))=true
  rw[this];rfl
theorem O1{m:Q4}{T:List T3}{y u:Rat}{d:D}(h:EvT m T y u d):∃ r,d = .tup (.str (wS d) :: r):=by
 rcases h with⟨n,j,z,rfl,_⟩|⟨k,rfl,_⟩|⟨es,rfl,_⟩
 ·exact⟨_,rfl⟩
 ·exact⟨_,rfl⟩
 ·exact⟨_,rfl⟩
theorem L3{m:Q4}{T:List T3}{y u:Rat}{d:D}(h:EvT m T y u d)(hw:wS d = "stopped"):∃(n j:Nat) (z:T3),d = .tup [.str "stopped",.int (n:Int),z.1,z.2.1]∧T[j]? = some z∧z.2.2.1 = "stop" ∧ AtT m T y u n j:=by
 rcases h with h|⟨k,rfl,_⟩|⟨es,rfl,_⟩
 ·exact h
 ·exact absurd hw (show ¬ Str.ofString "late" = Str.ofString "stopped" by decide)
 ·exact absurd hw (show ¬ Str.ofString "never" = Str.ofString "stopped" by decide)
theorem U4{m:Q4}{T:List T3}{y u:Rat}{d:D}(h:EvT m T y u d)(hw:wS d = "late"):NoT m T y u∧∃ j,laT m T y u j:=by
 rcases h with⟨n,j,z,rfl,_⟩|⟨k,rfl,h⟩|⟨es,rfl,_⟩
 ·exact absurd hw (show ¬ Str.ofString "stopped" = Str.ofString "late" by decide)
 ·exact h
 ·exact absurd hw (show ¬ Str.ofString "never" = Str.ofString "late" by decide)
theorem N2{m:Q4}{T:List T3}{y u:Rat}{d:D}(h:EvT m T y u d)(hw:wS d = "never"):NoT m T y u∧∀ j,¬ laT m T y u j:=by
 rcases h with⟨n,j,z,rfl,_⟩|⟨k,rfl,_⟩|⟨es,rfl,h1,h2,_⟩
 ·exact absurd hw (show ¬ Str.ofString "stopped" = Str.ofString "never" by decide)
 ·exact absurd hw (show ¬ Str.ofString "late" = Str.ofString "never" by decide)
 ·exact⟨h1,h2⟩
theorem D7{m:Q4}{T:List T3}{y u:Rat}{d:D}(h:EvT m T y u d):wS d = "stopped" ∨ wS d = "late" ∨ wS d = "never" := by
 rcases h with⟨n,j,z,rfl,_⟩|⟨k,rfl,_⟩|⟨es,rfl,_⟩
 ·exact .inl rfl
 ·exact .inr (.inl rfl)
 ·exact .inr (.inr rfl)
theorem c3b{m:Q4}{T:List T3}{y u:Rat}{n j:Nat}(h:AtT m T y u n j)(g:NoT m T y u):False:=g n j h.2.2.2 h.1
end GM
namespace GM
open PySem PySem.Spec L2 DL
open RM (sz)
def b4N(m:Q4)(l:Rat × Rat × Rat):Prop:=(∀ n,(a2o m∨n<60)→¬ B9 (trQ m) l n)∧u4 m l.1 l.2.1 l.2.2=false
def pE(m:Q4)(l:Rat × Rat × Rat):En:=if l.1=0∧l.2.1=0 then .one "nought" else if r9 m then .int "round" (rtN m:Int)else if e9 (trQ m)<2 then .rat "reach" (G8 (trQ m) l.1 l.2.1)else if l.1=0 then .rat "kept" 1 else .rat "kept" (l.2.1 / l.1)
theorem a5D(m:Q4){r:Rat}(hr:0<r):u4 m 0 0 r=false:=by
 unfold u4
 have a0:e9 (0:Rat)=0:=by decide +kernel
 split
 ·rfl
 ·split
  ·rw[show G8 (trQ m) 0 0=0 by unfold G8;grind]
   refine decide_eq_false fun z=>?_
   have:=c7J hr hr
   grind
  ·rw[if_neg (fun z=>z (by unfold swQ;grind))]
   split
   ·rfl
   ·rw[a0];refine decide_eq_false fun z=>?_
    rcases z with z|z<;>grind
theorem a1Y{m:Q4}(h:r9 m)(x f r:Rat):u4 m x f r=false:=by unfold u4;rw[if_pos h]
theorem b1X{m:Q4}(hs:¬ r9 m)(h3:¬ e9 (trQ m)<2){x f r:Rat}(hr:0<r)(hx:x≠0):(¬ 1<e9 (f / x)∧(f / x)*(f / x)+1=trQ m*(f / x)∧(f / x)*x=f∧¬ r<e9 x)↔(¬ r<e9 x∧u4 m x f r=false):=by
 have fx:(f / x)*x=f:=by grind
 have sw:swQ (trQ m) x f=0↔(f / x)*(f / x)+1=trQ m*(f / x):=by
  rw[b3w hx]
  constructor
  ·intro z
   rcases c7y.mp z with z|z
   ·rcases c7y.mp z with z|z<;>exact absurd z hx
   ·grind
  ·intro z
   have:1 - trQ m*(f / x)+f / x*(f / x)=0:=by grind
   rw[this];grind
 have ab:=b9l (f:=f) hx
 have ap:=a39 hx
 unfold u4
 rw[if_neg hs,if_neg h3]
 constructor
 ·rintro⟨h1,h2,_,h4⟩
  refine⟨h4,?_⟩
  rw[if_neg (fun z=>z (sw.mpr h2))]
  split
  ·rfl
  ·refine decide_eq_false fun z=>?_
   rcases z with z|z
   ·rw[ab]at z
    have:=c7m (a:=1 - e9 (f / x)) (b:=e9 x) (by grind) (by grind)
    grind
   ·exact h4 z
 ·rintro⟨h4,h5⟩
  by_cases hw:swQ (trQ m) x f≠0
  ·rw[if_pos hw]at h5;cases h5
  ·rw[if_neg hw]at h5
   have hw:swQ (trQ m) x f=0:=c68 hw
   have h2:=sw.mp hw
   refine⟨fun z=>?_,h2,fx,h4⟩
   by_cases ht:e9 (trQ m)=2
   ·have ht:trQ m=2∨trQ m = -2:=by
     unfold e9 at ht;split at ht
     ·exact .inl ht
     ·exact .inr (by grind)
    generalize f / x=q at *
    have hq:q=1∨q = -1:=by
     rcases ht with ht|ht
     ·rw[ht]at h2
      have z:(q - 1)*(q - 1)=0:=by grind
      exact .inl (by rcases c7y.mp z with z|z<;>grind)
     ·rw[ht]at h2
      have z:(q+1)*(q+1)=0:=by grind
      exact .inr (by rcases c7y.mp z with z|z<;>grind)
    rcases hq with rfl|rfl
    ·exact absurd z (by decide +kernel)
    ·exact absurd z (by decide +kernel)
   ·rw[if_neg ht]at h5
    apply of_decide_eq_false h5
    left
    rw[ab]
    have:=c7J (a:=e9 (f / x) - 1) (b:=e9 x) (by grind) ap
    grind
theorem a5B{m:Q4}(hd:Y3 m=1){l:Rat × Rat × Rat}(hr:0<l.2.2)(hf:a5R m l):V2 m l (pE m l)↔b4N m l:=by
 obtain⟨x,f,r⟩:=l
 have hr:0<r:=hr
 unfold pE
 by_cases h0:x=0∧f=0
 ·rw[if_pos (show(x,f,r).1=0∧(x,f,r).2.1=0 from h0)]
  obtain⟨rfl,rfl⟩:=h0
  refine⟨fun _=>⟨fun n _=>?_,a5D m hr⟩,fun _=>⟨rfl,rfl,rfl⟩⟩
  unfold B9
  show ¬ r<e9 (stQ (trQ m) (0,0) n).1
  rw[a0x hr n,show e9 (0:Rat)=0 by decide +kernel];grind
 ·rw[if_neg (show ¬ ((x,f,r).1=0∧(x,f,r).2.1=0)from h0)]
  by_cases hs:r9 m
  ·rw[if_pos hs]
   exact⟨fun h=>⟨fun n _=>a3z hd hs hf h.2.2.2 n,a1Y hs _ _ _⟩,fun h=>⟨rfl,hs,rfl,fun j _=>h.1 j (.inl (.inl hs))⟩⟩
  ·rw[if_neg hs]
   by_cases h2:e9 (trQ m)<2
   ·rw[if_pos h2]
    obtain⟨t1,t2⟩:=O3.mp h2
    have lt:u4 m x f r=decide (r*r<G8 (trQ m) x f):=by unfold u4;rw[if_neg hs,if_pos h2]
    constructor
    ·rintro(h|h)
     ·exact⟨fun n _=>a3j t1 t2 hr h.2.2.2 n,by show u4 m x f r=false;rw[lt];exact decide_eq_false h.2.2.2⟩
     ·exact absurd h.1 (by decide)
    ·intro h
     have h5:u4 m x f r=false:=h.2
     rw[lt]at h5
     exact .inl ⟨rfl,⟨hs,h2⟩,rfl,of_decide_eq_false h5⟩
   ·rw[if_neg h2]
    by_cases hx:x=0
    ·rw[if_pos (show(x,f,r).1=0 from hx)]
     have hf0:f≠0:=fun z=>h0 ⟨hx,z⟩
     constructor
     ·rintro(h|h)
      ·exact absurd h.1 (by decide)
      ·exact absurd (show f=0 by have:=h.2.2.2.1;have this:1*x=f:=this;rw[hx]at this;grind) hf0
     ·intro h
      have h5:u4 m x f r=false:=h.2
      unfold u4 at h5
      rw[if_neg hs,if_neg h2,if_pos (by rw[hx];unfold swQ;grind)]at h5
      cases h5
    ·rw[if_neg (show ¬ (x,f,r).1=0 from hx)]
     have kg:=b1X (f:=f) hs h2 hr hx
     constructor
     ·rintro(h|h)
      ·exact absurd h.1 (by decide)
      ·obtain⟨h4,h5⟩:=kg.mp h.2
       exact⟨fun n _=>a0V (l:=(x,f,r)) hs hr h5 h4 n,h5⟩
     ·intro h
      exact .inr ⟨rfl,kg.mpr ⟨h.1 0 (.inr (by decide)),h.2⟩⟩
theorem a7U(t:Rat)(p:Rat × Rat):∀ n,stQ t (p.2,t*p.2 - p.1) n=stQ t p (n+1)
 | 0=>rfl
 | n+1=>by
  show((stQ t (p.2,t*p.2 - p.1) n).2,t*(stQ t (p.2,t*p.2 - p.1) n).2 - (stQ t (p.2,t*p.2 - p.1) n).1)=_
  rw[a7U t p n];rfl
theorem b2j{t x f r:Rat}{n:Nat}:B9 t (f,t*f - x,r) n↔B9 t (x,f,r) (n+1):=by
 unfold B9
 show r<e9 (stQ t (f,t*f - x) n).1↔r<e9 (stQ t (x,f) (n+1)).1
 rw[a7U t (x,f) n]
theorem a30{m:Q4}{x f r:Rat}(hr:0<r):(u4 m f (trQ m*f - x) r=true→u4 m x f r=true)∧(u4 m x f r=true→¬ r<e9 x→¬ r<e9 f→u4 m f (trQ m*f - x) r=true):=by
 by_cases hs:r9 m
 ·rw[a1Y hs,a1Y hs];exact⟨fun h=>h,fun h=>by cases h⟩
 ·by_cases h2:e9 (trQ m)<2
  ·have e:∀ a b:Rat,u4 m a b r=decide (r*r<G8 (trQ m) a b):=fun a b=>by unfold u4;rw[if_neg hs,if_pos h2]
   have er:G8 (trQ m) f (trQ m*f - x)=G8 (trQ m) x f:=by
    have:=a5W (trQ m) x f
    show 4*swQ (trQ m) f (trQ m*f - x) / (4 - trQ m*trQ m)=4*swQ (trQ m) x f / (4 - trQ m*trQ m)
    rw[this]
   rw[e,e,er];exact⟨fun h=>h,fun h _ _=>h⟩
  ·have e:∀ a b:Rat,u4 m a b r=if swQ (trQ m) a b≠0 then true else if e9 (trQ m)=2 then false else decide (e9 a<e9 b∨r<e9 a):=fun a b=>by unfold u4;rw[if_neg hs,if_neg h2]
   rw[e,e,a5W]
   by_cases hw:swQ (trQ m) x f≠0
   ·rw[if_pos hw,if_pos hw];exact⟨fun _=>rfl,fun _ _ _=>rfl⟩
   ·rw[if_neg hw,if_neg hw]
    have hw:swQ (trQ m) x f=0:=c68 hw
    by_cases ht:e9 (trQ m)=2
    ·rw[if_pos ht,if_pos ht];exact⟨fun h=>h,fun h=>by cases h⟩
    ·rw[if_neg ht,if_neg ht]
     simp only[decide_eq_true_eq]
     have a0:e9 (0:Rat)=0:=by decide +kernel
     by_cases hx:x=0
     ·have hf:f=0:=by rw[hx]at hw;unfold swQ at hw;grind
      rw[hx,hf,show trQ m*0 - (0:Rat)=0 by grind,a0]
      exact⟨fun h=>h,fun h _ _=>h⟩
     ·have hk:(f / x)*(f / x) - trQ m*(f / x)+1=0:=by
       rw[b3w hx]at hw
       rcases c7y.mp hw with z|z
       ·rcases c7y.mp z with z|z<;>exact absurd z hx
       ·grind
      have ef:f=(f / x)*x:=by grind
      generalize f / x=q at *
      have q0:q≠0:=fun z=>by rw[z]at hk;grind
      have e2:trQ m*f - x=q*f:=by
       rw[ef]
       have:(q*q - trQ m*q+1)*x=0:=by rw[hk];grind
       grind
      have xp:=a39 hx
      have fq:e9 f=e9 q*e9 x:=by rw[ef,N5]
      have f2:e9 (trQ m*f - x)=e9 q*e9 f:=by rw[e2,N5]
      have qp:=a39 q0
      rw[f2]
      have key:e9 f<e9 q*e9 f↔e9 x<e9 f:=by
       have fp:0<e9 f:=by rw[fq];exact c7J qp xp
       constructor
       ·intro z
        apply c68
        intro nz
        have h1:e9 q≤1:=by
         apply c68
         intro n1
         have:=c7J (a:=e9 q - 1) (b:=e9 x) (by grind) xp
         grind
        have:=c7m (a:=1 - e9 q) (b:=e9 f) (by grind) (by grind)
        grind
       ·intro z
        have h1:1<e9 q:=by
         apply c68
         intro n1
         have:=c7m (a:=1 - e9 q) (b:=e9 x) (by grind) (by grind)
         grind
        have:=c7J (a:=e9 q - 1) (b:=e9 f) (by grind) fp
        grind
      rw[key]
      refine⟨fun h=>?_,fun h h1 h3=>?_⟩
      ·rcases h with h|h
       ·exact .inl h
       ·by_cases z:e9 x<e9 f
        ·exact .inl z
        ·exact .inr (by grind)
      ·rcases h with h|h
       ·exact .inl h
       ·exact absurd h h1
theorem a7V(t c:Rat)(p:Rat × Rat):∀ n,stQ t (p.1*c,p.2*c) n=((stQ t p n).1*c,(stQ t p n).2*c)
 | 0=>rfl
 | n+1=>by
  show((stQ t (p.1*c,p.2*c) n).2,t*(stQ t (p.1*c,p.2*c) n).2 - (stQ t (p.1*c,p.2*c) n).1)=_
  rw[a7V t c p n]
  show((stQ t p n).2*c,t*((stQ t p n).2*c) - (stQ t p n).1*c)=((stQ t p n).2*c,(t*(stQ t p n).2 - (stQ t p n).1)*c)
  congr 1;grind
theorem a5Q{t x f r c:Rat}{n:Nat}:B9 t (x*c,f*c,r) n↔r<e9 (stQ t (x,f) n).1*e9 c:=by
 unfold B9
 show r<e9 (stQ t (x*c,f*c) n).1↔_
 rw[a7V t c (x,f) n,N5]
theorem b5D(a:Rat):0≤e9 a:=by unfold e9;split<;>grind
theorem b5z{t x f r c:Rat}(hc:1≤e9 c){n:Nat}(h:B9 t (x,f,r) n):B9 t (x*c,f*c,r) n:=by
 rw[a5Q]
 have h:r<e9 (stQ t (x,f) n).1:=h
 have:=c7m (a:=e9 (stQ t (x,f) n).1) (b:=e9 c - 1) (b5D _) (by grind)
 grind
theorem b5A{t x f r c:Rat}(hc:e9 c≤1){n:Nat}(h:B9 t (x*c,f*c,r) n):B9 t (x,f,r) n:=by
 rw[a5Q]at h
 show r<e9 (stQ t (x,f) n).1
 have:=c7m (a:=e9 (stQ t (x,f) n).1) (b:=1 - e9 c) (b5D _) (by grind)
 grind
theorem a5E{m:Q4}{x f r c:Rat}(hr:0<r)(hc:1≤e9 c)(h:u4 m x f r=true):u4 m (x*c) (f*c) r=true:=by
 have c2:1≤c*c:=by
  have e:e9 c*e9 c=c*c:=by unfold e9;split<;>grind
  have:=c7m (a:=e9 c - 1) (b:=e9 c+1) (by grind) (by grind)
  grind
 have sws:swQ (trQ m) (x*c) (f*c)=swQ (trQ m) x f*(c*c):=by unfold swQ;grind
 unfold u4 at h ⊢
 by_cases hs:r9 m
 ·rw[if_pos hs]at h;cases h
 ·rw[if_neg hs]at h ⊢
  by_cases h2:e9 (trQ m)<2
  ·rw[if_pos h2]at h ⊢
   have h:=of_decide_eq_true h
   refine decide_eq_true ?_
   have er:G8 (trQ m) (x*c) (f*c)=G8 (trQ m) x f*(c*c):=by
    show 4*swQ (trQ m) (x*c) (f*c) / (4 - trQ m*trQ m)=4*swQ (trQ m) x f / (4 - trQ m*trQ m)*(c*c)
    rw[sws];grind
   rw[er]
   have rr:=c7J hr hr
   have:=c7m (a:=G8 (trQ m) x f) (b:=c*c - 1) (by grind) (by grind)
   grind
  ·rw[if_neg h2]at h ⊢
   by_cases hw:swQ (trQ m) x f≠0
   ·rw[if_pos (fun z=>by rw[sws]at z;exact(c7y.mp z).elim hw (fun z=>by grind))]
   ·rw[if_neg hw]at h
    rw[if_neg (by rw[sws,c68 hw];grind)]
    by_cases ht:e9 (trQ m)=2
    ·rw[if_pos ht]at h;cases h
    ·rw[if_neg ht]at h ⊢
     have h:=of_decide_eq_true h
     refine decide_eq_true ?_
     rw[N5,N5]
     rcases h with h|h
     ·left
      have:=c7J (a:=e9 f - e9 x) (b:=e9 c) (by grind) (by grind)
      grind
     ·right
      have:=c7m (a:=e9 x) (b:=e9 c - 1) (b5D _) (by grind)
      grind
theorem b1W{m:Q4}{x f r c:Rat}(hr:0<r)(hc:e9 c≤1)(h:u4 m (x*c) (f*c) r=true):u4 m x f r=true:=by
 by_cases c0:c=0
 ·rw[c0,show x*0=0 by grind,show f*0=0 by grind,a5D m hr]at h;cases h
 ·have:=a5E (c:=1 / c) hr (by
   have e:e9 (1 / c)*e9 c=1:=by rw[← N5,show 1 / c*c=1 by grind];decide +kernel
   have p:=a39 c0
   apply c68
   intro nz
   have:=c7J (a:=1 - e9 (1 / c)) (b:=e9 c) (by grind) p
   grind) h
  rw[show x*c*(1 / c)=x by grind,show f*c*(1 / c)=f by grind]at this
  exact this
end GM
namespace GM
open PySem PySem.Spec L2 DL
open RM (sz)
section
variable {near far:Rat} {bs:List (Str × Rat)} {y u:Rat}
theorem a1X(l:Rat × Rat × Rat):y7 (d8 near bs far) (g7 (d8 near bs far) (y,u)).1 (g7 (d8 near bs far) (y,u)).2 l=((y7 (d8 near bs far) y u l).2.1,trQ (tbQ (d8 near bs far))*(y7 (d8 near bs far) y u l).2.1 - (y7 (d8 near bs far) y u l).1,l.2.2):=by
 have r0:=b3M (a5V (d8 near bs far)) (y,u) l.1 l.2.1 0
 have o1:g7 (d8 near bs far) (y,u)=K2 (tbQ (d8 near bs far)) (y,u) 1:=b0T (bs:=d8 near bs far) (y,u) 0
 have o2:g7 (d8 near bs far) (K2 (tbQ (d8 near bs far)) (y,u) 1)=K2 (tbQ (d8 near bs far)) (y,u) 2:=b0T (bs:=d8 near bs far) (y,u) 1
 unfold y7
 rw[show((g7 (d8 near bs far) (y,u)).1,(g7 (d8 near bs far) (y,u)).2)=g7 (d8 near bs far) (y,u)from rfl,o1,o2]
 exact Prod.ext rfl (Prod.ext r0 rfl)
theorem a6R(L:List (Str × Rat))(c:Rat)(l:Rat × Rat × Rat):y7 L (y*c) (u*c) l=((y7 L y u l).1*c,(y7 L y u l).2.1*c,l.2.2):=by
 have a:=E3 L (y*c) (u*c)
 have b:=E3 L y u
 unfold y7
 rw[a.1,a.2,b.1,b.2]
 refine Prod.ext ?_ (Prod.ext ?_ rfl)
 ·show l.1*(y*c)+l.2.1*(u*c)=(l.1*y+l.2.1*u)*c;grind
 ·show l.1*(_*(y*c)+_*(u*c))+l.2.1*(_*(y*c)+_*(u*c))=(l.1*(_*y+_*u)+l.2.1*(_*y+_*u))*c;grind
theorem Y8{n j:Nat}:bT (trQ (tbQ (d8 near bs far))) (g9 near bs far) (g7 (d8 near bs far) (y,u)).1 (g7 (d8 near bs far) (y,u)).2 n j↔bT (trQ (tbQ (d8 near bs far))) (g9 near bs far) y u (n+1) j:=by
 unfold bT
 rw[L0]
 refine exists_congr fun z=>and_congr Iff.rfl (and_congr Iff.rfl ?_)
 rw[a1X]
 exact b2j
theorem a5F(hp:∀ z∈g9 near bs far,z.2.2.1 = "stop" → 0<z.2.2.2){j:Nat}:(laT (tbQ (d8 near bs far)) (g9 near bs far) (g7 (d8 near bs far) (y,u)).1 (g7 (d8 near bs far) (y,u)).2 j→laT (tbQ (d8 near bs far)) (g9 near bs far) y u j) ∧
  (laT (tbQ (d8 near bs far)) (g9 near bs far) y u j→¬ bT (trQ (tbQ (d8 near bs far))) (g9 near bs far) y u 0 j→¬ bT (trQ (tbQ (d8 near bs far))) (g9 near bs far) y u 1 j→laT (tbQ (d8 near bs far)) (g9 near bs far) (g7 (d8 near bs far) (y,u)).1 (g7 (d8 near bs far) (y,u)).2 j):=by
 unfold laT bT
 rw[L0]
 constructor
 ·rintro⟨z,hz,hs,h⟩
  rw[a1X]at h
  exact⟨z,hz,hs,(a30 (hp z (c6S hz) hs)).1 h⟩
 ·rintro⟨z,hz,hs,h⟩ h0 h1
  refine⟨z,hz,hs,?_⟩
  rw[a1X]
  exact(a30 (hp z (c6S hz) hs)).2 h (fun w=>h0 ⟨z,hz,hs,w⟩) (fun w=>h1 ⟨z,hz,hs,w⟩)
theorem a67{c:Rat}(hc:1≤e9 c){t:Rat}{n j:Nat}(h:bT t (g9 near bs far) y u n j):bT t (g9 near bs far) (y*c) (u*c) n j:=by
 obtain⟨z,hz,hs,hb⟩:=h
 refine⟨z,hz,hs,?_⟩
 rw[a6R]
 exact b5z hc hb
theorem b73{c:Rat}(hc:e9 c≤1){t:Rat}{n j:Nat}(h:bT t (g9 near bs far) (y*c) (u*c) n j):bT t (g9 near bs far) y u n j:=by
 obtain⟨z,hz,hs,hb⟩:=h
 refine⟨z,hz,hs,?_⟩
 rw[a6R]at hb
 exact b5A hc hb
theorem a8w(hp:∀ z∈g9 near bs far,z.2.2.1 = "stop" → 0<z.2.2.2){c:Rat}(hc:1≤e9 c){m:Q4}{j:Nat}(h:laT m (g9 near bs far) y u j):laT m (g9 near bs far) (y*c) (u*c) j:=by
 obtain⟨z,hz,hs,hb⟩:=h
 refine⟨z,hz,hs,?_⟩
 rw[a6R]
 exact a5E (hp z (c6S hz) hs) hc hb
theorem b4C(hp:∀ z∈g9 near bs far,z.2.2.1 = "stop" → 0<z.2.2.2){c:Rat}(hc:e9 c≤1){m:Q4}{j:Nat}(h:laT m (g9 near bs far) (y*c) (u*c) j):laT m (g9 near bs far) y u j:=by
 obtain⟨z,hz,hs,hb⟩:=h
 refine⟨z,hz,hs,?_⟩
 rw[a6R]at hb
 exact b1W (hp z (c6S hz) hs) hc hb
end
theorem a1x{near far:Rat}{bs:List (Str × Rat)}(hw:F3 near bs far):∀ z∈g9 near bs far,z.2.2.1 = "stop" → 0<z.2.2.2:=fun z hz hs=>by
 have inb:∀ x∈bs,x.1 = "stop" → 0<x.2:=fun x hx h=>by
  rcases hw.part x hx with h5|h5
  ·rw[h]at h5;exact absurd h5 (by decide)
  ·exact h5.2
 unfold g9 at hz
 rcases c7i.mp hz with hz|hz
 ·rcases c7i.mp hz with hz|hz
  ·rcases c7i.mp hz with hz|hz
   ·obtain⟨x,hx,rfl⟩:=c7q.mp hz
    exact inb x.1 (c6S (c7F.mp hx)) hs
   ·rw[c7a.mp hz]at hs;exact absurd hs (show ¬ Str.ofString "glass" = Str.ofString "stop" by decide)
  ·obtain⟨x,hx,rfl⟩:=c7q.mp hz
   exact inb x.1 (c6S (c7F.mp (c75.mp hx))) hs
 ·rw[c7a.mp hz]at hs;exact absurd hs (show ¬ Str.ofString "glass" = Str.ofString "stop" by decide)
section
variable {m:Q4} {T:List T3} {y u y2 u2:Rat} {d d2:D}
theorem b74{n j n2 j2:Nat}(h:AtT m T y u n j)(g:AtT m T y u n2 j2):n=n2∧j=j2:=by
 have en:n=n2:=by
  rcases c8n n n2 with z|z|z
  ·exact absurd h.1 (g.2.1 n z j)
  ·exact z
  ·exact absurd g.1 (h.2.1 n2 z j2)
 subst en
 refine⟨rfl,?_⟩
 rcases c8n j j2 with z|z|z
 ·exact absurd h.1 (g.2.2.1 j z)
 ·exact z
 ·exact absurd g.1 (h.2.2.1 j2 z)
theorem b4Y(h:EvT m T y u d){n j:Nat}(hb:bT (trQ m) T y u n j)(hn:a2o m∨n<60):wS d = "stopped" := by
 rcases D7 h with w|w|w
 ·exact w
 ·exact absurd hb ((U4 h w).1 n j hn)
 ·exact absurd hb ((N2 h w).1 n j hn)
theorem b4X(h:EvT m T y u d)(hn:NoT m T y u):¬ wS d = "stopped" := fun w=>by
 obtain⟨n,j,z,_,_,_,hat⟩:=L3 h w
 exact c3b hat hn
theorem b4W{n j:Nat}{z:T3}(h:EvT m T y u d)(hat:AtT m T y u n j)(hz:T[j]? = some z):d = .tup [.str "stopped",.int (n:Int),z.1,z.2.1]:=by
 obtain⟨n2,j2,z2,rfl,hz2,_,hat2⟩:=L3 h (b4Y h hat.1 hat.2.2.2)
 obtain⟨rfl,rfl⟩:=b74 hat hat2
 rw[hz]at hz2
 obtain rfl:=Option.some.inj hz2
 rfl
end
theorem c0Z{m:Q4}{T:List T3}{y u:Rat}(hp:∀ z∈T,z.2.2.1 = "stop" → 0<z.2.2.2)(hs:¬ r9 m)(h0:∀ j,¬ bT (trQ m) T y u 0 j)(hla:∀ j,¬ laT m T y u j)(n j:Nat):¬ bT (trQ m) T y u n j:=by
 rintro⟨z,hz,hst,hb⟩
 have e2:(y7 (T.map fun z=>z.2.2) y u (G6 T j z)).2.2=z.2.2.2:=rfl
 have hr:0<(y7 (T.map fun z=>z.2.2) y u (G6 T j z)).2.2:=by rw[e2];exact hp z (c6S hz) hst
 have h00:¬ B9 (trQ m) (y7 (T.map fun z=>z.2.2) y u (G6 T j z)) 0:=fun w=>h0 j ⟨z,hz,hst,w⟩
 have hl:u4 m (y7 (T.map fun z=>z.2.2) y u (G6 T j z)).1 (y7 (T.map fun z=>z.2.2) y u (G6 T j z)).2.1 (y7 (T.map fun z=>z.2.2) y u (G6 T j z)).2.2=false:=by
  cases e:u4 m (y7 (T.map fun z=>z.2.2) y u (G6 T j z)).1 (y7 (T.map fun z=>z.2.2) y u (G6 T j z)).2.1 (y7 (T.map fun z=>z.2.2) y u (G6 T j z)).2.2 with
  | false=>rfl
  | true=>rw[e2]at e;exact absurd ⟨z,hz,hst,e⟩ (hla j)
 generalize y7 (T.map fun z=>z.2.2) y u (G6 T j z)=l at *
 exact a0V hs hr hl h00 n hb
theorem b2c{near far:Rat}{bs:List (Str × Rat)}(hw:F3 near bs far){y u:Rat}{d d2:D}(h:EvT (tbQ (d8 near bs far)) (g9 near bs far) y u d)(h2:EvT (tbQ (d8 near bs far)) (g9 near bs far) (g7 (d8 near bs far) (y,u)).1 (g7 (d8 near bs far) (y,u)).2 d2) :
  (∀(n j:Nat) (z:T3),d = .tup [.str "stopped",.int (n:Int),z.1,z.2.1]→(g9 near bs far)[j]? = some z→AtT (tbQ (d8 near bs far)) (g9 near bs far) y u n j→n=0∨d2 = .tup [.str "stopped",.int ((n:Int) - 1),z.1,z.2.1]) ∧
  (wS d = "late" → wS d2 = "late" ∨ ∃ a b,d2 = .tup [.str "stopped",.int 59,a,b])∧(wS d = "never" → wS d2 = "never"):=by
 have hp:=a1x hw
 refine⟨fun n j z _ hz hat=>?_,fun hl=>?_,fun hn=>?_⟩
 ·cases n with
  | zero=>exact .inl rfl
  | succ n =>
   right
   have hat2:AtT (tbQ (d8 near bs far)) (g9 near bs far) (g7 (d8 near bs far) (y,u)).1 (g7 (d8 near bs far) (y,u)).2 n j:=⟨Y8.mpr hat.1,fun n' hn' j' hb=>hat.2.1 (n'+1) (by omega) j' (Y8.mp hb),fun j' hj' hb=>hat.2.2.1 j' hj' (Y8.mp hb),hat.2.2.2.imp id (by omega)⟩
   rw[b4W h2 hat2 hz,show((n+1:Nat):Int) - 1=(n:Int)by omega]
 ·obtain⟨hno,j,hj⟩:=U4 h hl
  rcases D7 h2 with w|w|w
  ·right
   obtain⟨n2,j2,z2,rfl,_,_,hat2⟩:=L3 h2 w
   have hb:=Y8.mp hat2.1
   have:¬ (a2o (tbQ (d8 near bs far))∨n2+1<60):=fun z=>hno _ _ z hb
   have n59:n2=59:=by
    rcases hat2.2.2.2 with z|z
    ·exact absurd (.inl z) this
    ·have:¬ n2+1<60:=fun z=>this (.inr z)
     omega
   exact⟨z2.1,z2.2.1,by rw[n59];rfl⟩
  ·exact .inl w
  ·exfalso
   exact(N2 h2 w).2 j ((a5F hp).2 hj (hno 0 j (.inr (by decide))) (hno 1 j (.inr (by decide))))
 ·obtain⟨hno,hla⟩:=N2 h hn
  have all:∀ n j,¬ bT (trQ (tbQ (d8 near bs far))) (g9 near bs far) y u n j:=fun n j hb=>by
   by_cases hs:r9 (tbQ (d8 near bs far))
   ·exact hno n j (.inl (.inl hs)) hb
   ·exact c0Z hp hs (fun j=>hno 0 j (.inr (by decide))) hla n j hb
  rcases D7 h2 with w|w|w
  ·obtain⟨n2,j2,z2,_,_,_,hat2⟩:=L3 h2 w
   exact absurd (Y8.mp hat2.1) (all _ _)
  ·obtain⟨_,j,hj⟩:=U4 h2 w
   exact absurd ((a5F hp).1 hj) (hla j)
  ·exact w
theorem b4Z{near far:Rat}{bs:List (Str × Rat)}(hw:F3 near bs far){y u:Rat}{d d2:D}(h:EvT (tbQ (d8 near bs far)) (g9 near bs far) y u d)(h2:EvT (tbQ (d8 near bs far)) (g9 near bs far) (y * -1) (u * -1) d2):(wS d = "stopped" → d=d2)∧wS d=wS d2:=by
 have hp:=a1x hw
 have c1:1≤e9 (-1:Rat):=by decide +kernel
 have c2:e9 (-1:Rat)≤1:=by decide +kernel
 have bb:∀{t:Rat} {n j:Nat},bT t (g9 near bs far) (y * -1) (u * -1) n j↔bT t (g9 near bs far) y u n j:=⟨b73 c2,a67 c1⟩
 have ll:∀{j:Nat},laT (tbQ (d8 near bs far)) (g9 near bs far) (y * -1) (u * -1) j↔laT (tbQ (d8 near bs far)) (g9 near bs far) y u j:=⟨b4C hp c2,a8w hp c1⟩
 have key:wS d = "stopped" → d=d2:=fun w=>by
  obtain⟨n,j,z,rfl,hz,_,hat⟩:=L3 h w
  have hat2:AtT (tbQ (d8 near bs far)) (g9 near bs far) (y * -1) (u * -1) n j:=⟨bb.mpr hat.1,fun n' hn' j' hb=>hat.2.1 n' hn' j' (bb.mp hb),fun j' hj' hb=>hat.2.2.1 j' hj' (bb.mp hb),hat.2.2.2⟩
  exact(b4W h2 hat2 hz).symm
 refine⟨key,?_⟩
 rcases D7 h with w|w|w
 ·rw[key w]
 ·obtain⟨hno,j,hj⟩:=U4 h w
  rw[w]
  rcases D7 h2 with v|v|v
  ·exact absurd v (b4X h2 fun n j hn hb=>hno n j hn (bb.mp hb))
  ·exact v.symm
  ·exact absurd (ll.mpr hj) ((N2 h2 v).2 j)
 ·obtain⟨hno,hla⟩:=N2 h w
  rw[w]
  rcases D7 h2 with v|v|v
  ·exact absurd v (b4X h2 fun n j hn hb=>hno n j hn (bb.mp hb))
  ·obtain⟨_,j,hj⟩:=U4 h2 v
   exact absurd (ll.mp hj) (hla j)
  ·exact v.symm
theorem b4V{near far:Rat}{bs:List (Str × Rat)}(hw:F3 near bs far){y u c:Rat}(hc:1≤e9 c){d d2:D}(h:EvT (tbQ (d8 near bs far)) (g9 near bs far) y u d)(h2:EvT (tbQ (d8 near bs far)) (g9 near bs far) (y*c) (u*c) d2) :
  (∀ n:Nat,wS d = "stopped" → nS d=(n:Int)→∃(k:Nat) (a b:D),d2 = .tup [.str "stopped",.int (k:Int),a,b]∧k≤n)∧(wS d = "late" → ¬ wS d2 = "never"):=by
 have hp:=a1x hw
 refine⟨fun n w hn=>?_,fun w v=>?_⟩
 ·obtain⟨n1,j,z,rfl,hz,_,hat⟩:=L3 h w
  have e:(n1:Int)=(n:Int):=hn
  obtain⟨n2,j2,z2,rfl,_,_,hat2⟩:=L3 h2 (b4Y h2 (a67 hc hat.1) hat.2.2.2)
  refine⟨n2,z2.1,z2.2.1,rfl,?_⟩
  rcases c77 n n2 with z5|z5
  ·exact absurd (a67 hc hat.1) (hat2.2.1 n1 (by omega) j)
  ·exact z5
 ·obtain⟨_,j,hj⟩:=U4 h w
  exact(N2 h2 v).2 j (a8w hp hc hj)
theorem c0E{m:Q4}{T:List T3}{y u:Rat}{ls:List (Rat × Rat × Rat)}(hls:ls=(K9 T T.length).map fun z=>y7 (T.map fun z=>z.2.2) y u (G6 T z.2 z.1)):(∀ l∈ls,b4N m l)↔(NoT m T y u∧∀ j,¬ laT m T y u j):=by
 constructor
 ·intro g
  have mem:∀{j:Nat} {z:T3},T[j]? = some z→z.2.2.1 = "stop" → y7 (T.map fun z=>z.2.2) y u (G6 T j z)∈ls:=fun{j z} hz hs=>by
   rw[hls];exact c7q.mpr ⟨(z,j),N8.mpr ⟨hz,hs⟩,rfl⟩
  refine⟨fun n j hn ⟨z,hz,hs,hb⟩=>(g _ (mem hz hs)).1 n hn hb,fun j ⟨z,hz,hs,hb⟩=>?_⟩
  have h5:u4 m (y7 (T.map fun z=>z.2.2) y u (G6 T j z)).1 (y7 (T.map fun z=>z.2.2) y u (G6 T j z)).2.1 z.2.2.2=false:=(g _ (mem hz hs)).2
  rw[h5]at hb;cases hb
 ·rintro⟨g1,g2⟩ l hl
  rw[hls]at hl
  obtain⟨z,hz,rfl⟩:=c7q.mp hl
  obtain⟨a1,a2⟩:=N8.mp (show(z.1,z.2)∈_ from hz)
  refine⟨fun n hn hb=>g1 n z.2 hn ⟨z.1,a1,a2,hb⟩,?_⟩
  cases e:u4 m (y7 (T.map fun z=>z.2.2) y u (G6 T z.2 z.1)).1 (y7 (T.map fun z=>z.2.2) y u (G6 T z.2 z.1)).2.1 z.1.2.2.2 with
  | false=>exact e
  | true=>exact absurd ⟨z.1,a1,a2,e⟩ (g2 z.2)
theorem c2a{T:List T3}{y u:Rat}{ls:List (Rat × Rat × Rat)}(hls:ls=(K9 T T.length).map fun z=>y7 (T.map fun z=>z.2.2) y u (G6 T z.2 z.1))(hp:∀ z∈T,z.2.2.1 = "stop" → 0<z.2.2.2):∀ l∈ls,0<l.2.2:=fun l hl=>by
 rw[hls]at hl
 obtain⟨z,hz,rfl⟩:=c7q.mp hl
 obtain⟨a1,a2⟩:=N8.mp (show(z.1,z.2)∈_ from hz)
 exact hp z.1 (c6S a1) a2
theorem a9z{m:Q4}(hd:Y3 m=1){ls:List (Rat × Rat × Rat)}(rp:∀ l∈ls,0<l.2.2)(hf:∀ l∈ls,a5R m l):(a0Q m ls (ls.map (pE m))=true) ↔ ∀ l∈ls,b4N m l:=by
 unfold a0Q
 rw[decide_eq_true (c6Q ..),c9d,List.all_eq_true]
 have ez:ls.zip (ls.map (pE m))=ls.map fun l=>(l,pE m l):=by
  generalize ls=xs
  induction xs with
  | nil=>rfl
  | cons a xs ih=>rw[c7I,c7I,c80,ih]
 rw[ez]
 constructor
 ·intro g l hl
  have:=g (l,pE m l) (c7q.mpr ⟨l,hl,rfl⟩)
  exact(a5B hd (rp l hl) (hf l hl)).mp (c0u.mp this)
 ·intro g x hx
  obtain⟨l,hl,rfl⟩:=c7q.mp hx
  exact a3X ((a5B hd (rp l hl) (hf l hl)).mpr (g l hl))
theorem a8e{near far:Rat}{bs:List (Str × Rat)}(hw:F3 near bs far){y u:Rat}{d:D}(h:EvT (tbQ (d8 near bs far)) (g9 near bs far) y u d):(a0Q (tbQ (d8 near bs far)) (u6 near bs far y u) ((u6 near bs far y u).map (pE (tbQ (d8 near bs far))))=true)↔wS d = "never" := by
 have hp:=a1x hw
 have hd:=a5V (d8 near bs far)
 have hls:=a5I near far bs y u
 rw[a9z hd (c2a hls hp) a33,c0E hls]
 constructor
 ·rintro⟨g1,g2⟩
  rcases D7 h with w|w|w
  ·exact absurd w (b4X h g1)
  ·obtain⟨_,j,hj⟩:=U4 h w
   exact absurd hj (g2 j)
  ·exact w
 ·exact fun w=>N2 h w
theorem CD.by{S k:Nat}{y u c:Rat}(h:CD S y 0 u 0)(hc:sz c≤k):CD (S+k) (y*c) 0 (u*c) 0:=by
 obtain⟨Y,Y2,U,U2,D0,h0,hd,⟨h1,h2,h3,h4⟩,e1,e2,e3,e4⟩:=h.ex
 have cn:=u9 c hc
 have cd:=t9 c hc
 have ec:=A0 c
 refine⟨Y*c.num,0,U*c.num,0,D0*c.den,c7T h0 c.den_nz,j8 hd cd,⟨e7 h1 cn,c7S _,e7 h3 cn,c7S _⟩,?_,?_,?_,?_⟩
 ·rw[c7x,c6T,← e1,← ec];grind
 ·show(0:Rat)*_=((0:Int):Rat);grind
 ·rw[c7x,c6T,← e3,← ec];grind
 ·show(0:Rat)*_=((0:Int):Rat);grind
theorem c2h{m:Q4}{l:Rat × Rat × Rat}(zt:sz (trQ m)≤231)(zx:sz l.1≤1231)(zf:sz l.2.1≤1462):a93 (pE m l):=by
 unfold pE
 split
 ·show cl 57 (.str (Str.ofString "nought"))=true;decide +kernel
 ·split
  ·refine⟨by decide +kernel,?_⟩
   have:rtN m≤6:=by
    unfold rtN;repeat' split
    all_goals decide
   rw[c6N];omega
  ·split
   ·rename_i h
    obtain⟨t1,t2⟩:=O3.mp h
    exact⟨by decide +kernel,c6V (b3P zt zx zf t1 t2) (by decide)⟩
   ·split
    ·exact⟨by decide +kernel,by rw[RM.O5];decide⟩
    ·rename_i h
     have:=RM.R4 l.2.1 l.1 h
     exact⟨by decide +kernel,by omega⟩
local macro_rules|`(tactic| walk_at "inj")=>`(tactic| (rename_i e h;simp only[List.cons.injEq,and_true,true_and,GM.j9,GM.j3,GM.i3,GM.j4,GM.i4,D.tup.injEq,D.ref.injEq,D.int.injEq,D.str.injEq,D.bl.injEq,D.vl.injEq,c7g,and_assoc]at e;(repeat(obtain⟨e1,e⟩:=e;subst e1));subst e;exact h))
local macro_rules|`(tactic| walk_at "injs")=>`(tactic| (rename_i e o h;rcases o with o|o<;>(subst o;first|(exfalso;simp only[D.tup.injEq,List.cons.injEq,reduceCtorEq,false_and,and_false]at e;done)|(simp only[List.cons.injEq,and_true,true_and,GM.j9,GM.j3,GM.i3,GM.j4,GM.i4,D.tup.injEq,D.ref.injEq,D.int.injEq,D.str.injEq,D.bl.injEq,D.vl.injEq,c7g,and_assoc]at e;(repeat(obtain⟨e1,e⟩:=e;subst e1));subst e;exact h))))
abbrev X4(near:Rat)(bs:List (Str × Rat))(far:Rat)(M:Mem)(R:DK)(Y:DXK):Prop:=F3 near bs far∧∀ v,c06 (tbQ (d8 near bs far)) v→R (.tup [.str (kwS (tbQ (d8 near bs far))),v]) M
def a1R:DSp:=fun ds M R Y=>∃(x0:D) (near:Rat) (bs:List (Str × Rat)) (far:Rat),ds=[.tup [d9 near,x0,d9 far]]∧(x0 = .vl (bs.map i0)∨x0 = .tup (bs.map i0))∧X4 near bs far M R Y
theorem a7v{near:Rat}{bs:List (Str × Rat)}{far:Rat}{M:Mem}{R:DK}{Y:DXK}:a1R [.tup [d9 near,.vl (bs.map i0),d9 far]] M R Y=(X4 near bs far M R Y):=propext ⟨fun z=>by obtain⟨_,_,_,_,_,_,_⟩:=z;walk_at "injs",fun h=>⟨_,near,bs,far,rfl,.inl rfl,h⟩⟩
theorem a2W{near:Rat}{bs:List (Str × Rat)}{far:Rat}{M:Mem}{R:DK}{Y:DXK}:a1R [.tup [d9 near,.tup (bs.map i0),d9 far]] M R Y=(X4 near bs far M R Y):=propext ⟨fun z=>by obtain⟨_,_,_,_,_,_,_⟩:=z;walk_at "injs",fun h=>⟨_,near,bs,far,rfl,.inr rfl,h⟩⟩
abbrev a1f(near:Rat)(bs:List (Str × Rat))(far:Rat)(y u:Rat)(M:Mem)(R:DK)(Y:DXK):Prop:=(F3 near bs far∧CD 1000 y 0 u 0)∧R (.vl (((u6 near bs far y u).map (pE (tbQ (d8 near bs far)))).map enD)) M
def a9n:DSp:=fun ds M R Y=>∃(near:Rat) (bs:List (Str × Rat)) (far:Rat) (y u:Rat),ds=[.tup [d9 near,.vl (bs.map i0),d9 far],A1 y u]∧a1f near bs far y u M R Y
theorem a7q{near:Rat}{bs:List (Str × Rat)}{far:Rat}{y u:Rat}{M:Mem}{R:DK}{Y:DXK}:a9n [.tup [d9 near,.vl (bs.map i0),d9 far],A1 y u] M R Y=(a1f near bs far y u M R Y):=propext ⟨fun z=>by obtain⟨_,_,_,_,_,_,_⟩:=z;walk_at "inj",fun h=>⟨near,bs,far,y,u,rfl,h⟩⟩
abbrev a1p(d d2:D)(M:Mem)(R:DK)(Y:DXK):Prop:=∃(m:Q4) (T:List T3) (y u:Rat) (T2:List T3) (y2 u2:Rat),((EvT m T y u d∧∀ z∈T,cl 59 z.1=true∧cl 59 z.2.1=true)∧(EvT m T2 y2 u2 d2∧∀ z∈T2,cl 59 z.1=true∧cl 59 z.2.1=true)∧(wS d = "stopped" → d=d2)∧wS d=wS d2)∧R (.bl true) M
def a9t:DSp:=fun ds M R Y=>∃(d d2:D),ds=[d,d2]∧a1p d d2 M R Y
theorem a7A{d d2:D}{M:Mem}{R:DK}{Y:DXK}:a9t [d,d2] M R Y=(a1p d d2 M R Y):=propext ⟨fun z=>by obtain⟨_,_,_,_⟩:=z;walk_at "inj",fun h=>⟨d,d2,rfl,h⟩⟩
abbrev Z6(d d2:D)(M:Mem)(R:DK)(Y:DXK):Prop:=∃(m:Q4) (T:List T3) (y u:Rat) (T2:List T3) (y2 u2:Rat),((EvT m T y u d∧∀ z∈T,cl 59 z.1=true∧cl 59 z.2.1=true)∧(EvT m T2 y2 u2 d2∧∀ z∈T2,cl 59 z.1=true∧cl 59 z.2.1=true)∧(∀(n j:Nat) (z:T3),d = .tup [.str "stopped",.int (n:Int),z.1,z.2.1]→T[j]? = some z→AtT m T y u n j→n=0∨d2 = .tup [.str "stopped",.int ((n:Int) - 1),z.1,z.2.1])∧(wS d = "late" → wS d2 = "late" ∨ ∃ a b,d2 = .tup [.str "stopped",.int 59,a,b])∧(wS d = "never" → wS d2 = "never"))∧R (.bl true) M
def a6k:DSp:=fun ds M R Y=>∃(d d2:D),ds=[d,d2]∧Z6 d d2 M R Y
theorem a4X{d d2:D}{M:Mem}{R:DK}{Y:DXK}:a6k [d,d2] M R Y=(Z6 d d2 M R Y):=propext ⟨fun z=>by obtain⟨_,_,_,_⟩:=z;walk_at "inj",fun h=>⟨d,d2,rfl,h⟩⟩
end GM
namespace K44
open PySem PySem.Spec L2 DL GM
open RM (sz)
open PyProof.Rows hiding St
local macro_rules|`(tactic| walk_at "sim")=>do
 let f:=fun(b:Bool) (p:String) (s:String)=>((s.splitOn " ").mapM (fun s=>(let i:=Lean.mkIdent (p++s).toName;if b then `(Lean.Parser.Tactic.simpLemma| ↓$i:ident)else `(Lean.Parser.Tactic.simpLemma| $i:ident))):Lean.MacroM _)
 let a := "z_C c1B c1z c1x c1y c1w c1v c1u b2Q b8P b8R c1A b8D b3g b8C b2X c1D b8I b8E b3d b8x b8G b3f c1E b2Y b8z b3c b8A b0A b0q b2P b0r a3f a7D b8Q b8B b2W b8S b8F b8H b8K b8J b2Z b3e b8y a7K b2V b0z b0B a7G a5q a7C a7H b0p b2U a7E a7F a7J b0G b2O b0o b8L b8N b0E b0F b8w b0t b2S b2R a7I b0D b0C b0s b0y b0v b0x b0w b0u b2T b8M b8O b3a b3b c1C b3h a2c a23 a5f a24 a5e a2b a21 a5d a22 a5c a2f a29 a5l a3a a5k a2e a27 a5j a28 a5i a2d a25 a5h a26 a5g a2h a3d a5p a3e a5o a2g a3b a5n a3c a5m c1j c1i c1h c1g c1f c1e c1d c1c c1b c1a b8f b8e b8d b8c b8b c1t c1s c1r c1q c1p c1o c1n c1m c1l c1k b8v b8u b8t b8s b8r a20 a2Z a8W b2N b2M b2L b2K b2J b2I b2H b2G b2F b2E b2D b2C b2B b8p b8o b8n b8m b8l b8k b8j b8i b8h b8g"
 let b := "a7B a5b b0g b2A b2z b2y b2x b0j b0i b0h b0k b0n b0m b0l a7A a7z a5a b2w b0f a49 b2v a7y a2Y a02 a48 a47 b0e a2X a01 a7x a7w a7v a2W b8q a46 b2u b0d a7u a7t a45 b0c a7s a44 a7r a7q a43 a7p b0b a7o b0a a99 a42 a2a a2V a7n a2U a98 a41 a40 b2t a7m a4Z a7l a2T a4Y b2s a4X V7 a4W b2r a97 a7k a4V b2q a7j a2S a4U a4T a96 a19 a18 a7i a95 a4S a7h a94 a7g a7f a7e a7d a4R a4Q a1p a0g a1o a6y a1n a6x a1m T8 K8 a0f a0e M6 a2M a1l a1k X4 b0Q a0d a2L a6t a1j a1i a0c a2K a1h a0b a1g a1f a0a a1e a1d a2J a2I a2H Q5 T6 X3 a1b Z9 a6n a1a Z8 a09 T5 Z7 a6l Z6 a08 Z5 a6i a2E a07 Z4 a6g X2 Z3 Z2"
 let xs:=((← f true "DL." a)++(← f true "GM." b)++(← f false "GM." b)++(← f false "DL." a)++(← f false "" "DL.b6A DL.b6u DL.b6k DL.b6e DL.b6B DL.b6v DL.b6l DL.b6f DL.b6C DL.b6w DL.b6m DL.b6g DL.b6D DL.b6x DL.b6n DL.b6h DL.b6E DL.b6y DL.b6o DL.b6i DL.b6F DL.b6z DL.b6p DL.b6j DL.b5S DL.b5Y DL.b5T DL.b5Z DL.b5U DL.b6a DL.b5V DL.b6b DL.b5W DL.b6c DL.b5X DL.b6d GM.b6q GM.b6r GM.b6s GM.b6t DL.b9B DL.b9A DL.b9z DL.b9y DL.b9x DL.b9w DL.b9v DL.b9u DL.b9t DL.b5R DL.b5Q DL.b5P Nat.reduceAdd Nat.reduceLT Nat.reduceLeDiff c93 Int.reduceLT Int.reduceLE Int.reduceEq eq_self decide_true decide_false D.int.injEq D.str.injEq beq_self_eq_true and_self true_and and_true not_true_eq_false not_false_eq_true false_implies true_implies forall_const a0X c7I c8d List.cons_append List.nil_append c74 c7A c79 c8f a4K List.getElem?_cons_zero List.getElem?_cons_succ Option.getD_some decide_eq_true_eq decide_eq_false_iff_not c9W Bool.not_eq_false' Bool.and_self c9d Bool.and_true Bool.xor_false Bool.false_xor Bool.true_xor Bool.not_true Bool.not_false c7R Bool.true_eq_false reduceIte GM.r0 GM.r1 GM.r2 GM.r4 GM.rm1 GM.rm2 GM.j9 GM.b9V GM.c1U GM.c1T GM.b9U")).toArray
 `(tactic| try simp only[$xs,*])
local macro_rules|`(tactic| walk_at "len")=>`(tactic| (intro ds M R Y h;repeat(first|exact congrArg c9D h.1|(obtain⟨_,h⟩:=h))))
local macro_rules|`(tactic| walk_at "size")=>`(tactic| first|omega|grind only[RM.y9,RM.a3k,RM.R3,RM.O6,RM.O5,RM.K5,GM.a0z])
local macro_rules|`(tactic| walk_at "sc")=>`(tactic| exact⟨rfl,rfl,rfl,by decide +kernel,rfl,by decide +kernel,by decide +kernel⟩)
def top(i:Nat):Stmt:=PySem.Challenge.pw_roundglass_k44_whole_stops_are_just_one.main.body.getD i (.Pass ⟨0,0,0,0⟩)
abbrev a1P:Stmt:=top 7
abbrev S2:Stmt:=top 6
abbrev a2D:Stmt:=top 9
abbrev a9e:Stmt:=top 15
abbrev W3:Stmt:=top 17
abbrev K1:Stmt:=top 16
abbrev a58:Stmt:=top 45
abbrev a0I:Stmt:=top 46
abbrev a6a:Stmt:=top 12
abbrev a9b:Stmt:=top 37
abbrev a0J:Stmt:=top 10
abbrev I0:Stmt:=top 38
abbrev a0G:Stmt:=top 62
abbrev a6c:Stmt:=top 18
abbrev a0E:Stmt:=top 11
abbrev W7:Stmt:=top 39
abbrev R7:Stmt:=top 57
abbrev P6:Stmt:=top 56
abbrev O9:Stmt:=top 58
abbrev J9:Stmt:=top 59
abbrev K0:Stmt:=top 60
abbrev S5:Stmt:=top 61
abbrev a2C:Stmt:=top 14
abbrev R6:Stmt:=top 54
abbrev R9:Stmt:=top 55
abbrev W6:Stmt:=top 44
abbrev b3D:Stmt:=top 26
abbrev W8:Stmt:=top 53
abbrev a6b:Stmt:=top 13
abbrev P5:Stmt:=top 29
abbrev a0K:Stmt:=top 49
abbrev M0:Stmt:=top 31
abbrev P2:Stmt:=top 35
abbrev S3:Stmt:=top 52
abbrev S6:Stmt:=top 27
abbrev a0F:Stmt:=top 30
abbrev a0H:Stmt:=top 36
abbrev a9g:Stmt:=top 63
abbrev P8:Stmt:=top 78
abbrev X0:Stmt:=top 72
abbrev K7:Stmt:=top 73
abbrev T1:Stmt:=top 84
abbrev P7:Stmt:=top 85
abbrev a0L:Stmt:=top 8
abbrev S1:Stmt:=top 67
abbrev a9c:Stmt:=top 19
abbrev P3:Stmt:=top 66
abbrev P1:Stmt:=top 65
abbrev R8:Stmt:=top 68
abbrev P4:Stmt:=top 69
abbrev a59:Stmt:=top 47
abbrev S4:Stmt:=top 20
abbrev a9d:Stmt:=top 21
abbrev W4:Stmt:=top 42
abbrev W5:Stmt:=top 41
abbrev a1O:Stmt:=top 40
abbrev a9f:Stmt:=top 43
abbrev S9:Stmt:=top 83
abbrev G3:Stmt:=top 81
abbrev S7:Stmt:=top 82
abbrev T0:Stmt:=top 79
abbrev a0M:Stmt:=top 80
abbrev S8:Stmt:=top 75
abbrev P9:Stmt:=top 74
abbrev G4:Stmt:=top 76
abbrev X1:Stmt:=top 77
abbrev W9:Stmt:=top 71
abbrev b3E:Stmt:=top 86
theorem a9a:g6 ["one","other"] ["one","other"] (e8 a1P):=by walk_at "sc"
theorem a2m:g6 ["thing"] ["thing"] (e8 S2):=by walk_at "sc"
theorem a74:g6 ["top","bottom","share"] ["top","bottom"] (e8 a2D):=by walk_at "sc"
theorem b6Q:g6 ["one","other"] ["one","other"] (e8 a9e):=by walk_at "sc"
theorem a5Z:g6 ["ratios","bottom"] ["ratios","bottom"] (e8 W3):=by walk_at "sc"
theorem a1N:g6 ["ratios","bottom","one"] ["ratios"] (e8 K1):=by walk_at "sc"
theorem b3A:g6 ["t","x","later","bottom","one","other"] ["t","x","later"] (e8 a58):=by walk_at "sc"
theorem a73:g6 ["t","x","later","top","bottom"] ["t","x","later"] (e8 a0I):=by walk_at "sc"
theorem b0M:g6 ["one","other"] ["one","other"] (e8 a6a):=by walk_at "sc"
theorem b6N:g6 ["table"] ["table"] (e8 a9b):=by walk_at "sc"
theorem a75:g6 ["one"] ["one"] (e8 a0J):=by walk_at "sc"
theorem a06:g6 ["table","t"] ["table"] (e8 I0):=by walk_at "sc"
theorem a71:g6 ["word","table","x","later","top","bottom"] ["word","table","x","later"] (e8 a0G):=by walk_at "sc"
theorem b0N:g6 ["one","other"] ["one","other"] (e8 a6c):=by walk_at "sc"
theorem a7Y:g6 ["one"] ["one"] (e8 a0E):=by walk_at "sc"
theorem a53:g6 ["table","size"] ["table"] (e8 W7):=by walk_at "sc"
theorem a4h:g6 ["t","state","now","then","bound"] ["t","state"] (e8 R7):=by walk_at "sc"
theorem a3v:g6 ["t","x","later","r","ratios","now","then","bound"] ["t","x","later","r"] (e8 P6):=by walk_at "sc"
theorem a3p:g6 ["t","numbers","watched","rounds","states","passed","k","state"] ["t","numbers","watched","rounds"] (e8 O9):=by walk_at "sc"
theorem a1L:g6 ["t","x","later","r","ratios","now","then","bound","step","ahead"] ["t","x","later","r"] (e8 J9):=by walk_at "sc"
theorem a1M:g6 ["t","numbers","late","stops","k","x","later","r"] ["t","numbers","late"] (e8 K0):=by walk_at "sc"
theorem a4n:g6 ["table","numbers","late","k","x","later","r","t","word"] ["table","numbers","late"] (e8 S5):=by walk_at "sc"
theorem a7Z:g6 ["one","other"] ["one","other"] (e8 a2C):=by walk_at "sc"
theorem a4g:g6 ["word","t","x","later","r"] ["word","t","x","later","r"] (e8 R6):=by walk_at "sc"
theorem a4j:g6 ["table","numbers","word","t"] ["table","numbers"] (e8 R9):=by walk_at "sc"
theorem a52:g6 ["p","q","ray"] ["p","q","ray"] (e8 W6):=by walk_at "sc"
theorem b9N:g6 ["table","ray","a","b","c","d","y","u"] ["table","ray"] (e8 b3D):=by walk_at "sc"
theorem a54:g6 ["table","ray","lines","later"] ["table","ray","lines"] (e8 W8):=by walk_at "sc"
theorem b3C:g6 ["one","other"] ["one","other"] (e8 a6b):=by walk_at "sc"
theorem a3u:g6 ["part","ray","word","number","y","u"] ["part","ray"] (e8 P5):=by walk_at "sc"
theorem a76:g6 ["bench","lines","level","axis","part"] ["bench"] (e8 a0K):=by walk_at "sc"
theorem a2u:g6 ["bench"] ["bench"] (e8 M0):=by walk_at "sc"
theorem a3r:g6 ["hall","near","bench","far"] ["hall"] (e8 P2):=by walk_at "sc"
theorem a4l:g6 ["hall","forth","back","lines"] ["hall"] (e8 S3):=by walk_at "sc"
theorem a4o:g6 ["first","second"] ["first","second"] (e8 S6):=by walk_at "sc"
theorem a70:g6 ["bench","first","second","part"] ["bench"] (e8 a0F):=by walk_at "sc"
theorem a72:g6 ["hall"] ["hall"] (e8 a0H):=by walk_at "sc"
theorem b6S:g6 ["hall","ray","table","met","numbers","late","stop","passed","k","word"] ["hall","ray"] (e8 a9g):=by walk_at "sc"
theorem a3x:g6 ["ray","factor"] ["ray","factor"] (e8 P8):=by walk_at "sc"
theorem a56:g6 ["pool","base","digit","near","stir"] ["pool","base"] (e8 X0):=by walk_at "sc"
theorem a0s:g6 ["pool","tops","bottoms"] ["pool","tops","bottoms"] (e8 K7):=by walk_at "sc"
theorem a4t:g6 ["one","other"] ["one","other"] (e8 T1):=by walk_at "sc"
theorem a3w:g6 ["told","later"] ["told","later"] (e8 P7):=by walk_at "sc"
theorem a77:g6 ["thing","top","bottom"] ["thing"] (e8 a0L):=by walk_at "sc"
theorem a4k:g6 ["table","numbers","k","x","later","r"] ["table","numbers","k"] (e8 S1):=by walk_at "sc"
theorem b6O:g6 ["one","other"] ["one","other"] (e8 a9c):=by walk_at "sc"
theorem a3s:g6 ["table","numbers","s","x","later","r"] ["table","numbers","s"] (e8 P3):=by walk_at "sc"
theorem a3q:g6 ["table","numbers","n"] ["table","numbers","n"] (e8 P1):=by walk_at "sc"
theorem a4i:g6 ["table","numbers","shown","word","told"] ["table","numbers","shown"] (e8 R8):=by walk_at "sc"
theorem a3t:g6 ["hall","ray","paper","lines","table"] ["hall","ray","paper"] (e8 P4):=by walk_at "sc"
theorem b3B:g6 ["hall","ray","p","q","table","top","bottom"] ["hall","ray","p","q"] (e8 a59):=by walk_at "sc"
theorem a4m:g6 ["number","guess","step","better"] ["number"] (e8 S4):=by walk_at "sc"
theorem b6P:g6 ["one","top","bottom"] ["one"] (e8 a9d):=by walk_at "sc"
theorem a50:g6 ["t","apart"] ["t"] (e8 W4):=by walk_at "sc"
theorem a51:g6 ["table","a","b","c","d"] ["table"] (e8 W5):=by walk_at "sc"
theorem a89:g6 ["table","a","b","c","d"] ["table"] (e8 a1O):=by walk_at "sc"
theorem b6R:g6 ["hall","table","word"] ["hall"] (e8 a9f):=by walk_at "sc"
theorem a4r:g6 ["hall","ray","found","what","later","word","number","p","q","r","x","further"] ["hall","ray"] (e8 S9):=by walk_at "sc"
theorem a0C:g6 ["number","low","high","mid"] ["number"] (e8 G3):=by walk_at "sc"
theorem a4p:g6 ["pool","hall","ray","stops","at","farthest","word","number","p","q","r","scale","low","some"] ["pool","hall","ray"] (e8 S7):=by walk_at "sc"
theorem a4s:g6 ["hall","other","a","b","c","d","told","k","found"] ["hall","other"] (e8 T0):=by walk_at "sc"
theorem a78:g6 ["pool","hall","way_drawn","ray","factor","along","little"] ["pool","hall"] (e8 a0M):=by walk_at "sc"
theorem a4q:g6 ["pool","parts","count","found","k","r"] ["pool","parts","count"] (e8 S8):=by walk_at "sc"
theorem a3y:g6 ["pool","gap","count","found","k","piece"] ["pool","gap"] (e8 P9):=by walk_at "sc"
theorem a0D:g6 ["pool","pairs","near","far","bottoms","halves","gap","parts","first"] ["pool"] (e8 G4):=by walk_at "sc"
theorem a57:g6 ["pool","way_drawn","power_drawn","parts","k"] ["pool"] (e8 X1):=by walk_at "sc"
theorem a55:g6 ["cell"] ["cell"] (e8 W9):=by walk_at "sc"
theorem b9O:g6 ["script","cell","pool","hall","ray","told","wider"] ["script"] (e8 b3E):=by walk_at "sc"
structure Txt(K:c6M)(mg:Str→Option Value):Prop where
 b_abs:mg "abs" = none
 b_all:mg "all" = none
 b_bool:mg "bool" = none
 b_enumerate:mg "enumerate" = none
 b_int:mg "int" = none
 b_isinstance:mg "isinstance" = none
 b_len:mg "len" = none
 b_list:mg "list" = none
 b_max:mg "max" = none
 b_min:mg "min" = none
 b_range:mg "range" = none
 b_reversed:mg "reversed" = none
 b_tuple:mg "tuple" = none
 b_zip:mg "zip" = none
 sub:b5F K
 c_AXIS_RAY:GlD K mg "AXIS_RAY" (.tup [(.tup [(.int 0),(.int 1)]),(.tup [(.int 1),(.int 1)])])
 c_FIRST_ROUNDS:GlD K mg "FIRST_ROUNDS" (.int 60)
 c_FOUR:GlD K mg "FOUR" (.tup [(.int 4),(.int 1)])
 c_LEVEL_RAY:GlD K mg "LEVEL_RAY" (.tup [(.tup [(.int 1),(.int 1)]),(.tup [(.int 0),(.int 1)])])
 c_NOUGHT:GlD K mg "NOUGHT" (.tup [(.int 0),(.int 1)])
 c_ONE:GlD K mg "ONE" (.tup [(.int 1),(.int 1)])
 c_SELF:GlD K mg "SELF" (.tup [(.tup [(.int 1),(.int 1)]),(.tup [(.int 0),(.int 1)]),(.tup [(.int 0),(.int 1)]),(.tup [(.int 1),(.int 1)])])
 c_TWO:GlD K mg "TWO" (.tup [(.int 2),(.int 1)])
section
variable {P:Program} {w:World} {K:c6M} {mg:Str→Option Value} {base:Heap}
theorem a9F(T:Txt K mg)(d:Df K mg "divisor" a1P ["one","other"]):Fn P w K mg base "divisor" 1 ["one","other"] L6:=by
 have sc:=a9a
 refine i9 d sc (fun ds M R Y h=>?_) (fun f cdv A outer s H E ds M R Y hr h=>?_)
 ·obtain⟨a,b,rfl,_⟩:=h;rfl
 ·obtain⟨a,b,rfl,k⟩:=h
  refine⟨_,(d4 (a1Z PassesOwn.never (jtm a3U (a8 1) d3) (d5 (b04 (i:=0) (j:=1) rfl sc.nd rfl rfl (by decide) rfl rfl (a7 (a8 1) (a7 (f9 a3V (a8 0) (a8 1)) a9))))) (d5 (d7 (a8 0)))),?_⟩
  refine⟨fun m e M'=>M'=M∧∃ u:Nat,e=[some (.int (u:Int)),some (.int (m:Int))]∧c7w u m=c7w a b,⟨b,rfl,a,rfl,rfl⟩,?_⟩
  rintro v e M' ⟨rfl,u,rfl,hg⟩
  refine⟨_,rfl,_,rfl,_,rfl,?_⟩
  refine b4J (fun h0=>?_) (fun h0=>?_)
  ·have hv:0<v:=by omega
   refine⟨_,rfl,_,rfl,_,rfl,_,_,rfl,rfl,by omega,_,_,rfl,?_⟩
   exact⟨u % v,Nat.mod_lt _ hv,rfl,v,rfl,by rw[← RM.b4P u v (by omega)];exact hg⟩
  ·have hv:v=0:=by omega
   subst hv
   rw[Nat.gcd_zero_right]at hg
   subst hg
   exact⟨_,rfl,k⟩
theorem a8o(T:Txt K mg)(d:Df K mg "is_whole" S2 ["thing"]):Fn P w K mg base "is_whole" 1 ["thing"] a05:=by
 have sc:=a2m
 refine i9 d sc (fun ds M R Y h=>?_) (fun f cdv A outer s H E ds M R Y hr h=>?_)
 ·obtain⟨n,rfl,_⟩:=h;rfl
 ·obtain⟨n,rfl,k⟩:=h
  refine⟨_,(d5 (d7 (C8 (o9 (Y6 T.sub) rfl T.b_isinstance u5 (a7 (a8 0) (a7 (X8 rfl T.b_int a9Y) a9))) (v8 (U0 (o9 (Y6 T.sub) rfl T.b_isinstance u5 (a7 (a8 0) (a7 (X8 rfl T.b_bool a66) a9)))))))),?_⟩
  refine⟨_,rfl,_,_,_,_,rfl,rfl,rfl,_,rfl,?_⟩
  refine c3M ?_
  exact⟨_,rfl,_,_,_,_,rfl,rfl,rfl,_,rfl,k⟩
theorem b4p(T:Txt K mg)(d:Df K mg "ratio" a2D ["top","bottom"])(c4m:Fn P w K mg base "is_whole" 1 ["thing"] a05)(c4t:Fn P w K mg base "divisor" 1 ["one","other"] L6):Fn P w K mg base "ratio" 2 ["top","bottom"] V1:=by
 have sc:=a74
 refine i9 d sc (fun ds M R Y h=>?_) (fun f cdv A outer s H E ds M R Y hr h=>?_)
 ·obtain⟨p,b,rfl,_⟩:=h;rfl
 ·obtain⟨a,b,rfl,hb,hl,k⟩:=h
  refine⟨_,(d4 (f8 (C9 (D6 (A9 (p8 (jc c4m hr (a7 (a8 0) a9)))) (D6 (A9 (p8 (jc c4m hr (a7 (a8 1) a9)))) (C5 (jtm M8 (a8 1) d3))))) (d5 a5G) f7) (d4 (jst 2 sc.nd (jc c4t hr (a7 (o9 a1B rfl T.b_abs U8 (a7 (a8 0) a9)) (a7 (o9 a1B rfl T.b_abs U8 (a7 (a8 1) a9)) a9)))) (d4 (f8 (jtm a0T (a8 1) d3) (d5 (jst 2 sc.nd (A3 (a8 2)))) f7) (d5 (d7 (f6 (a7 (f9 E9 (a8 0) (a8 2)) (a7 (f9 E9 (a8 1) (a8 2)) a9)))))))),?_⟩
  refine⟨_,rfl,_,rfl,true,rfl,?_⟩
  refine c2u ?_
  refine⟨_,rfl,_,rfl,true,rfl,?_⟩
  refine c2u ?_
  refine⟨_,rfl,_,rfl,_,rfl,?_⟩
  refine b1Y (fun h=>absurd h hb) (fun _=>?_)
  refine⟨_,rfl,_,rfl,_,rfl,_,rfl,a.natAbs,b.natAbs,rfl,?_⟩
  have hn:=b4Q (a:=a) hb
  have hlg:=b7Q (a:=a) hb hl
  refine⟨_,rfl,_,rfl,_,rfl,?_⟩
  refine b1Y (fun h1=>?_) (fun h1=>?_)
  ·have c1:∀ i:Int,CFd i (-((c7w a.natAbs b.natAbs:Nat):Int)):=fun i=>⟨by omega,by rw[c72];exact hlg⟩
   refine⟨_,rfl,_,rfl,_,rfl,_,rfl,_,_,rfl,rfl,c1 _,_,rfl,_,rfl,_,_,rfl,rfl,c1 _,sl 2,?_⟩
   exact a2O hb (by rw[if_pos h1]) k
  ·have c1:∀ i:Int,CFd i ((c7w a.natAbs b.natAbs:Nat):Int):=fun i=>⟨hn,hlg⟩
   refine⟨_,rfl,_,rfl,_,_,rfl,rfl,c1 _,_,rfl,_,rfl,_,_,rfl,rfl,c1 _,sl 2,?_⟩
   exact a2O hb (by rw[if_neg h1]) k
theorem b7z(T:Txt K mg)(d:Df K mg "over" a9e ["one","other"])(c4f:Fn P w K mg base "ratio" 2 ["top","bottom"] V1):Fn P w K mg base "over" 3 ["one","other"] a0A:=by
 have sc:=b6Q
 refine i9 d sc (fun ds M R Y h=>?_) (fun f cdv A outer s H E ds M R Y hr h=>?_)
 ·obtain⟨q,r,rfl,_⟩:=h;rfl
 ·obtain⟨q,r,rfl,h0,hz,k⟩:=h
  refine⟨_,(d5 (d7 (jc c4f hr (a7 (f9 p5 (jx (a8 0) d3) (jx (a8 1) d3)) (a7 (f9 p5 (jx (a8 0) d3) (jx (a8 1) d3)) a9))))),?_⟩
  refine⟨_,rfl,_,rfl,_,rfl,_,rfl,_,_,rfl,rfl,mND hz,_,rfl,_,rfl,_,rfl,_,rfl,_,_,rfl,rfl,mDN hz,_,_,rfl,c7Q (RM.D8 q) (c0q h0),lDN hz,?_⟩
  rw[RM.b5d]at k
  exact k
theorem a6H(T:Txt K mg)(d:Df K mg "tops_over" W3 ["ratios","bottom"]):Fn P w K mg base "tops_over" 1 ["ratios","bottom"] b3G:=by
 have sc:=a5Z
 refine i9 d sc (by walk_at "len") (fun f cdv A outer s H E ds M R Y hr h=>?_)
 have hu:=hr.units
 obtain⟨x,b,rfl,qs,hx,⟨hl,hb,b0,hq⟩,k⟩:=h
 have hb':b<2 ^ 8501:=c7c hb (c8p (by decide) (by decide))
 have key:∀ s∈qs,IntMulOk s.num ((b:Int).fdiv (s.den:Int))∧CFd (b:Int) (s.den:Int):=fun s hs=>by
  obtain⟨_,hs⟩:=hq s hs
  have e1:((b:Int).fdiv (s.den:Int))=((b / s.den:Nat):Int):=by
   rw[J4 (by omega) (by omega)];norm_cast
  refine⟨?_,?_⟩
  ·rw[e1]
   exact w6 8900 8501 (u9 s hs) (by rw[c6N];exact c7c (c8U _ _) hb') (by decide)
  ·exact⟨by have:=s.den_pos;omega,by rw[c6N];exact c6R (F0 (t9 s hs) (by decide)) (by decide)⟩
 rcases hx with rfl|rfl
 all_goals
  refine⟨_,(d5 (d7 (J8 [1] ["one"] ["bottom"] rfl (by decide +kernel) rfl (by decide +kernel) (by decide +kernel) rfl (a4O ⟨rfl,rfl⟩) (a4O (Or.inl rfl)) (B4 (a8 0)) (fun _ _ _ _ _ _=>(jn 0 (show(["one","bottom"]:List Str).Nodup by decide +kernel))) (fun _ _ _ _ _ _=>A4) (fun _ _ _ _ _ _=>(f9 p5 (jx (a8 0) d3) (f9 E9 (a8 1) (jx (a8 0) d3))))))),?_⟩
  walk_at "sim"
  refine B7 (xs:=qs) (enc:=d9) (fun s=>D.int (s.num*(b:Int).fdiv (s.den:Int))) hl (by simp only[B5,p6]) (fun s hs Q hQ=>?_) k
  obtain⟨k1,k2⟩:=key s hs
  walk_at "sim"
  exact⟨k2,k1,hQ⟩
theorem a1V(T:Txt K mg)(d:Df K mg "common_bottom" K1 ["ratios"])(c4t:Fn P w K mg base "divisor" 1 ["one","other"] L6):Fn P w K mg base "common_bottom" 2 ["ratios"] b3J:=by
 have sc:=a1N
 refine i9 d sc (by walk_at "len") (fun f cdv A outer s H E ds M R Y hr h=>?_)
 have hu:=hr.units
 obtain⟨x,rfl,qs,hx,hz,k⟩:=h
 have key:∀(i:Nat) (b:Nat) (q:Rat),qs[i]? = some q→0<b→b≤2 ^ (szs (qs.take i))→(∀ r∈qs.take i,r.den ∣ b)→CFd (b:Int) ((c7w b q.den:Nat):Int)∧IntMulOk ((b:Int).fdiv ((c7w b q.den:Nat):Int)) (q.den:Int)∧((b:Int).fdiv ((c7w b q.den:Nat):Int))*(q.den:Int)=((b / c7w b q.den*q.den:Nat):Int)∧0<b / c7w b q.den*q.den∧b / c7w b q.den*q.den≤2 ^ (szs (qs.take (i+1)))∧(∀ r∈qs.take (i+1),r.den ∣ b / c7w b q.den*q.den)∧(b ∣ ((qs.take i).map fun q:Rat=>q.den).prod→b / c7w b q.den*q.den ∣ ((qs.take (i+1)).map fun q:Rat=>q.den).prod):=fun i b q hq b0 bl hd=>by
  have q0:=q.den_pos
  have ql:=t9 q (c7b _)
  have zt:=b3v hq
  have zl:=b9H qs i
  have zm:=a2z (c6S hq)
  have g0:=c8b b q0
  have gl:c7w b q.den<2 ^ sz q:=c7c (c9n b q0) ql
  obtain⟨c,hc⟩:=Nat.gcd_dvd_left b q.den
  have ec:b / c7w b q.den=c:=by
   conv=>lhs;lhs;rw[hc]
   exact Nat.mul_div_cancel_left c g0
  have e1:((b:Int).fdiv ((c7w b q.den:Nat):Int))=(c:Int):=by
   rw[J4 (by omega) (by omega),← ec];norm_cast
  have cb:c≤b:=by rw[← ec];exact c8U _ _
  have c0:0<c:=Nat.pos_of_ne_zero fun z=>by rw[z,Nat.mul_zero]at hc;omega
  rw[e1,ec]
  have bl3:b<2 ^ (szs (qs.take i)+1):=by rw[c81];have:=c7S (szs (qs.take i));omega
  refine⟨⟨by omega,by rw[c6N];exact c6R (F0 (p9 gl (show sz q≤8500 by omega)) (by decide)) (by decide)⟩,w6 8501 8500 (by rw[c6N];exact p9 (c7c cb bl3) (by omega)) (by rw[c6N];exact p9 ql (by omega)) (by decide),by rw[c8c],c9h c0 q0,?_,fun r hr=>?_,fun hp=>?_⟩
  ·rw[zt,c9c]
   exact c8g (c6V cb bl) (c8C ql)
  ·rw[c73,hq]at hr
   rcases c7i.mp hr with hr|hr
   ·obtain⟨e,he⟩:=hd r hr
    obtain⟨f',hf⟩:=Nat.gcd_dvd_right b q.den
    refine Nat.dvd_trans (hd r hr) ?_
    rw[hf]
    refine⟨f',?_⟩
    conv=>rhs;lhs;rw[hc]
    rw[c94 _ c,c9O]
   ·rw[c7a.mp hr];exact Nat.dvd_mul_left _ _
  ·rw[c73,hq,c7d,List.prod_append]
   show c*q.den ∣ _*(q.den*1)
   rw[Nat.mul_one]
   exact Nat.mul_dvd_mul (Nat.dvd_trans ⟨c7w b q.den,by rw[c94];exact hc⟩ hp) (Nat.dvd_refl _)
 rcases hx with rfl|rfl
 all_goals
  refine⟨_,(d4 (jst 1 sc.nd d3) (d4 (A7 PassesOwn.never rfl (B4 (a8 0)) (jn 2 sc.nd) (d5 (jst 1 sc.nd (f9 p5 (f9 E9 (a8 1) (jc c4t hr (a7 (a8 1) (a7 (jx (a8 2) d3) a9)))) (jx (a8 2) d3))))) (d5 (d7 (a8 1))))),?_⟩
  walk_at "sim"
  refine a0r.by (fun i e M'=>M'=M∧∃(b:Nat) (z:Option D),e=[some _,some (.int (b:Int)),z]∧0<b∧b≤2 ^ (szs (qs.take i))∧(∀ r∈qs.take i,r.den ∣ b)∧b ∣ ((qs.take i).map fun q:Rat=>q.den).prod) ⟨rfl,1,_,rfl,by decide,by show 1≤2 ^ 0;decide,fun r hr=>(by cases hr),Nat.dvd_refl _⟩ (fun _ _ _ _ _=>by simp only[B5,p6]) ?_ ?_
  ·rintro i dd e M' hd ⟨rfl,b,z,rfl,b0,bl,hdv,hdp⟩
   rw[c6Y]at hd
   obtain⟨q,hq,rfl⟩:=c7s.mp hd
   obtain⟨k1,k2,k3,k4,k5,k6,k7⟩:=key i b q hq b0 bl hdv
   walk_at "sim"
   exact⟨k1,k2,_,some (d9 q),by rw[k3],k4,k5,k6,k7 hdp⟩
  ·rintro e M' ⟨rfl,b,z,rfl,b0,bl,hdv,hdp⟩
   rw[c6Q,c7t]at *
   walk_at "sim"
   exact k b b0 bl hdv hdp
theorem b4n(T:Txt K mg)(d:Df K mg "swing" a58 ["t","x","later"])(c4u:Fn P w K mg base "tops_over" 1 ["ratios","bottom"] b3G)(c4j:Fn P w K mg base "common_bottom" 2 ["ratios"] b3J):Fn P w K mg base "swing" 3 ["t","x","later"] a2F:=by
 have sc:=b3A
 refine i9 d sc (by walk_at "len") (fun f cdv A outer s H E ds M R Y hr h=>?_)
 have hu:=hr.units
 obtain⟨t,x,f',rfl,⟨ht,hz⟩,k⟩:=h
 have es:szs [x,f']=sz x+sz f':=by unfold szs;simp only[c7I,c8d,c9P,c95];omega
 have xn:=K3 x
 have xd:=J3 x
 have fn:=K3 f'
 have fd:=J3 f'
 rw[c6N]at xd fd
 refine⟨_,(d4 (jst 3 sc.nd (jc c4j hr (a7 (f6 (a7 (a8 1) (a7 (a8 2) a9))) a9))) (d4 (p7 (jc c4u hr (a7 (f6 (a7 (a8 1) (a7 (a8 2) a9))) (a7 (a8 3) a9))) (a32 (n:=2) rfl (d6 (jn 4 sc.nd) (d6 (jn 5 sc.nd) h8)))) (d5 (d7 (f6 (a7 (f9 X7 (f9 p5 (jx (a8 0) d3) (f9 F1 (f9 p5 (a8 4) (a8 4)) (f9 p5 (a8 5) (a8 5)))) (f9 p5 (f9 p5 (jx (a8 0) d3) (a8 4)) (a8 5))) (a7 (f9 p5 (a8 3) (a8 3)) a9))))))),?_⟩
 walk_at "sim"
 refine⟨[x,f'],.inl rfl,by omega,fun B B0 Bl hB _=>⟨[x,f'],.inl rfl,⟨by show 2≤1000;decide,c6V Bl (c7f (by decide) (by omega)),B0,fun q hq=>⟨hB q hq,?_⟩⟩,?_⟩⟩
 ·have:=a2z hq;omega
 have cl1:B<2 ^ 4201:=c7c Bl (c8p (by decide) (by omega))
 obtain⟨o1,o2⟩:=J5 (hB x (by simp))
 obtain⟨p1,p2⟩:=J5 (hB f' (by simp))
 have o3:(x.num*(B:Int).fdiv (x.den:Int)).natAbs<2 ^ 8401:=by
  refine c7c o2 (c6R (j8 xn cl1) (c7f (by decide) (by omega)))
 have p3:(f'.num*(B:Int).fdiv (f'.den:Int)).natAbs<2 ^ 8401:=by
  refine c7c p2 (c6R (j8 fn cl1) (c7f (by decide) (by omega)))
 walk_at "sim"
 generalize x.num*(B:Int).fdiv (x.den:Int)=O at *
 generalize f'.num*(B:Int).fdiv (f'.den:Int)=P at *
 have td:=t9 t ht
 have tn:=u9 t ht
 have td':(t.den:Int).natAbs<2 ^ 231:=by rw[c6N];exact td
 have B':(B:Int).natAbs<2 ^ 4201:=by rw[c6N];exact cl1
 have oo:=e7 o3 o3
 have pp:=e7 p3 p3
 have op:=b5C oo pp
 have tdo:=e7 td' op
 have tno:=e7 tn o3
 have tnop:=e7 tno p3
 refine⟨w6 _ _ o3 o3 (by decide),w6 _ _ p3 p3 (by decide),w6 _ _ td' op (by decide),w6 _ _ tn o3 (by decide),w6 _ _ tno p3 (by decide),w6 _ _ B' B' (by decide),?_⟩
 refine k _ _ ?_ ?_ ?_ ?_
 ·have:(0:Int)<(B:Int):=by omega
  exact Int.mul_pos this this
 ·exact p9 (e7 B' B') (by decide)
 ·exact p9 (V8 (p9 tdo (show _≤17034 by decide)) (p9 tnop (by decide))) (by decide)
 ·have e:=A0 t
  rw[c8l,c6T,c7X,c6T,c6T,c6T,c6T,c6T,c6Z,c6Z,o1,p1,← e]
  grind
theorem a8k(T:Txt K mg)(d:Df K mg "reach_by" a0I ["t","x","later"])(c5l:Fn P w K mg base "swing" 3 ["t","x","later"] a2F):Fn P w K mg base "reach_by" 4 ["t","x","later"] a5x:=by
 have sc:=a73
 refine i9 d sc (by walk_at "len") (fun f cdv A outer s H E ds M R Y hr h=>?_)
 have hu:=hr.units
 obtain⟨t,x,f',rfl,⟨ht,t1,t2,hz⟩,k⟩:=h
 have td:=t9 t ht
 have tn:=u9 t ht
 have td':(t.den:Int).natAbs<2 ^ 231:=by rw[c6N];exact td
 have e:=A0 t
 have d0:(0:Rat)<(t.den:Rat):=by
  have:=t.den_pos
  exact_mod_cast this
 have h4:=b0J t1 t2
 refine⟨_,(d4 (p7 (jc c5l hr (a7 (a8 0) (a7 (a8 1) (a7 (a8 2) a9)))) (i8 (n:=2) rfl (d6 (jn 3 sc.nd) (d6 (jn 4 sc.nd) h8)))) (d5 (d7 (f6 (a7 (f9 p5 (f9 p5 d3 (a8 3)) (jx (a8 0) d3)) (a7 (f9 p5 (a8 4) (f9 X7 (f9 p5 (f9 p5 d3 (jx (a8 0) d3)) (jx (a8 0) d3)) (f9 p5 (jx (a8 0) d3) (jx (a8 0) d3)))) a9)))))),?_⟩
 walk_at "sim"
 refine⟨⟨ht,hz⟩,fun T B b0 bB bT eT=>?_⟩
 have t4d:(4*(t.den:Int)).natAbs<2 ^ (3+231):=e7 (show(4:Int).natAbs<2 ^ 3 by decide) td'
 have tdd:=e7 t4d td'
 have tnn:=e7 tn tn
 have bd:=V8 tdd (p9 tnn (by decide))
 have rat:(((4*(t.den:Int)*(t.den:Int) - t.num*t.num:Int)):Rat)=(4 - t*t)*((t.den:Rat)*(t.den:Rat)):=by
  rw[c8l,c6T,c6T,c6T,c6Z,← e]
  rw[show(((4:Int)):Rat)=4 from rfl]
  grind
 have pos:0<4*(t.den:Int)*(t.den:Int) - t.num*t.num:=by
  have:(0:Rat)<((4*(t.den:Int)*(t.den:Int) - t.num*t.num:Int):Rat):=by
   rw[rat];exact c7J h4 (c7J d0 d0)
  exact_mod_cast this
 have t4:=e7 (show(4:Int).natAbs<2 ^ 3 by decide) bT
 have t4t:=e7 t4 td'
 refine⟨a8s (by decide) (by decide),w6 _ _ t4 td' (by decide),a8s (by decide) (by decide),w6 _ _ t4d td' (by decide),w6 _ _ tn tn (by decide),w6 _ _ bB bd (by decide),?_⟩
 refine k _ _ (Int.mul_pos b0 pos) (p9 (e7 bB bd) (by decide)) (p9 t4t (by decide)) ?_
 have b0':(0:Rat)<(B:Rat):=by exact_mod_cast b0
 rw[c7M,c6T,c6T,c6T,rat,eT,c6Z]
 unfold G8
 rw[show(((4:Int)):Rat)=4 from rfl]
 exact b6X (fun z=>by rw[z]at d0;exact absurd d0 (by decide)) (fun z=>by rw[z]at b0';exact absurd b0' (by decide)) (fun z=>by rw[z]at h4;exact absurd h4 (by decide))
theorem b7y(T:Txt K mg)(d:Df K mg "plus" a6a ["one","other"])(c4f:Fn P w K mg base "ratio" 2 ["top","bottom"] V1):Fn P w K mg base "plus" 3 ["one","other"] R5:=by
 have sc:=b0M
 refine i9 d sc (fun ds M R Y h=>?_) (fun f cdv A outer s H E ds M R Y hr h=>?_)
 ·obtain⟨q,r,rfl,_⟩:=h;rfl
 ·obtain⟨q,r,rfl,hz,k⟩:=h
  refine⟨_,(d5 (d7 (jc c4f hr (a7 (f9 F1 (f9 p5 (jx (a8 0) d3) (jx (a8 1) d3)) (f9 p5 (jx (a8 1) d3) (jx (a8 0) d3))) (a7 (f9 p5 (jx (a8 0) d3) (jx (a8 1) d3)) a9))))),?_⟩
  refine⟨_,rfl,_,rfl,_,rfl,_,rfl,_,_,rfl,rfl,mND hz,_,rfl,_,rfl,_,rfl,_,rfl,_,_,rfl,rfl,mND (by omega),_,rfl,_,rfl,_,rfl,_,rfl,_,rfl,_,_,rfl,rfl,mDD hz,_,_,rfl,c7Q (RM.D8 q) (RM.D8 r),lDD hz,?_⟩
  rw[RM.a91]at k
  exact k
theorem b7v(T:Txt K mg)(d:Df K mg "t_of" a9b ["table"])(c4q:Fn P w K mg base "plus" 3 ["one","other"] R5):Fn P w K mg base "t_of" 4 ["table"] a1Q:=by
 have sc:=b6N
 refine i9 d sc (by walk_at "len") (fun f cdv A outer s H E ds M R Y hr h=>?_)
 have hu:=hr.units
 obtain⟨x,rfl,⟨a,b,c,d⟩,hx,cd,k⟩:=h
 have hx':x=a1I a b c d:=hx
 subst hx'
 have t4:=CD.t4 cd
 have h1:sz a≤230:=t4.a
 have h4:sz d≤230:=t4.d
 refine⟨_,(d5 (d7 (jc c4q hr (a7 (jx (a8 0) d3) (a7 (jx (a8 0) d3) a9))))),?_⟩
 walk_at "sim"
 exact⟨by omega,k⟩
theorem a8m(T:Txt K mg)(d:Df K mg "opposite" a0J ["one"]):Fn P w K mg base "opposite" 1 ["one"] a5u:=by
 have sc:=a75
 refine i9 d sc (fun ds M R Y h=>?_) (fun f cdv A outer s H E ds M R Y hr h=>?_)
 ·obtain⟨q,rfl,_⟩:=h;rfl
 ·obtain⟨q,rfl,k⟩:=h
  refine⟨_,(d5 (d7 (f6 (a7 (A3 (jx (a8 0) d3)) (a7 (jx (a8 0) d3) a9))))),?_⟩
  refine⟨_,rfl,_,rfl,_,rfl,_,rfl,_,rfl,sl 2,?_⟩
  have e:d9 (-q) = .tup [.int (-q.num),.int (q.den:Int)]:=by unfold d9;rw[c9G,c9H]
  rw[e]at k
  exact k
theorem a1r(T:Txt K mg)(d:Df K mg "rounds_to_self" I0 ["table"])(c4n:Fn P w K mg base "opposite" 1 ["one"] a5u)(c4h:Fn P w K mg base "t_of" 4 ["table"] a1Q):Fn P w K mg base "rounds_to_self" 5 ["table"] a9k:=by
 have sc:=a06
 refine i9 d sc (by walk_at "len") (fun f cdv A outer s H E ds M R Y hr h=>?_)
 have hu:=hr.units
 obtain⟨x,rfl,⟨a,b,c,d⟩,hx,cd,k⟩:=h
 have hx':x=a1I a b c d:=hx
 subst hx'
 refine⟨_,(d4 (f8 (jtm (y3 hu) (a8 0) (o6 rfl T.c_SELF)) (d5 (d7 d3)) f7) (d4 (f8 (jtm (y3 hu) (a8 0) (b06 c0U rfl T.b_tuple R1 (a7 (J8 [] ["entry"] [] rfl (by decide +kernel) rfl (by decide +kernel) (by decide +kernel) rfl a1E a1E (B4 (o6 rfl T.c_SELF)) (fun _ _ _ _ _ _=>(jn 0 (show(["entry"]:List Str).Nodup by decide +kernel))) (fun _ _ _ _ _ _=>A4) (fun _ _ _ _ _ _=>(jc c4n hr (a7 (a8 0) a9)))) a9))) (d5 (d7 d3)) f7) (d4 (jst 1 sc.nd (jc c4h hr (a7 (a8 0) a9))) (d4 (f8 (jtm (y3 hu) (a8 1) (jc c4n hr (a7 (o6 rfl T.c_ONE) a9))) (d5 (d7 d3)) f7) (d4 (f8 (jtm (y3 hu) (a8 1) (o6 rfl T.c_NOUGHT)) (d5 (d7 d3)) f7) (d5 (d7 (a1v (jtm (y3 hu) (a8 1) (o6 rfl T.c_ONE)) d3 M9)))))))),?_⟩
 walk_at "sim"
 refine⟨fun e=>?_,fun e=>?_⟩
 ·have e:=a7R (m:=(a,b,c,d)) (k:=(1,0,0,1)) (@of_decide_eq_true _ (c7z _) e)
  unfold a0N at k
  rw[if_pos e]at k
  exact k
 ·have e1:¬ (a,b,c,d)=((1,0,0,1):Q4):=fun z=>@of_decide_eq_false _ (c7z _) e (congrArg E7 z)
  refine B7 (xs:=[1,0,0,1]) (enc:=d9) (fun q=>d9 (-q)) (by show 4≤1000;decide) (by simp only[B5]) (fun q hq Q hQ=>?_) ?_
  ·walk_at "sim"
   exact hQ
  ·walk_at "sim"
   unfold a0N at k
   rw[if_neg e1]at k
   refine⟨fun e=>?_,fun e=>⟨(a,b,c,d),rfl,cd,fun e3=>?_,fun e3=>⟨fun e4=>?_,fun e4=>⟨fun e5=>?_,fun e5=>?_⟩⟩⟩⟩
   ·have e:=a7R (m:=(a,b,c,d)) (k:=(-1,0,0,-1)) e
    rw[if_pos e]at k
    exact k
   ·have e2:¬ (a,b,c,d)=((-1,0,0,-1):Q4):=fun z=>e (congrArg E7 z)
    rw[if_neg e2,if_pos e3]at k
    exact k
   ·have e2:¬ (a,b,c,d)=((-1,0,0,-1):Q4):=fun z=>e (congrArg E7 z)
    rw[if_neg e2,if_neg e3,if_pos e4]at k
    exact k
   ·have e2:¬ (a,b,c,d)=((-1,0,0,-1):Q4):=fun z=>e (congrArg E7 z)
    rw[if_neg e2,if_neg e3,if_neg e4,if_pos e5]at k
    exact k
   ·have e2:¬ (a,b,c,d)=((-1,0,0,-1):Q4):=fun z=>e (congrArg E7 z)
    rw[if_neg e2,if_neg e3,if_neg e4,if_neg e5]at k
    exact k
theorem a8i(T:Txt K mg)(d:Df K mg "shown_by" a0G ["word","table","x","later"])(c4D:Fn P w K mg base "over" 3 ["one","other"] a0A)(c4f:Fn P w K mg base "ratio" 2 ["top","bottom"] V1)(c4o:Fn P w K mg base "reach_by" 4 ["t","x","later"] a5x)(c4h:Fn P w K mg base "t_of" 4 ["table"] a1Q)(c4b:Fn P w K mg base "rounds_to_self" 5 ["table"] a9k):Fn P w K mg base "shown_by" 6 ["word","table","x","later"] a3A:=by
 have sc:=a71
 refine i9 d sc (by walk_at "len") (fun f cdv A outer s H E ds M R Y hr h=>?_)
 have hu:=hr.units
 obtain⟨w',x,a,f',rfl,m,r,rfl,rfl,⟨cd,hd,hl,hx⟩,k⟩:=h
 have zt:sz (trQ m)≤231:=CD.tr cd
 have xf:sz a+sz f'≤4200:=hl.xf
 have body:¬ (a=0∧f'=0)→(kwS m=Str.ofString "same" → ∃ m_1,E7 m=E7 m_1∧CDQ 230 m_1∧R (D.tup [D.str (Str.ofString "round"),a0N m_1]) M)∧(¬ kwS m=Str.ofString "same" → (kwS m=Str.ofString "turns" → ∃ m_1,E7 m=E7 m_1∧CDQ 230 m_1∧(sz (trQ m_1)≤231∧-2<trQ m_1∧trQ m_1<2∧sz a+sz f'≤4200)∧∀(T B:Int),0<B→B.natAbs<2 ^ 8870→T.natAbs<2 ^ 17400→c7u T B=G8 (trQ m_1) a f'→B≠0∧B.natAbs.log2<9000∧R (D.tup [D.str (Str.ofString "reach"),d9 (c7u T B)]) M)∧(¬ kwS m=Str.ofString "turns" → a≠0∧sz f'+sz a≤8900∧R (D.tup [D.str (Str.ofString "kept"),d9 (f' / a)]) M)):=fun h0=>by
  unfold O8 at k
  rw[if_neg (show ¬ ((a,f',r).1=0∧(a,f',r).2.1=0)from h0)]at k
  rcases D4 m with⟨c1,e⟩|⟨c1,c2,e⟩|⟨c1,c2,c3,e⟩|⟨c1,c2,c3,e⟩
  ·rw[if_pos c1]at k
   refine⟨fun _=>⟨m,rfl,cd,?_⟩,fun h=>absurd e h⟩
   rw[a0O m c1];exact k
  ·have c3:¬ e9 (trQ m)<2:=by rw[c2];decide
   rw[if_neg c1,if_neg c3]at k
   rw[e]
   refine⟨fun h=>absurd h (by decide),fun _=>⟨fun h=>absurd h (by decide),fun _=>⟨fun z=>h0 ⟨z,hx c1 c3 z⟩,by omega,k⟩⟩⟩
  ·rw[if_neg c1,if_pos c3]at k
   rw[e]
   obtain⟨t1,t2⟩:=O3.mp c3
   refine⟨fun h=>absurd h (by decide),fun _=>⟨fun _=>⟨m,rfl,cd,⟨zt,t1,t2,xf⟩,fun T B b0 bB bT eT=>⟨by omega,c6R (F0 bB (by decide)) (by decide),?_⟩⟩,fun h=>absurd rfl h⟩⟩
   rw[eT];exact k
  ·rw[if_neg c1,if_neg c3]at k
   rw[e]
   refine⟨fun h=>absurd h (by decide),fun _=>⟨fun h=>absurd h (by decide),fun _=>⟨fun z=>h0 ⟨z,hx c1 c3 z⟩,by omega,k⟩⟩⟩
 refine⟨_,(d4 (f8 (C9 (a12 (jtm (y3 hu) (a8 2) (o6 rfl T.c_NOUGHT)) (a0j (jtm (y3 hu) (a8 3) (o6 rfl T.c_NOUGHT))))) (d5 (d7 (f6 (a7 g8 a9)))) f7) (d4 (f8 (jtm u3 (a8 0) g8) (d5 (d7 (f6 (a7 g8 (a7 (jc c4b hr (a7 (a8 1) a9)) a9))))) f7) (d4 (f8 (jtm u3 (a8 0) g8) (d4 (p7 (jc c4o hr (a7 (jc c4h hr (a7 (a8 1) a9)) (a7 (a8 2) (a7 (a8 3) a9)))) (i8 (n:=2) rfl (d6 (jn 4 sc.nd) (d6 (jn 5 sc.nd) h8)))) (d5 (d7 (f6 (a7 g8 (a7 (jc c4f hr (a7 (a8 4) (a7 (a8 5) a9))) a9)))))) f7) (d5 (d7 (f6 (a7 g8 (a7 (jc c4D hr (a7 (a8 3) (a7 (a8 2) a9))) a9)))))))),?_⟩
 walk_at "sim"
 refine⟨fun h1=>⟨fun h2=>?_,fun h2=>body fun z=>h2 z.2⟩,fun h1=>body fun z=>h1 z.1⟩
 unfold O8 at k
 rw[if_pos (show(a,f',r).1=0∧(a,f',r).2.1=0 from⟨h1,h2⟩)]at k
 exact k
theorem b7A(T:Txt K mg)(d:Df K mg "less" a6c ["one","other"]):Fn P w K mg base "less" 1 ["one","other"] a0B:=by
 have sc:=b0N
 refine i9 d sc (fun ds M R Y h=>?_) (fun f cdv A outer s H E ds M R Y hr h=>?_)
 ·obtain⟨q,r,rfl,_⟩:=h;rfl
 ·obtain⟨q,r,rfl,hz,k⟩:=h
  refine⟨_,(d5 (d7 (jm a0T (f9 p5 (jx (a8 0) d3) (jx (a8 1) d3)) (f9 p5 (jx (a8 1) d3) (jx (a8 0) d3))))),?_⟩
  refine⟨_,rfl,_,rfl,_,rfl,_,rfl,_,_,rfl,rfl,mND hz,_,rfl,_,rfl,_,rfl,_,rfl,_,_,rfl,rfl,mND (by omega),_,rfl,?_⟩
  rw[← RM.c2q]at k
  exact k
theorem a8f(T:Txt K mg)(d:Df K mg "unsigned" a0E ["one"]):Fn P w K mg base "unsigned" 1 ["one"] a5v:=by
 have sc:=a7Y
 refine i9 d sc (by walk_at "len") (fun f cdv A outer s H E ds M R Y hr h=>?_)
 have hu:=hr.units
 obtain⟨q,rfl,k⟩:=h
 refine⟨_,(d5 (d7 (f6 (a7 (o9 a1B rfl T.b_abs U8 (a7 (jx (a8 0) d3) a9)) (a7 (jx (a8 0) d3) a9))))),?_⟩
 walk_at "sim"
 exact k
theorem a6L(T:Txt K mg)(d:Df K mg "kind_word" W7 ["table"])(c4w:Fn P w K mg base "less" 1 ["one","other"] a0B)(c4i:Fn P w K mg base "unsigned" 1 ["one"] a5v)(c4h:Fn P w K mg base "t_of" 4 ["table"] a1Q)(c4b:Fn P w K mg base "rounds_to_self" 5 ["table"] a9k):Fn P w K mg base "kind_word" 6 ["table"] sKw:=by
 have sc:=a53
 refine i9 d sc (by walk_at "len") (fun f cdv A outer s H E ds M R Y hr h=>?_)
 have hu:=hr.units
 obtain⟨x,rfl,⟨a,b,c,d⟩,hx,cd,k⟩:=h
 have hx':x=a1I a b c d:=hx
 subst hx'
 have ht:sz (trQ (a,b,c,d))≤231:=CD.tr cd
 have hs:=GM.a0z (trQ (a,b,c,d))
 have z2:sz 2≤2:=by decide +kernel
 refine⟨_,(d4 (f8 (jtm a6Q (jc c4b hr (a7 (a8 0) a9)) M9) (d5 (d7 g8)) f7) (d4 (jst 1 sc.nd (jc c4i hr (a7 (jc c4h hr (a7 (a8 0) a9)) a9))) (d4 (f8 (jtm (y3 hu) (a8 1) (o6 rfl T.c_TWO)) (d5 (d7 g8)) f7) (d5 (d7 (a1v (p8 (jc c4w hr (a7 (a8 1) (a7 (o6 rfl T.c_TWO) a9)))) g8 g8)))))),?_⟩
 walk_at "sim"
 refine⟨(a,b,c,d),rfl,cd,?_⟩
 unfold kwS at k
 by_cases h1:r9 (a,b,c,d)
 ·rw[if_pos h1]at k
  obtain⟨n,e⟩:=b0S h1
  rw[e,a4d rfl]
  walk_at "sim"
  exact k
 ·rw[if_neg h1]at k
  rw[a6A h1,a4d rfl]
  walk_at "sim"
  refine⟨(a,b,c,d),rfl,cd,fun e=>?_,fun e=>⟨by omega,fun e2=>?_,fun e2=>?_⟩⟩
  ·rw[if_pos e]at k;exact k
  ·rw[if_neg e,if_pos e2]at k;exact k
  ·rw[if_neg e,if_neg e2]at k;exact k
theorem a4v(T:Txt K mg)(d:Df K mg "next_state" R7 ["t","state"]):Fn P w K mg base "next_state" 1 ["t","state"] a6r:=by
 have sc:=a4h
 refine i9 d sc (by walk_at "len") (fun f cdv A outer s H E ds M R Y hr h=>?_)
 have hu:=hr.units
 obtain⟨t,x,rfl,s,rfl,⟨ht,kk,b1,b2,b3,hk⟩,k⟩:=h
 have td:=t9 t ht
 have tn:=u9 t ht
 have td':(t.den:Int).natAbs<2 ^ 231:=by rw[c6N];exact td
 unfold stD at *
 refine⟨_,(d4 (p7 (a8 1) (i8 (n:=3) rfl (d6 (jn 2 sc.nd) (d6 (jn 3 sc.nd) (d6 (jn 4 sc.nd) h8))))) (d5 (d7 (f6 (a7 (a8 3) (a7 (f9 X7 (f9 p5 (jx (a8 0) d3) (a8 3)) (f9 p5 (f9 p5 (jx (a8 0) d3) (jx (a8 0) d3)) (a8 2))) (a7 (f9 p5 (a8 4) (jx (a8 0) d3)) a9))))))),?_⟩
 walk_at "sim"
 exact⟨w6 _ _ tn b2 (by omega),w6 _ _ td' td' (by decide),w6 _ _ (e7 td' td') b1 (by omega),w6 _ _ b3 td' (by omega),k⟩
theorem a3Q(T:Txt K mg)(d:Df K mg "first_state" P6 ["t","x","later","r"])(c4u:Fn P w K mg base "tops_over" 1 ["ratios","bottom"] b3G)(c4j:Fn P w K mg base "common_bottom" 2 ["ratios"] b3J):Fn P w K mg base "first_state" 3 ["t","x","later","r"] a3F:=by
 have sc:=a3v
 refine i9 d sc (by walk_at "len") (fun f cdv A outer s H E ds M R Y hr h=>?_)
 have hu:=hr.units
 obtain⟨t,x,f',r,rfl,⟨ht,hz,zx,zf,zr⟩,k⟩:=h
 have es:szs [x,f',r]=sz x+sz f'+sz r:=by unfold szs;simp only[c7I,c8d,c9P,c95];omega
 have td:=t9 t ht
 have td':(t.den:Int).natAbs<2 ^ 231:=by rw[c6N];exact td
 refine⟨_,(d4 (jst 4 sc.nd (f6 (a7 (a8 1) (a7 (a8 2) (a7 (a8 3) a9))))) (d4 (p7 (jc c4u hr (a7 (a8 4) (a7 (jc c4j hr (a7 (a8 4) a9)) a9))) (a32 (n:=3) rfl (d6 (jn 5 sc.nd) (d6 (jn 6 sc.nd) (d6 (jn 7 sc.nd) h8))))) (d5 (d7 (f6 (a7 (a8 5) (a7 (f9 p5 (a8 6) (jx (a8 0) d3)) (a7 (a8 7) a9)))))))),?_⟩
 walk_at "sim"
 refine⟨[x,f',r],.inl rfl,by omega,fun B B0 Bl hB _=>⟨[x,f',r],.inl rfl,⟨by show 3≤1000;decide,c6V Bl (c7f (by decide) (by omega)),B0,fun q hq=>⟨hB q hq,?_⟩⟩,?_⟩⟩
 ·have:=a2z hq;omega
 have Bb:B<2 ^ 8501:=c7c Bl (c8p (by decide) (by omega))
 obtain⟨o1,o2⟩:=J5 (hB x (by simp))
 obtain⟨p1,p2⟩:=J5 (hB f' (by simp))
 obtain⟨q1,q2⟩:=J5 (hB r (by simp))
 have n1:=c7c o2 (j8 (u9 x zx) Bb)
 have n2:=c7c p2 (j8 (u9 f' zf) Bb)
 have n3:=c7c q2 (j8 (u9 r zr) Bb)
 walk_at "sim"
 generalize x.num*(B:Int).fdiv (x.den:Int)=a at *
 generalize f'.num*(B:Int).fdiv (f'.den:Int)=b at *
 generalize r.num*(B:Int).fdiv (r.den:Int)=c at *
 refine⟨w6 _ _ n2 td' (by decide),?_⟩
 refine k (a,b*(t.den:Int),c) ⟨⟨B,B0,o1,?_,q1⟩,p9 n1 (by decide),p9 (e7 n2 td') (by decide),p9 n3 (by decide)⟩
 show((b*(t.den:Int):Int):Rat)=f'*((B:Rat)*(t.den:Rat))
 rw[c6T,p1,c6Z];grind
theorem a3J(T:Txt K mg)(d:Df K mg "stop_within" O9 ["t","numbers","watched","rounds"])(c4V:Fn P w K mg base "next_state" 1 ["t","state"] a6r)(c4R:Fn P w K mg base "first_state" 3 ["t","x","later","r"] a3F):Fn P w K mg base "stop_within" 4 ["t","numbers","watched","rounds"] a6j:=by
 have sc:=a3p
 refine i9 d sc (by walk_at "len") (fun f cdv A outer s H E ds M R Y hr h=>?_)
 have hu:=hr.units
 obtain⟨t,x,y,N,rfl,ls,ws,rfl,rfl,⟨ht,⟨hl,hw⟩,hN,hok,hk⟩,k⟩:=h
 have at':∀ j∈ws,∃ l,ls[j]? = some l∧ls.getD j (0,0,0)=l∧a16 l:=fun j hj=>by
  have h1:=c7e (hk j hj)
  exact⟨_,h1,by rw[c7C,h1];rfl,hok _ (c6S h1)⟩
 have bA:∀ j∈ws,∀ n,A8 t ls j n=decide (B9 t (ls.getD j (0,0,0)) n):=fun j hj n=>by
  obtain⟨l,h1,h2,_⟩:=at' j hj
  unfold A8;rw[h1,h2]
 refine⟨_,(d4 (E4 (i:=4) [0] ["x","later","r"] ["t"] sc.nd rfl (Or.inl rfl) rfl (by decide +kernel) rfl (by decide +kernel) (by decide +kernel) rfl (a4O ⟨rfl,rfl⟩) (a4O (Or.inl rfl)) (B4 (J8 [1] ["k"] ["numbers"] rfl (by decide +kernel) rfl (by decide +kernel) (by decide +kernel) rfl (a4O ⟨rfl,rfl⟩) (a4O (Or.inl rfl)) (B4 (a8 2)) (fun _ _ _ _ _ _=>(jn 0 (show(["k","numbers"]:List Str).Nodup by decide +kernel))) (fun _ _ _ _ _ _=>A4) (fun _ _ _ _ _ _=>(jx (a8 1) (a8 0))))) (fun _ _ _ _ _ _=>(i8 (n:=3) rfl (d6 (jn 0 (show(["x","later","r","t"]:List Str).Nodup by decide +kernel)) (d6 (jn 1 (show(["x","later","r","t"]:List Str).Nodup by decide +kernel)) (d6 (jn 2 (show(["x","later","r","t"]:List Str).Nodup by decide +kernel)) h8))))) (fun _ _ _ _ _ _=>A4) (fun _ _ _ _ _ _=>(jc c4R hr (a7 (a8 3) (a7 (a8 0) (a7 (a8 1) (a7 (a8 2) a9))))))) (d4 (A7 PassesOwn.never rfl (a1t rfl T.b_range (a7 (a8 3) a9)) (jn 5 sc.nd) (d4 (A7 PassesOwn.never rfl (a6T rfl T.b_zip (a7 (a8 2) (a7 (a8 4) a9))) (i8 (n:=2) rfl (d6 (jn 6 sc.nd) (d6 (jn 7 sc.nd) h8))) (d5 (f8 (jtm a4J (o9 a1B rfl T.b_abs U8 (a7 (jx (a8 7) d3) a9)) (jx (a8 7) d3)) (d5 (d7 (f6 (a7 (a8 5) (a7 (a8 6) a9))))) f7))) (d5 (E4 (i:=4) [0] ["state"] ["t"] sc.nd rfl (Or.inl rfl) rfl (by decide +kernel) rfl (by decide +kernel) (by decide +kernel) rfl (a4O ⟨rfl,rfl⟩) (a4O (Or.inl rfl)) (B4 (a8 4)) (fun _ _ _ _ _ _=>(jn 0 (show(["state","t"]:List Str).Nodup by decide +kernel))) (fun _ _ _ _ _ _=>A4) (fun _ _ _ _ _ _=>(jc c4V hr (a7 (a8 1) (a7 (a8 0) a9)))))))) (d5 (d7 M9)))),?_⟩
 walk_at "sim"
 refine B7 (xs:=ws) (enc:=fun k:Nat=>D.int (k:Int)) (fun k=>o8 (ls.getD k (0,0,0))) (by omega) (by simp only[p6]) (fun j hj Q hQ=>?_) ?_
 ·obtain⟨l,h1,h2,_⟩:=at' j hj
  walk_at "sim"
  exact⟨_,y4 (n:=j) (by rw[c6Y,h1,h2];rfl),hQ⟩
 walk_at "sim"
 refine b5p stD (fun i s=>∃ k,ws[i]? = some k∧a8R t (ls.getD k (0,0,0)) 0 s) (by rw[c6Q];omega) (by simp only[p6]) (fun i d hd Q hQ=>?_) (fun ss hlen hss=>?_)
 ·rw[c6Y]at hd
  obtain⟨j,hj,rfl⟩:=c7s.mp hd
  obtain⟨l,h1,h2,h3⟩:=at' j (c6S hj)
  rw[h2]
  walk_at "sim"
  have:=h3.xf;have:=h3.x;have:=h3.f;have:=h3.r
  exact⟨⟨ht,by omega,by omega,by omega,by omega⟩,fun s hs=>hQ s ⟨j,hj,by rw[h2];exact hs⟩⟩
 rw[c6Q]at hlen
 refine⟨⟨by omega,by omega⟩,?_⟩
 rw[c8a]
 refine a0r.by (fun i e M'=>M'=M∧∃(ss:List (Int × Int × Int)) (z5 z6 z7:Option D),e=[some (d9 t),some (.vl (ls.map o8)),some (.vl (ws.map fun k:Nat=>D.int (k:Int))),some (.int (N:Int)),some (.vl (ss.map stD)),z5,z6,z7]∧ss.length=ws.length∧(∀ j s,ss[j]? = some s→∃ k,ws[j]? = some k∧a8R t (ls.getD k (0,0,0)) i s)∧∀ n,n<i→∀ k∈ws,A8 t ls k n=false) ⟨rfl,ss,_,_,_,rfl,hlen,hss,fun n hn=>absurd hn (by omega)⟩ (fun _ _ _ _ _=>trivial) ?_ ?_
 ·rintro i dd e M' hd ⟨rfl,ss,z5,z6,z7,rfl,hlen,hss,hno⟩
  obtain⟨hi,rfl⟩:=b1O hd
  rw[show(0:Int)+(i:Int)=(i:Int)by omega]
  walk_at "sim"
  refine a0r.by (fun j e M''=>M''=M'∧∃(z6 z7:Option D),e=[some (d9 t),some (.vl (ls.map o8)),some (.vl (ws.map fun k:Nat=>D.int (k:Int))),some (.int (N:Int)),some (.vl (ss.map stD)),some (.int (i:Int)),z6,z7]∧∀ j',j'<j→∀ k',ws[j']? = some k'→A8 t ls k' i=false) ⟨rfl,_,_,rfl,fun j hj=>absurd hj (by omega)⟩ (fun _ _ _ _ _=>by simp only[p6,and_self]) ?_ ?_
  ·rintro j dd e M'' hd2 ⟨rfl,z6,z7,rfl,hn2⟩
   obtain⟨k',s',rfl,hkj,hsj⟩:∃(k':Nat) (s':Int × Int × Int),dd = .tup [.int (k':Int),stD s']∧ws[j]? = some k'∧ss[j]? = some s':=by
    unfold V6 at hd2
    rw[c8j,c6Y,c6Y]at hd2
    cases h1:ws[j]? with
    | none=>rw[h1]at hd2;simp at hd2
    | some a =>
     cases h2:ss[j]? with
     | none=>rw[h1,h2]at hd2;simp at hd2
     | some b=>rw[h1,h2]at hd2;exact⟨a,b,(Option.some.inj hd2).symm,rfl,rfl⟩
   obtain⟨k2,hk2,hst⟩:=hss j s' hsj
   obtain rfl:k'=k2:=by rw[hkj]at hk2;exact Option.some.inj hk2
   have hb:=hst.bey
   have hbA:=bA k' (c6S hkj) i
   unfold stD
   walk_at "sim"
   refine⟨fun h1=>?_,fun h1=>⟨_,_,rfl,fun j' hj' k3 hk3=>?_⟩⟩
   ·rw[a83 hi hkj (by rw[hbA];exact decide_eq_true (hb.mp h1)) hno hn2]at k
    exact k
   ·rcases c77 j' j with z|z
    ·exact hn2 j' z k3 hk3
    ·have:j'=j:=by omega
     subst this
     rw[hkj]at hk3
     obtain rfl:=Option.some.inj hk3
     rw[hbA];exact decide_eq_false fun z=>h1 (hb.mpr z)
  ·rintro e M'' ⟨rfl,z6,z7,rfl,hn2⟩
   have hzl:(V6 (ws.map fun k:Nat=>D.int (k:Int)) (ss.map stD)).length=ws.length:=by rw[V5,c6Q,c6Q];omega
   rw[hzl]at hn2
   walk_at "sim"
   refine B7 (xs:=ss) (enc:=stD) (fun s=>stD (s.2.1,t.num*s.2.1 - (t.den:Int)*(t.den:Int)*s.1,s.2.2*(t.den:Int))) (by omega) (by simp only[p6]) (fun s hs Q hQ=>?_) ?_
   ·obtain⟨j,hj⟩:=c7G hs
    obtain⟨k2,hk2,hst⟩:=hss j s hj
    walk_at "sim"
    exact⟨s,rfl,⟨ht,12000+470*i,hst.b1,hst.b2,hst.b3,by omega⟩,hQ⟩
   ·walk_at "sim"
    refine⟨ss.map fun s=>(s.2.1,t.num*s.2.1 - (t.den:Int)*(t.den:Int)*s.1,s.2.2*(t.den:Int)),some (.int (i:Int)),z6,z7,by rw[c7N];rfl,by rw[c6Q];exact hlen,fun j s hs=>?_,fun n hn k3 hk3=>?_⟩
    ·rw[c6Y]at hs
     obtain⟨s0,hs0,rfl⟩:=c7s.mp hs
     obtain⟨k2,hk2,hst⟩:=hss j s0 hs0
     exact⟨k2,hk2,hst.next ht⟩
    ·rcases c77 n i with z|z
     ·exact hno n z k3 hk3
     ·have:n=i:=by omega
      subst this
      obtain⟨j,hj⟩:=c7G hk3
      exact hn2 j (c6P.mp hj).1 k3 hj
 ·rw[q9]
  rintro e M' ⟨rfl,ss,z5,z6,z7,rfl,hlen,hss,hno⟩
  walk_at "sim"
  rw[a3l hno]at k
  exact k
theorem a1T(T:Txt K mg)(d:Df K mg "sheared_round" J9 ["t","x","later","r"])(c4u:Fn P w K mg base "tops_over" 1 ["ratios","bottom"] b3G)(c4j:Fn P w K mg base "common_bottom" 2 ["ratios"] b3J):Fn P w K mg base "sheared_round" 3 ["t","x","later","r"] a9i:=by
 have sc:=a1L
 refine i9 d sc (by walk_at "len") (fun f cdv A outer s H E ds M R Y hr h=>?_)
 have hu:=hr.units
 obtain⟨t,x,f',r,rfl,⟨ht,hl,h0,hw⟩,k⟩:=h
 have es:szs [x,f',r]=sz x+sz f'+sz r:=by unfold szs;simp only[c7I,c8d,c9P,c95];omega
 have zx:sz x≤3000:=hl.x
 have zf:sz f'≤3000:=hl.f
 have zr:sz r≤3000:=hl.r
 have xf:sz x+sz f'≤4200:=hl.xf
 have tp:(0<t.num)↔0<t:=by
  constructor
  ·intro h
   rw[c9T];simpa using h
  ·exact a9H
 refine⟨_,(d4 (jst 4 sc.nd (f6 (a7 (a8 1) (a7 (a8 2) (a7 (a8 3) a9))))) (d4 (p7 (jc c4u hr (a7 (a8 4) (a7 (jc c4j hr (a7 (a8 4) a9)) a9))) (a32 (n:=3) rfl (d6 (jn 5 sc.nd) (d6 (jn 6 sc.nd) (d6 (jn 7 sc.nd) h8))))) (d4 (jst 8 sc.nd (f9 X7 (a1v (jtm a4J (jx (a8 0) d3) d3) (a8 6) (A3 (a8 6))) (a8 5))) (d4 (jst 9 sc.nd (a1v (jtm a4J (a8 8) d3) (f9 X7 (a8 7) (a8 5)) (f9 F1 (a8 7) (a8 5)))) (d5 (d7 (f9 F1 (f9 E9 (a8 9) (o9 a1B rfl T.b_abs U8 (a7 (a8 8) a9))) d3))))))),?_⟩
 walk_at "sim"
 refine⟨[x,f',r],.inl rfl,by omega,fun B B0 Bl hB hBp=>⟨[x,f',r],.inl rfl,⟨by show 3≤1000;decide,c6V Bl (c7f (by decide) (by omega)),B0,fun q hq=>⟨hB q hq,?_⟩⟩,?_⟩⟩
 ·have:=a2z hq;omega
 obtain⟨o1,o2⟩:=J5 (hB x (by simp))
 obtain⟨p1,p2⟩:=J5 (hB f' (by simp))
 obtain⟨q1,q2⟩:=J5 (hB r (by simp))
 have hBp:B ∣ x.den*(f'.den*r.den):=by simpa using hBp
 have o3:(x.num*(B:Int).fdiv (x.den:Int)).natAbs<2 ^ 8000:=b0H (hB x (by simp)) hBp (K3 x) (c9h f'.den_pos r.den_pos) (j8 (t9 f' (c7b _)) (t9 r (c7b _))) (by omega)
 have p3:(f'.num*(B:Int).fdiv (f'.den:Int)).natAbs<2 ^ 8000:=b0H (hB f' (by simp)) (by rw[c87]at hBp;exact hBp) (K3 f') (c9h x.den_pos r.den_pos) (j8 (t9 x (c7b _)) (t9 r (c7b _))) (by omega)
 have hdn:=a87 ht hw
 have B0':(0:Rat)<(B:Rat):=by exact_mod_cast B0
 walk_at "sim"
 generalize x.num*(B:Int).fdiv (x.den:Int)=a at *
 generalize f'.num*(B:Int).fdiv (f'.den:Int)=b at *
 generalize r.num*(B:Int).fdiv (r.den:Int)=c at *
 have fin:∀ bb:Int,bb.natAbs<2 ^ 8000→(bb:Rat)=(if 0<t then f' else -f')*(B:Rat)→∀ g:Int,g=(if 0<bb - a then c - a else c+a)→CFd g (((bb - a).natAbs:Nat):Int)∧R (.int (g.fdiv (((bb - a).natAbs:Nat):Int)+1)) M:=fun bb hbb ebb g hg=>by
  generalize hd:(if 0<t then f' else -f') - x=d at *
  have es2:((bb - a:Int):Rat)=d*(B:Rat):=by rw[c8l,ebb,o1,← hd];grind
  have sp:(0<bb - a)↔0<d:=by
   have e1:(0<bb - a)↔(0:Rat)<((bb - a:Int):Rat):=by exact_mod_cast Iff.rfl
   rw[e1,es2]
   constructor
   ·intro z
    apply c68
    intro nz
    have:=c7m (a:=-d) (b:=(B:Rat)) (by grind) (by grind)
    grind
   ·intro z;exact c7J z B0'
  have sne:bb - a≠0:=fun z=>by
   rw[z]at es2
   have es2:(0:Rat)=d*(B:Rat):=es2
   rcases c7y.mp es2.symm with z|z
   ·exact hdn z
   ·rw[z]at B0';exact absurd B0' (by decide)
  have sl:(bb - a).natAbs<2 ^ 8001:=V8 hbb o3
  have sz1:(((bb - a).natAbs:Nat):Rat)=e9 d*(B:Rat):=by
   rw[← b1r,es2,N5,show e9 (B:Rat)=(B:Rat)by unfold e9;rw[if_pos (by grind)]]
  have hgq:(g:Rat)=(if 0<d then r - x else r+x)*(B:Rat):=by
   rw[hg]
   by_cases h:0<d
   ·rw[if_pos (sp.mpr h),if_pos h,c8l,q1,o1];grind
   ·rw[if_neg (fun z=>h (sp.mp z)),if_neg h,c7X,q1,o1];grind
  have xr:x≤r∧-r≤x:=by
   unfold e9 at h0;split at h0<;>exact⟨by grind,by grind⟩
  have g0:0≤g:=by
   have:(0:Rat)≤(g:Rat):=by
    rw[hgq]
    refine c7m ?_ (by grind)
    split<;>grind
   exact_mod_cast this
  obtain⟨G,rfl⟩:∃ G:Nat,g=(G:Int):=⟨g.toNat,by omega⟩
  generalize hS:(bb - a).natAbs=Sn at *
  have S0:0<Sn:=by omega
  refine⟨⟨by omega,by rw[c6N];exact c6R (F0 sl (by decide)) (by decide)⟩,?_⟩
  rw[J4 (by omega) (by omega)]
  have eN:((G:Int) / (Sn:Int))+1=((G / Sn+1:Nat):Int):=by norm_cast
  rw[eN]
  have d1:G / Sn*Sn≤G:=Nat.div_mul_le_self G Sn
  have d2:G<(G / Sn+1)*Sn:=by rw[c9K,Nat.one_mul];exact Nat.lt_div_mul_add S0
  generalize G / Sn=N at *
  have f1:(N:Rat)*(Sn:Rat)≤(G:Rat):=by exact_mod_cast d1
  have f2:(G:Rat)<((N:Rat)+1)*(Sn:Rat):=by exact_mod_cast d2
  have hgq:(G:Rat)=(if 0<d then r - x else r+x)*(B:Rat):=hgq
  rw[sz1,hgq]at f1 f2
  obtain⟨k1,k2⟩:=a7X (f:=f') (N:=N) ht h0 hd.symm hdn rfl (by
   apply c68
   intro nz
   have:=c7J (a:=(N:Rat)*e9 d - (if 0<d then r - x else r+x)) (b:=(B:Rat)) (by grind) B0'
   grind) (by
   apply c68
   intro nz
   have:=c7m (a:=(if 0<d then r - x else r+x) - ((N:Rat)+1)*e9 d) (b:=(B:Rat)) (by grind) (by grind)
   grind)
  exact k _ k1 k2
 refine⟨fun h=>?_,fun h=>?_⟩
 ·have:=fin b p3 (by rw[if_pos (tp.mp h)];exact p1)
  exact⟨fun h2=>this _ (by rw[if_pos h2]),fun h2=>this _ (by rw[if_neg h2])⟩
 ·have:=fin (-b) (by rw[c72];exact p3) (by rw[if_neg (fun z=>h (tp.mpr z)),c9v,p1];grind)
  exact⟨fun h2=>this _ (by rw[if_pos h2]),fun h2=>this _ (by rw[if_neg h2])⟩
theorem a1U(T:Txt K mg)(d:Df K mg "first_sheared" K0 ["t","numbers","late"])(c4L:Fn P w K mg base "sheared_round" 3 ["t","x","later","r"] a9i):Fn P w K mg base "first_sheared" 4 ["t","numbers","late"] b9R:=by
 have sc:=a1M
 refine i9 d sc (by walk_at "len") (fun f cdv A outer s H E ds M R Y hr h=>?_)
 have hu:=hr.units
 obtain⟨t,x,y,rfl,ls,ws,rfl,rfl,⟨ht,⟨hl,hwl⟩,hok,hk⟩,k0,k⟩:=h
 refine⟨_,(d4 (jst 3 sc.nd (a11 a9)) (d4 (A7 PassesOwn.never rfl (B4 (a8 2)) (jn 4 sc.nd) (d4 (p7 (jx (a8 1) (a8 4)) (i8 (n:=3) rfl (d6 (jn 5 sc.nd) (d6 (jn 6 sc.nd) (d6 (jn 7 sc.nd) h8))))) (d5 (D5 (X9 PySem.F.slot_list_append PySem.F.type_list_append C4 (a8 3) (a7 (f6 (a7 (jc c4L hr (a7 (a8 0) (a7 (a8 5) (a7 (a8 6) (a7 (a8 7) a9))))) (a7 (a8 4) a9))) a9)))))) (d5 (d7 (Y1 (b7J hu rfl rfl T.b_min c0V (a7 (Q1 (a8 3)) a9))))))),?_⟩
 walk_at "sim"
 intro p hp
 refine a0r.by (fun i e M'=>∃(ps:List (Int × Int)) (z4 z5 z6 z7:Option D),e=[some (d9 t),some (D.vl (ls.map o8)),some (D.vl (ws.map fun k:Nat=>D.int (k:Int))),some (.ref p),z4,z5,z6,z7]∧M'=C1 M p (.lst (ps.map a2v))∧ps.length=i∧∀(j:Nat) (q:Int × Int),ps[j]? = some q→∃(N k:Nat) (l:Rat × Rat × Rat),q=((N:Int),(k:Int))∧ws[j]? = some k∧ls[k]? = some l∧B9 t l N∧∀ n,n<N→¬ B9 t l n) ⟨[],_,_,_,_,rfl,rfl,rfl,fun j q h=>by simp at h⟩ (fun _ _ _ _ _=>by simp only[p6]) ?_ ?_
 ·rintro i dd e M' hd ⟨ps,z4,z5,z6,z7,rfl,rfl,hpl,hps⟩
  rw[c6Y]at hd
  obtain⟨k1,hk1,rfl⟩:=c7s.mp hd
  obtain⟨l,hl1,hsw⟩:=hk k1 (c6S hk1)
  obtain⟨ok,h0⟩:=hok l (c6S hl1)
  have hi:=(c6P.mp hk1).1
  walk_at "sim"
  refine⟨o8 l,y4 (n:=k1) (by rw[c6Y,hl1];rfl),?_⟩
  walk_at "sim"
  refine N6 i7 ⟨⟨ht,ok,h0,hsw⟩,fun N b1 b2=>?_⟩
  walk_at "sim"
  refine a17 i7 (by rw[c6Q];omega) ⟨ps++[((N:Int),(k1:Int))],_,_,_,_,rfl,?_,by rw[c7l,hpl];rfl,fun j q hq=>?_⟩
  ·rw[a3i,c7d];rfl
  ·rcases c77 j ps.length with z|z
   ·rw[c8q z]at hq;exact hps j q hq
   ·rw[c8o z]at hq
    have hj:j - ps.length=0:=by
     have:=(c6P.mp hq).1
     simp at this;omega
    rw[hj]at hq
    have e5:q=((N:Int),(k1:Int)):=by simpa using hq.symm
    exact⟨N,k1,l,e5,by rw[show j=i by omega];exact hk1,hl1,b1,b2⟩
 ·rintro e M' ⟨ps,z4,z5,z6,z7,rfl,rfl,hpl,hps⟩
  rw[c6Q]at hpl
  walk_at "sim"
  rw[a0y i7,N3 hp]
  walk_at "sim"
  refine b9C.mpr ⟨fun z=>Y9 (M2:=M) (fun _ _ h=>h) (k0 (c8M (by rw[z]at hpl;exact hpl.symm))),fun q hq hm=>Y9 (M2:=M) (fun _ _ h=>h) ?_⟩
  obtain⟨j,hj⟩:=c7G hq
  obtain⟨N,k1,l,rfl,hw1,hl1,b1,b2⟩:=hps j q hj
  have of:∀ k'∈ws,∃(N':Nat) (l':Rat × Rat × Rat),((N':Int),(k':Int))∈ps∧ls[k']? = some l'∧∀ n,n<N'→¬ B9 t l' n:=fun k' hk'=>by
   obtain⟨j',hj'⟩:=c7G hk'
   have hlt:j'<ps.length:=by rw[hpl];exact(c6P.mp hj').1
   have hq':=c7e hlt
   obtain⟨N',k2,l',e5,hw2,hl2,_,b4⟩:=hps j' _ hq'
   rw[hj']at hw2
   obtain rfl:=Option.some.inj hw2
   exact⟨N',l',by rw[← e5];exact c98 hlt,hl2,b4⟩
  refine k N k1 (c6S hw1) (a1D.mpr ⟨l,hl1,b1⟩) (fun n' hn k' hk'=>?_) (fun k' hk' hlt=>?_)
  ·obtain⟨N',l',hm',hl',b4⟩:=of k' hk'
   have:=hm _ hm'
   refine O2.mpr fun l2 e2=>?_
   rw[hl']at e2
   obtain rfl:=Option.some.inj e2
   exact b4 n' (by omega)
  ·obtain⟨N',l',hm',hl',b4⟩:=of k' hk'
   have:=hm _ hm'
   refine O2.mpr fun l2 e2=>?_
   rw[hl']at e2
   obtain rfl:=Option.some.inj e2
   exact b4 N (by omega)
theorem a4B(T:Txt K mg)(d:Df K mg "first_stop" S5 ["table","numbers","late"])(c4r:Fn P w K mg base "stop_within" 4 ["t","numbers","watched","rounds"] a6j)(c4M:Fn P w K mg base "first_sheared" 4 ["t","numbers","late"] b9R)(c4b:Fn P w K mg base "rounds_to_self" 5 ["table"] a9k)(c4g:Fn P w K mg base "kind_word" 6 ["table"] sKw)(c4h:Fn P w K mg base "t_of" 4 ["table"] a1Q)(c4w:Fn P w K mg base "less" 1 ["one","other"] a0B)(c4i:Fn P w K mg base "unsigned" 1 ["one"] a5v):Fn P w K mg base "first_stop" 7 ["table","numbers","late"] a9r:=by
 have sc:=a4n
 refine i9 d sc (by walk_at "len") (fun f cdv A outer s H E ds M R Y hr h=>?_)
 have hu:=hr.units
 obtain⟨x,y,z,rfl,m,ls,rfl,rfl,rfl,⟨cd,hd,hl,hok⟩,k⟩:=h
 have zt:sz (trQ m)≤231:=CD.tr cd
 refine⟨_,(d4 (A7 PassesOwn.never rfl (a1u rfl T.b_enumerate (a7 (a8 1) a9)) (i8 (n:=2) rfl (d6 (jn 3 sc.nd) (d6 (i8 (n:=3) rfl (d6 (jn 4 sc.nd) (d6 (jn 5 sc.nd) (d6 (jn 6 sc.nd) h8)))) h8))) (d5 (f8 (p8 (jc c4w hr (a7 (a8 6) (a7 (jc c4i hr (a7 (a8 4) a9)) a9)))) (d5 (d7 (f6 (a7 d3 (a7 (a8 3) a9))))) f7))) (d4 (jst 7 sc.nd (jc c4h hr (a7 (a8 0) a9))) (d4 (jst 8 sc.nd (jc c4g hr (a7 (a8 0) a9))) (d4 (f8 (jtm u3 (a8 8) g8) (d5 (d7 (jc c4r hr (a7 (a8 7) (a7 (a8 1) (a7 (a6U rfl rfl T.b_list a2R rfl T.b_range (a7 (o9 G9 rfl T.b_len C6 (a7 (a8 1) a9)) a9)) (a7 (jc c4b hr (a7 (a8 0) a9)) a9))))))) f7) (d4 (f8 (jtm u3 (a8 8) g8) (d5 (d7 (jc c4M hr (a7 (a8 7) (a7 (a8 1) (a7 (a8 2) a9)))))) f7) (d5 (d7 (jc c4r hr (a7 (a8 7) (a7 (a8 1) (a7 (a8 2) (a7 (o6 rfl T.c_FIRST_ROUNDS) a9)))))))))))),?_⟩
 walk_at "sim"
 rw[b1h]
 refine a0r.by (fun i e M'=>M'=M∧(∃ z3 z4 z5 z6 z7 z8:Option D,e=[some (E7 m),some (D.vl (ls.map o8)),some (D.vl ((A2 m ls).map fun k:Nat=>D.int (k:Int))),z3,z4,z5,z6,z7,z8])∧∀(j:Nat) l,j<i→ls[j]? = some l→¬ l.2.2<e9 l.1) ⟨rfl,⟨_,_,_,_,_,_,rfl⟩,fun j l h=>absurd h (by omega)⟩ (fun _ _ _ _ _=>by simp only[p6]) ?_ ?_
 ·rintro i dd e M' hd2 ⟨rfl,⟨z3,z4,z5,z6,z7,z8,rfl⟩,hno⟩
  rw[c6Y]at hd2
  obtain⟨zz,hz,rfl⟩:=c7s.mp hd2
  obtain⟨l,rfl,hli⟩:∃ l,zz=(l,i)∧ls[i]? = some l:=by
   rw[List.getElem?_zipIdx]at hz
   obtain⟨l,hl1,e5⟩:=c7s.mp hz
   exact⟨l,by rw[← e5];simp,hl1⟩
  have ok:=(hok l (c6S hli)).1
  have:=ok.x;have:=ok.r
  have ax:=a0z l.1
  walk_at "sim"
  refine⟨by omega,fun h1=>?_,fun h1=>⟨⟨_,_,_,_,_,_,rfl⟩,fun j l' hj hl'=>?_⟩⟩
  ·refine k (some (0,i)) ⟨a1D.mpr ⟨l,hli,h1⟩,fun n hn=>absurd hn (by omega),fun j hj=>O2.mpr fun l' hl'=>hno j l' hj hl',.inr (by show 0<60;decide)⟩
  ·rcases c77 j i with z|z
   ·exact hno j l' z hl'
   ·have:j=i:=by omega
    subst this
    rw[hli]at hl'
    obtain rfl:=Option.some.inj hl'
    exact h1
 ·rw[c6Q,c76]
  rintro e M' ⟨rfl,⟨z3,z4,z5,z6,z7,z8,rfl⟩,hno⟩
  have h0:∀ l∈ls,¬ l.2.2<e9 l.1:=fun l hl=>by
   obtain⟨j,hj⟩:=c7G hl
   exact hno j l (c6P.mp hj).1 hj
  have stays:¬ r9 m→∀ j,j∉A2 m ls→∀ n,A8 (trQ m) ls j n=false:=fun hs j hj n=>O2.mpr fun l hl=>by
   have lm:=c6S hl
   refine a0V hs (hok l lm).1.p ?_ (h0 l lm) n
   cases e:u4 m l.1 l.2.1 l.2.2 with
   | false=>rfl
   | true=>exact absurd (Q6.mpr ⟨l,hl,e⟩) hj
  have lk:∀ j∈A2 m ls,j<ls.length:=fun j hj=>by
   obtain⟨l,h1,_⟩:=Q6.mp hj
   exact(c6P.mp h1).1
  have ll:(A2 m ls).length≤40:=by
   unfold A2
   rw[c6Q]
   have:=c8k (fun z:(Rat × Rat × Rat) × Nat=>u4 m z.1.1 z.1.2.1 z.1.2.2) ls.zipIdx
   rw[c76]at this;omega
  walk_at "sim"
  refine⟨m,rfl,cd,m,rfl,cd,fun hsm=>?_,fun hsm=>⟨fun hsh=>?_,fun hsh=>?_⟩⟩
  ·have hs:r9 m:=by
    rcases D4 m with⟨c1,_⟩|⟨_,_,e⟩|⟨_,_,_,e⟩|⟨_,_,_,e⟩
    ·exact c1
    ·rw[e]at hsm;exact absurd hsm (by decide)
    ·rw[e]at hsm;exact absurd hsm (by decide)
    ·rw[e]at hsm;exact absurd hsm (by decide)
   have rt6:rtN m≤6:=by
    unfold rtN;repeat' split
    all_goals decide
   rw[c3l]
   walk_at "sim"
   refine⟨ls.length,by rw[c6Q],by omega,m,rfl,cd,?_⟩
   rw[a0O m hs]
   refine(V7 (N:=rtN m)).mpr ⟨ls,c7K ls.length,rfl,rfl,⟨zt,⟨hl,by rw[c89];exact hl⟩,by omega,fun l h=>(hok l h).1,fun j hj=>c71.mp hj⟩,?_⟩
   have rg:∀{j:Nat},j<ls.length→(c7K ls.length)[j]? = some j:=fun{j} hj=>by rw[List.getElem?_range hj]
   have out:∀{j n:Nat},¬ j<ls.length→A8 (trQ m) ls j n=false:=fun{j n} hj=>O2.mpr fun l e5=>absurd (c6P.mp e5).1 hj
   cases e:L9 (trQ m) ls (c7K ls.length) (rtN m)with
   | none =>
    have inv:=W2 e
    refine k none fun n j _=>O2.mpr fun l hl5=>?_
    have lm:=c6S hl5
    have jl:=(c6P.mp hl5).1
    exact a3z hd hs (hok l lm).2 (fun n5 hn5=>O2.mp (inv n5 hn5 j (c71.mpr jl)) l hl5) n
   | some z =>
    obtain⟨h1,⟨i5,h2,h3⟩,h4,h5⟩:=W1 e
    have ei:i5=z.2∧i5<ls.length:=by
     have hlt:=(c6P.mp h2).1
     rw[c89]at hlt
     rw[rg hlt]at h2
     exact⟨Option.some.inj h2,hlt⟩
    refine k (some z) ⟨h4,fun n hn j=>?_,fun j hj=>?_,.inl (.inl hs)⟩
    ·by_cases hj:j<ls.length
     ·exact h5 n hn j (c71.mpr hj)
     ·exact out hj
    ·by_cases hj2:j<ls.length
     ·exact h3 j (by omega) j (rg hj2)
     ·exact out hj2
  ·obtain⟨hs,h2⟩:¬ r9 m∧e9 (trQ m)=2:=by
    rcases D4 m with⟨_,e⟩|⟨c1,c2,_⟩|⟨_,_,_,e⟩|⟨_,_,_,e⟩
    ·exact absurd e hsm
    ·exact⟨c1,c2⟩
    ·rw[e]at hsh;exact absurd hsh (by decide)
    ·rw[e]at hsh;exact absurd hsh (by decide)
   have st:=stays hs
   have h3:¬ e9 (trQ m)<2:=by rw[h2];decide
   refine⟨ls,A2 m ls,rfl,rfl,⟨h2,⟨hl,ll⟩,fun l h=>⟨(hok l h).1,h0 l h⟩,fun j hj=>?_⟩,fun hn=>?_,fun n j hj b1 b2 b3=>?_⟩
   ·obtain⟨l,e1,e2⟩:=Q6.mp hj
    refine⟨l,e1,fun z=>?_⟩
    unfold u4 at e2
    rw[if_neg hs,if_neg h3,if_neg (fun w=>w z),if_pos h2]at e2
    cases e2
   ·refine k none fun n j _=>st j (fun z=>?_) n
    rw[hn]at z;cases z
   ·refine k (some (n,j)) ⟨b1,fun n' hn' j'=>?_,fun j' hj'=>?_,.inl (.inr h2)⟩
    ·by_cases z:j'∈A2 m ls
     ·exact b2 n' hn' j' z
     ·exact st j' z n'
    ·by_cases z:j'∈A2 m ls
     ·exact b3 j' z hj'
     ·exact st j' z n
  ·obtain⟨hs,hnr⟩:¬ r9 m∧¬ a2o m:=by
    rcases D4 m with⟨_,e⟩|⟨_,_,e⟩|⟨c1,c2,_⟩|⟨c1,c2,_⟩
    ·exact absurd e hsm
    ·exact absurd e hsh
    ·exact⟨c1,fun z=>z.elim c1 c2⟩
    ·exact⟨c1,fun z=>z.elim c1 c2⟩
   have st:=stays hs
   refine(V7 (N:=60)).mpr ⟨ls,A2 m ls,rfl,rfl,⟨zt,⟨hl,ll⟩,by decide,fun l h=>(hok l h).1,lk⟩,?_⟩
   have asc:∀{i j a b:Nat},(A2 m ls)[i]? = some a→(A2 m ls)[j]? = some b→a<b→i<j:=b4B
   cases e:L9 (trQ m) ls (A2 m ls) 60 with
   | none =>
    have inv:=W2 e
    refine k none fun n j hn=>?_
    by_cases z:j∈A2 m ls
    ·exact inv n (hn.resolve_left hnr) j z
    ·exact st j z n
   | some z =>
    obtain⟨h1,⟨i5,h2,h3⟩,h4,h5⟩:=W1 e
    refine k (some z) ⟨h4,fun n hn j=>?_,fun j hj=>?_,.inr h1⟩
    ·by_cases zz:j∈A2 m ls
     ·exact h5 n hn j zz
     ·exact st j zz n
    ·by_cases zz:j∈A2 m ls
     ·obtain⟨i6,h6⟩:=c7G zz
      exact h3 i6 (asc h6 h2 hj) j h6
     ·exact st j zz z.1
theorem a9D(T:Txt K mg)(d:Df K mg "less" a6c ["one","other"]):Fn P w K mg base "less" 1 ["one","other"] a3E:=by
 have sc:=b0N
 refine i9 d sc (by walk_at "len") (fun f cdv A outer s H E ds M R Y hr h=>?_)
 have hu:=hr.units
 obtain⟨q,T',B,rfl,⟨b0,zq,zB,zT⟩,k⟩:=h
 have e:decide (q<c7u T' B)=decide (q.num*B<T'*(q.den:Int)):=decide_eq_decide.mpr (b4w b0).symm
 rw[e]at k
 refine⟨_,(d5 (d7 (jm a0T (f9 p5 (jx (a8 0) d3) (jx (a8 1) d3)) (f9 p5 (jx (a8 1) d3) (jx (a8 0) d3))))),?_⟩
 walk_at "sim"
 exact⟨w6 _ _ (u9 q zq) zB (by decide),w6 _ _ zT (by rw[c6N];exact t9 q zq) (by decide),k⟩
theorem b4m(T:Txt K mg)(d:Df K mg "times" a2C ["one","other"])(c4f:Fn P w K mg base "ratio" 2 ["top","bottom"] V1):Fn P w K mg base "times" 3 ["one","other"] G2:=by
 have sc:=a7Z
 refine i9 d sc (fun ds M R Y h=>?_) (fun f cdv A outer s H E ds M R Y hr h=>?_)
 ·obtain⟨q,r,rfl,_⟩:=h;rfl
 ·obtain⟨q,r,rfl,hz,k⟩:=h
  refine⟨_,(d5 (d7 (jc c4f hr (a7 (f9 p5 (jx (a8 0) d3) (jx (a8 1) d3)) (a7 (f9 p5 (jx (a8 0) d3) (jx (a8 1) d3)) a9))))),?_⟩
  refine⟨_,rfl,_,rfl,_,rfl,_,rfl,_,_,rfl,rfl,mNN hz,_,rfl,_,rfl,_,rfl,_,rfl,_,_,rfl,rfl,mDD hz,_,_,rfl,c7Q (RM.D8 q) (RM.D8 r),lDD hz,?_⟩
  rw[RM.a9J]at k
  exact k
theorem a4u(T:Txt K mg)(d:Df K mg "shows_late" R6 ["word","t","x","later","r"])(c4w:Fn P w K mg base "less" 1 ["one","other"] a0B)(c4i:Fn P w K mg base "unsigned" 1 ["one"] a5v)(c5l:Fn P w K mg base "swing" 3 ["t","x","later"] a2F)(c4y:Fn P w K mg base "less" 1 ["one","other"] a3E)(c4o:Fn P w K mg base "reach_by" 4 ["t","x","later"] a5x)(c4d:Fn P w K mg base "times" 3 ["one","other"] G2):Fn P w K mg base "shows_late" 5 ["word","t","x","later","r"] a6m:=by
 have sc:=a4g
 refine i9 d sc (by walk_at "len") (fun f cdv A outer s H E ds M R Y hr h=>?_)
 have hu:=hr.units
 obtain⟨w',t,x,f',r,rfl,m,rfl,rfl,⟨cd,hd,hz,hr',r0⟩,k⟩:=h
 have zt:sz (trQ m)≤231:=CD.tr cd
 have zr:=RM.y9 r r
 have ax:=a0z x
 have af:=a0z f'
 have dn:((trQ m).den:Rat)≠0:=by
  intro z;exact(trQ m).den_nz (by exact_mod_cast z)
 have tz:∀{T B:Int},0<B→(T:Rat)=(trQ m).den*(x*x - trQ m*(x*f')+f'*f')*B→(T=0↔swQ (trQ m) x f'=0):=fun{T B} b0 e=>by
  have hB:(B:Rat)≠0:=by intro z;exact absurd (show B=0 by exact_mod_cast z) (by omega)
  unfold swQ
  generalize x*x - trQ m*(x*f')+f'*f'=v at *
  constructor
  ·intro z
   rw[z]at e
   have e:(0:Rat)=(trQ m).den*v*B:=e
   grind
  ·intro z
   rw[z]at e
   have:(T:Rat)=0:=by grind
   exact_mod_cast this
 unfold u4 at k
 refine⟨_,(d4 (f8 (jtm u3 (a8 0) g8) (d5 (d7 B1)) f7) (d4 (f8 (jtm u3 (a8 0) g8) (d5 (d7 (jc c4y hr (a7 (jc c4d hr (a7 (a8 4) (a7 (a8 4) a9))) (a7 (jc c4o hr (a7 (a8 1) (a7 (a8 2) (a7 (a8 3) a9)))) a9))))) f7) (d4 (f8 (jtm a3U (jx (jc c5l hr (a7 (a8 1) (a7 (a8 2) (a7 (a8 3) a9)))) d3) d3) (d5 (d7 B1)) f7) (d5 (d7 (C8 (jm u3 (a8 0) g8) (v8 (a0W (jc c4w hr (a7 (jc c4i hr (a7 (a8 2) a9)) (a7 (jc c4i hr (a7 (a8 3) a9)) a9))) (v8 (jc c4w hr (a7 (a8 4) (a7 (jc c4i hr (a7 (a8 2) a9)) a9)))))))))))),?_⟩
 walk_at "sim"
 rcases D4 m with⟨c1,e⟩|⟨c1,c2,e⟩|⟨c1,c2,c3,e⟩|⟨c1,c2,c3,e⟩
 ·rw[e]
  rw[if_pos c1]at k
  exact⟨fun _=>k,fun h=>absurd rfl h⟩
 ·have c3:¬ e9 (trQ m)<2:=by rw[c2];decide
  rw[if_neg c1,if_neg c3]at k
  rw[e]
  refine⟨fun h=>absurd h (by decide),fun _=>⟨fun h=>absurd h (by decide),fun _=>⟨⟨zt,hz⟩,fun T' B b0 bB bT eT=>⟨fun h=>?_,fun h=>⟨fun h=>absurd h (by decide),fun _=>?_⟩⟩⟩⟩⟩
  ·rw[if_pos (fun z=>h ((tz b0 eT).mpr z))]at k;exact k
  ·rw[if_neg (fun z=>z ((tz b0 eT).mp h)),if_pos c2]at k;exact k
 ·rw[if_neg c1,if_pos c3]at k
  rw[e]
  obtain⟨t1,t2⟩:=O3.mp c3
  refine⟨fun h=>absurd h (by decide),fun _=>⟨fun _=>⟨by omega,⟨zt,t1,t2,hz⟩,fun T' B b0 bB bT eT=>⟨⟨b0,by omega,p9 bB (by decide),p9 bT (by decide)⟩,?_⟩⟩,fun h=>absurd rfl h⟩⟩
  rw[eT];exact k
 ·rw[if_neg c1,if_neg c3]at k
  rw[e]
  refine⟨fun h=>absurd h (by decide),fun _=>⟨fun h=>absurd h (by decide),fun _=>⟨⟨zt,hz⟩,fun T' B b0 bB bT eT=>⟨fun h=>?_,fun h=>⟨fun _=>⟨by omega,fun h2=>?_,fun h2=>⟨by omega,?_⟩⟩,fun h=>absurd rfl h⟩⟩⟩⟩⟩
  ·rw[if_pos (fun z=>h ((tz b0 eT).mpr z))]at k;exact k
  ·rw[if_neg (fun z=>z ((tz b0 eT).mp h)),if_neg c2,decide_eq_true (.inl h2)]at k;exact k
  ·rw[if_neg (fun z=>z ((tz b0 eT).mp h)),if_neg c2]at k
   rw[show decide (e9 x<e9 f'∨r<e9 x)=decide (r<e9 x)from decide_eq_decide.mpr ⟨fun z=>z.resolve_left h2,.inr⟩]at k
   exact k
theorem a4x(T:Txt K mg)(d:Df K mg "late_lines" R9 ["table","numbers"])(c4W:Fn P w K mg base "shows_late" 5 ["word","t","x","later","r"] a6m)(c4h:Fn P w K mg base "t_of" 4 ["table"] a1Q)(c4g:Fn P w K mg base "kind_word" 6 ["table"] sKw):Fn P w K mg base "late_lines" 7 ["table","numbers"] a6u:=by
 have sc:=a4j
 refine i9 d sc (by walk_at "len") (fun f cdv A outer s H E ds M R Y hr h=>?_)
 have hu:=hr.units
 obtain⟨x,y,rfl,m,ls,rfl,rfl,⟨cd,hd,hl,hok⟩,k⟩:=h
 refine⟨_,(d4 (jst 2 sc.nd (jc c4g hr (a7 (a8 0) a9))) (d4 (jst 3 sc.nd (jc c4h hr (a7 (a8 0) a9))) (d5 (d7 (J8 [2,3] ["k","x","later","r"] ["word","t"] rfl (by decide +kernel) rfl (by decide +kernel) (by decide +kernel) rfl (b2l ⟨rfl,rfl⟩ ⟨rfl,rfl⟩) (b2l (Or.inl rfl) (Or.inl rfl)) (a1u rfl T.b_enumerate (a7 (a8 1) a9)) (fun _ _ _ _ _ _=>(i8 (n:=2) rfl (d6 (jn 0 (show(["k","x","later","r","word","t"]:List Str).Nodup by decide +kernel)) (d6 (i8 (n:=3) rfl (d6 (jn 1 (show(["k","x","later","r","word","t"]:List Str).Nodup by decide +kernel)) (d6 (jn 2 (show(["k","x","later","r","word","t"]:List Str).Nodup by decide +kernel)) (d6 (jn 3 (show(["k","x","later","r","word","t"]:List Str).Nodup by decide +kernel)) h8)))) h8)))) (fun _ _ _ _ _ _=>(a10 (p8 (jc c4W hr (a7 (a8 4) (a7 (a8 5) (a7 (a8 1) (a7 (a8 2) (a7 (a8 3) a9))))))))) (fun _ _ _ _ _ _=>(a8 0))))))),?_⟩
 walk_at "sim"
 refine⟨m,rfl,cd,m,rfl,cd,?_⟩
 rw[b1h]
 refine U6 (xs:=ls.zipIdx) (fun z=>u4 m z.1.1 z.1.2.1 z.1.2.2) (fun z=>D.int (z.2:Int)) (by rw[c76];omega) (by simp only[p6]) (fun z hz Q N h1 h2=>?_) ?_
 ·have ok:=hok z.1 (c6S (c7F.mp hz))
  walk_at "sim"
  refine⟨m,rfl,rfl,⟨cd,hd,ok.xf,ok.r,ok.p⟩,?_⟩
  walk_at "sim"
  exact⟨h1,h2⟩
 ·rw[show(ls.zipIdx.filter fun z=>u4 m z.1.1 z.1.2.1 z.1.2.2).map (fun z=>D.int (z.2:Int))=(A2 m ls).map fun k:Nat=>D.int (k:Int)by unfold A2;rw[c7N];rfl]
  exact k
theorem a6K(T:Txt K mg)(d:Df K mg "number_of" W6 ["p","q","ray"])(c4q:Fn P w K mg base "plus" 3 ["one","other"] R5)(c4d:Fn P w K mg base "times" 3 ["one","other"] G2):Fn P w K mg base "number_of" 4 ["p","q","ray"] a6q:=by
 have sc:=a52
 refine i9 d sc (by walk_at "len") (fun f cdv A outer s H E ds M R Y hr h=>?_)
 have hu:=hr.units
 obtain⟨p,q,y,u,rfl,hz,k⟩:=h
 have z1:=RM.y9 p y
 have z2:=RM.y9 q u
 refine⟨_,(d5 (d7 (jc c4q hr (a7 (jc c4d hr (a7 (a8 0) (a7 (jx (a8 2) d3) a9))) (a7 (jc c4d hr (a7 (a8 1) (a7 (jx (a8 2) d3) a9))) a9))))),?_⟩
 walk_at "sim"
 exact⟨by omega,by omega,by omega,k⟩
theorem c0n(T:Txt K mg)(d:Df K mg "led" b3D ["table","ray"])(c4q:Fn P w K mg base "plus" 3 ["one","other"] R5)(c4d:Fn P w K mg base "times" 3 ["one","other"] G2):Fn P w K mg base "led" 4 ["table","ray"] b1K:=by
 have sc:=b9N
 refine i9 d sc (by walk_at "len") (fun f cdv A outer s H E ds M R Y hr h=>?_)
 have hu:=hr.units
 obtain⟨a,b,c,d,y,u,rfl,h1,h2,k⟩:=h
 refine⟨_,(d4 (p7 (a8 0) (i8 (n:=4) rfl (d6 (jn 2 sc.nd) (d6 (jn 3 sc.nd) (d6 (jn 4 sc.nd) (d6 (jn 5 sc.nd) h8)))))) (d4 (p7 (a8 1) (i8 (n:=2) rfl (d6 (jn 6 sc.nd) (d6 (jn 7 sc.nd) h8)))) (d5 (d7 (f6 (a7 (jc c4q hr (a7 (jc c4d hr (a7 (a8 2) (a7 (a8 6) a9))) (a7 (jc c4d hr (a7 (a8 3) (a7 (a8 7) a9))) a9))) (a7 (jc c4q hr (a7 (jc c4d hr (a7 (a8 4) (a7 (a8 6) a9))) (a7 (jc c4d hr (a7 (a8 5) (a7 (a8 7) a9))) a9))) a9))))))),?_⟩
 walk_at "sim"
 exact⟨by walk_at "size",by walk_at "size",by walk_at "size",by walk_at "size",by walk_at "size",by walk_at "size",k⟩
theorem a6M(T:Txt K mg)(d:Df K mg "first_two" W8 ["table","ray","lines"])(c4v:Fn P w K mg base "number_of" 4 ["p","q","ray"] a6q)(c5g:Fn P w K mg base "led" 4 ["table","ray"] b1K):Fn P w K mg base "first_two" 5 ["table","ray","lines"] T7:=by
 have sc:=a54
 refine i9 d sc (by walk_at "len") (fun f cdv A outer s H E ds M R Y hr h=>?_)
 have hu:=hr.units
 obtain⟨x,y,u,z,rfl,L,ls,rfl,rfl,⟨S,cL,cd0,hS,hl,hs⟩,k⟩:=h
 have cd:CD 1700 y 0 u 0:=cd0.mono hS
 have ol:=E3 L y u
 have ray:=(X6 cL cd).t2
 have r1:=ray.y
 have r2:=ray.u
 have ty:=cd.t2.y
 have tu:=cd.t2.u
 have o1:(g7 L (y,u)).1=(tbQ L).1*y+(tbQ L).2.1*u:=ol.1
 have o2:(g7 L (y,u)).2=(tbQ L).2.2.1*y+(tbQ L).2.2.2*u:=ol.2
 have t4:=CD.t4 cL
 rw[o1]at r1
 rw[o2]at r2
 rw[c7N]at k
 unfold E7
 refine⟨_,(d4 (jst 3 sc.nd (jc c5g hr (a7 (a8 0) (a7 (a8 1) a9)))) (d5 (d7 (J8 [1,3] ["p","q","r"] ["ray","later"] rfl (by decide +kernel) rfl (by decide +kernel) (by decide +kernel) rfl (b2l ⟨rfl,rfl⟩ ⟨rfl,rfl⟩) (b2l (Or.inl rfl) (Or.inl rfl)) (B4 (a8 2)) (fun _ _ _ _ _ _=>(i8 (n:=3) rfl (d6 (jn 0 (show(["p","q","r","ray","later"]:List Str).Nodup by decide +kernel)) (d6 (jn 1 (show(["p","q","r","ray","later"]:List Str).Nodup by decide +kernel)) (d6 (jn 2 (show(["p","q","r","ray","later"]:List Str).Nodup by decide +kernel)) h8))))) (fun _ _ _ _ _ _=>A4) (fun _ _ _ _ _ _=>(f6 (a7 (jc c4v hr (a7 (a8 0) (a7 (a8 1) (a7 (a8 3) a9)))) (a7 (jc c4v hr (a7 (a8 0) (a7 (a8 1) (a7 (a8 4) a9)))) (a7 (a8 2) a9))))))))),?_⟩
 walk_at "sim"
 generalize tbQ L=m at *
 obtain⟨a,b,c,d⟩:=m
 have z3:sz a≤230:=t4.a
 have z4:sz b≤230:=t4.b
 have z5:sz c≤230:=t4.c
 have z6:sz d≤230:=t4.d
 have r1:sz (a*y+b*u)≤230+1700+1:=r1
 have r2:sz (c*y+d*u)≤230+1700+1:=r2
 have o1:(g7 L (y,u)).1=a*y+b*u:=o1
 have o2:(g7 L (y,u)).2=c*y+d*u:=o2
 refine⟨by show sz a+sz y+(sz b+sz u)≤8900;omega,by show sz c+sz y+(sz d+sz u)≤8900;omega,?_⟩
 refine B7 (xs:=ls) (enc:=o8) (fun l=>o8 (y7 L y u l)) (by omega) (by simp only[p6]) (fun l hl Q hQ=>?_) k
 obtain⟨q1,q2⟩:=hs l hl
 unfold o8 y7 at *
 rw[o1,o2]at hQ
 walk_at "sim"
 exact⟨by omega,by omega,hQ⟩
theorem b4q(T:Txt K mg)(d:Df K mg "minus" a6b ["one","other"])(c4q:Fn P w K mg base "plus" 3 ["one","other"] R5)(c4n:Fn P w K mg base "opposite" 1 ["one"] a5u):Fn P w K mg base "minus" 4 ["one","other"] K6:=by
 have sc:=b3C
 refine i9 d sc (fun ds M R Y h=>?_) (fun f cdv A outer s H E ds M R Y hr h=>?_)
 ·obtain⟨q,r,rfl,_⟩:=h;rfl
 ·obtain⟨q,r,rfl,hz,k⟩:=h
  refine⟨_,(d5 (d7 (jc c4q hr (a7 (a8 0) (a7 (jc c4n hr (a7 (a8 1) a9)) a9))))),?_⟩
  refine⟨_,rfl,_,rfl,r,rfl,q,-r,rfl,by rw[RM.O6];exact hz,?_⟩
  rw[c9N]at k
  exact k
theorem a3O(T:Txt K mg)(d:Df K mg "led_by_part" P5 ["part","ray"])(c4l:Fn P w K mg base "minus" 4 ["one","other"] K6)(c4d:Fn P w K mg base "times" 3 ["one","other"] G2)(c4q:Fn P w K mg base "plus" 3 ["one","other"] R5):Fn P w K mg base "led_by_part" 5 ["part","ray"] b0P:=by
 have sc:=a3u
 refine i9 d sc (by walk_at "len") (fun f cdv A outer s H E ds M R Y hr h=>?_)
 have hu:=hr.units
 obtain⟨x,y,u,rfl,hz,k⟩:=h
 refine⟨_,(d4 (p7 (a8 0) (i8 (n:=2) rfl (d6 (jn 2 sc.nd) (d6 (jn 3 sc.nd) h8)))) (d4 (p7 (a8 1) (i8 (n:=2) rfl (d6 (jn 4 sc.nd) (d6 (jn 5 sc.nd) h8)))) (d4 (f8 (jtm u3 (a8 2) g8) (d5 (d7 (f6 (a7 (jc c4q hr (a7 (a8 4) (a7 (jc c4d hr (a7 (a8 3) (a7 (a8 5) a9))) a9))) (a7 (a8 5) a9))))) f7) (d4 (f8 (jtm u3 (a8 2) g8) (d5 (d7 (f6 (a7 (a8 4) (a7 (jc c4l hr (a7 (a8 5) (a7 (jc c4d hr (a7 (a8 3) (a7 (a8 4) a9))) a9))) a9))))) f7) (d5 (d7 (a8 1))))))),?_⟩
 walk_at "sim"
 unfold B3 at k
 refine⟨fun h1=>?_,fun h1=>⟨fun h2=>?_,fun h2=>?_⟩⟩
 ·rw[if_pos h1]at k;exact⟨by omega,by walk_at "size",k⟩
 ·rw[if_neg h1,if_pos h2]at k;exact⟨by omega,by walk_at "size",k⟩
 ·rw[if_neg h1,if_neg h2]at k;exact k
theorem a8n(T:Txt K mg)(d:Df K mg "lines_of" a0K ["bench"])(c4s:Fn P w K mg base "led_by_part" 5 ["part","ray"] b0P):Fn P w K mg base "lines_of" 6 ["bench"] a6s:=by
 have sc:=a76
 refine i9 d sc (by walk_at "len") (fun f cdv A outer s H E ds M R Y hr h=>?_)
 have hu:=hr.units
 obtain⟨bs,rfl,⟨⟨hz,hl⟩,hc⟩,k⟩:=h
 refine⟨_,(d4 (jst 1 sc.nd (a11 a9)) (d4 (jst 2 sc.nd (o6 rfl T.c_LEVEL_RAY)) (d4 (jst 3 sc.nd (o6 rfl T.c_AXIS_RAY)) (d4 (A7 PassesOwn.never rfl (B4 (a8 0)) (jn 4 sc.nd) (Q7 (f8 (jtm u3 (jx (a8 4) d3) g8) (d5 (D5 (X9 PySem.F.slot_list_append PySem.F.type_list_append C4 (a8 1) (a7 (f6 (a7 (jx (a8 2) d3) (a7 (jx (a8 3) d3) (a7 (jx (a8 4) d3) a9)))) a9)))) f7) (d4 (jst 2 sc.nd (jc c4s hr (a7 (a8 4) (a7 (a8 2) a9)))) (d5 (jst 3 sc.nd (jc c4s hr (a7 (a8 4) (a7 (a8 3) a9)))))))) (d5 (d7 (Y1 (Q1 (a8 1))))))))),?_⟩
 walk_at "sim"
 intro p hp
 refine a0r.by (fun i e M'=>(∃ y0 z:Option D,e=[y0,some (.ref p),some (A1 (g7 (bs.take i) (1,0)).1 (g7 (bs.take i) (1,0)).2),some (A1 (g7 (bs.take i) (0,1)).1 (g7 (bs.take i) (0,1)).2),z])∧M'=C1 M p (.lst ((C2 bs i).map o8))) ⟨⟨_,_,rfl⟩,rfl⟩ (fun i e M' _ _=>by simp only[p6,B5]) ?_ ?_
 ·rintro i dd e M' hd ⟨⟨y0,z,rfl⟩,rfl⟩
  obtain⟨pt,hpt,rfl⟩:=a5y hd
  have t4:=CD.t4 (hc i)
  have a1:sz (g7 (bs.take i) (1,0)).1≤230:=t4.a
  have a2:sz (g7 (bs.take i) (0,1)).1≤230:=t4.b
  have b1:sz (g7 (bs.take i) (1,0)).2≤230:=t4.c
  have b2:sz (g7 (bs.take i) (0,1)).2≤230:=t4.d
  have q2:=hz pt (c6S hpt)
  have o1:=a1q hpt (1,0)
  have o2:=a1q hpt (0,1)
  have hll:=L8 bs i
  have hi:=(c6P.mp hpt).1
  have on:=a5X hpt
  walk_at "sim"
  refine a4a (fun e' M'=>e'=[y0,some (.ref p),some (A1 (g7 (bs.take i) (1,0)).1 (g7 (bs.take i) (1,0)).2),some (A1 (g7 (bs.take i) (0,1)).1 (g7 (bs.take i) (0,1)).2),some (i0 pt)]∧M'=C1 M p (.lst ((C2 bs (i+1)).map o8))) ?_ ?_
  ·walk_at "sim"
   refine⟨fun h1=>N6 i7 (a17 i7 (by rw[c6Q];omega) ?_),fun h1=>?_⟩
   ·rw[a3i,on,if_pos h1,c7d];rfl
   ·rw[on,if_neg h1]
  ·rintro e' M' ⟨rfl,rfl⟩
   walk_at "sim"
   refine⟨by omega,by omega,⟨y0,some (i0 pt),?_⟩⟩
   rw[o1,o2]
 ·rintro e M' ⟨⟨y0,z,rfl⟩,rfl⟩
  walk_at "sim"
  rw[a0y i7,N3 hp]
  walk_at "sim"
  rw[c6Q]
  exact⟨_,fun _ _ h=>h,k⟩
theorem a2w(T:Txt K mg)(d:Df K mg "turned_bench" M0 ["bench"]):Fn P w K mg base "turned_bench" 1 ["bench"] a6f:=by
 have sc:=a2u
 refine i9 d sc (by walk_at "len") (fun f cdv A outer s H E ds M R Y hr h=>?_)
 have hu:=hr.units
 obtain⟨x0,xs,rfl,hx0,k⟩:=h
 rcases hx0 with rfl|rfl
 all_goals
  refine⟨_,(d5 (d7 (a8x rfl rfl T.b_list a2R rfl T.b_reversed a2r (a8 0)))),?_⟩
  walk_at "sim"
  exact k
theorem a3L(T:Txt K mg)(d:Df K mg "round_bench" P2 ["hall"])(c4Q:Fn P w K mg base "turned_bench" 1 ["bench"] a6f):Fn P w K mg base "round_bench" 2 ["hall"] a3B:=by
 have sc:=a3r
 refine i9 d sc (by walk_at "len") (fun f cdv A outer s H E ds M R Y hr h=>?_)
 have hu:=hr.units
 obtain⟨x0,near,bs,far,rfl,hx0,hl,k⟩:=h
 rw[show d8 near bs far=bs++[(Str.ofString "glass",far)]++bs.reverse++[(Str.ofString "glass",near)]from rfl,c7d,c7d,c7d,c8J]at k
 have l1:(bs.map i0).length=bs.length:=c6Q ..
 have hs:1000≤sizeLine:=by decide
 rcases hx0 with rfl|rfl
 all_goals
  refine⟨_,(d4 (p7 (a8 0) (i8 (n:=3) rfl (d6 (jn 1 sc.nd) (d6 (jn 2 sc.nd) (d6 (jn 3 sc.nd) h8))))) (d5 (d7 (O0 (O0 (O0 (b4G rfl T.b_list a2R (a7 (a8 2) a9)) (o7 (a7 (f6 (a7 g8 (a7 (a8 3) a9))) a9))) (jc c4Q hr (a7 (a8 2) a9))) (o7 (a7 (f6 (a7 g8 (a7 (a8 1) a9))) a9)))))),?_⟩
  walk_at "sim"
  refine⟨by omega,by simp only[c7l,c7B,c7A,c79];omega,by simp only[c7l,c7B,c7A,c79];omega,?_⟩
  exact k
theorem a4z(T:Txt K mg)(d:Df K mg "hall_lines" S3 ["hall"])(c5n:Fn P w K mg base "lines_of" 6 ["bench"] a6s)(c4z:Fn P w K mg base "round_bench" 2 ["hall"] a3B):Fn P w K mg base "hall_lines" 7 ["hall"] M7:=by
 have sc:=a4l
 refine i9 d sc (by walk_at "len") (fun f cdv A outer s H E ds M R Y hr h=>?_)
 have hu:=hr.units
 obtain⟨x0,near,bs,far,rfl,hx0,hok,k⟩:=h
 have hs:=hok.szs
 have hc:=hok.cd
 have hl:=hok.len
 have hl2:=Q9 near far bs
 have fl:=b1f bs
 have sz1:1000≤sizeLine:=by decide
 rcases hx0 with rfl|rfl
 all_goals
  refine⟨_,(d4 (E4 (i:=1) [] ["number","part"] [] sc.nd rfl (Or.inl rfl) rfl (by decide +kernel) rfl (by decide +kernel) (by decide +kernel) rfl a1E a1E (a1u rfl T.b_enumerate (a7 (jx (a8 0) d3) a9)) (fun _ _ _ _ _ _=>(i8 (n:=2) rfl (d6 (jn 0 (show(["number","part"]:List Str).Nodup by decide +kernel)) (d6 (jn 1 (show(["number","part"]:List Str).Nodup by decide +kernel)) h8)))) (fun _ _ _ _ _ _=>(a10 (jtm u3 (jx (a8 1) d3) g8))) (fun _ _ _ _ _ _=>(f6 (a7 g8 (a7 (a8 0) a9))))) (d4 (E4 (i:=2) [] ["way","number"] [] sc.nd rfl (Or.inl rfl) rfl (by decide +kernel) rfl (by decide +kernel) (by decide +kernel) rfl a1E a1E (b4E rfl T.b_reversed a2r (a7 (a8 1) a9)) (fun _ _ _ _ _ _=>(i8 (n:=2) rfl (d6 (jn 0 (show(["way","number"]:List Str).Nodup by decide +kernel)) (d6 (jn 1 (show(["way","number"]:List Str).Nodup by decide +kernel)) h8)))) (fun _ _ _ _ _ _=>A4) (fun _ _ _ _ _ _=>(f6 (a7 g8 (a7 (a8 1) a9))))) (d4 (jst 3 sc.nd (jc c5n hr (a7 (jc c4z hr (a7 (a8 0) a9)) a9))) (d5 (d7 (b4H [] ["line","way","number"] [] rfl (by decide +kernel) rfl (by decide +kernel) (by decide +kernel) rfl a1E a1E (a6T rfl T.b_zip (a7 (O0 (a8 1) (a8 2)) (a7 (a8 3) a9))) (fun _ _ _ _ _ _=>(i8 (n:=2) rfl (d6 (i8 (n:=2) rfl (d6 (jn 1 (show(["line","way","number"]:List Str).Nodup by decide +kernel)) (d6 (jn 2 (show(["line","way","number"]:List Str).Nodup by decide +kernel)) h8))) (d6 (jn 0 (show(["line","way","number"]:List Str).Nodup by decide +kernel)) h8)))) (fun _ _ _ _ _ _=>A4) (fun _ _ _ _ _ _=>(f6 (a7 (a8 1) (a7 (a8 2) (a7 (a8 0) a9))))))))))),?_⟩
  walk_at "sim"
  rw[a5K]
  refine U6 (xs:=bs.zipIdx) (fun x=>x.1.1 == Str.ofString "stop") fwD (by rw[c76];omega) (by simp only[p6,B5]) (fun x hx Q N h1 h2=>?_) ?_
  ·walk_at "sim"
   exact⟨fun e=>h1 (by rw[e];exact beq_self_eq_true _),fun e=>h2 (beq_eq_false_iff_ne.mpr e)⟩
  ·walk_at "sim"
   rw[show c9e (fun x:(Str × Rat) × Nat=>x.1.1 == Str.ofString "stop") bs.zipIdx=frW bs from rfl,← c8J]
   refine B7 (xs:=(frW bs).reverse) (enc:=fwD) bwD (by rw[c7B];omega) trivial (fun x hx Q hQ=>?_) ?_
   ·unfold fwD
    walk_at "sim"
    exact hQ
   ·walk_at "sim"
    refine⟨hl,⟨⟨hs,by omega⟩,hc⟩,c6V (by rw[c6Q,c6Q,c7B];omega) sz1,?_⟩
    rw[c0L near far bs,b9q]
    have zl:=L8 (d8 near bs far) (d8 near bs far).length
    refine B7 (fun z=>hlD z.1 z.2) (by rw[c8z];omega) (by simp only[p6,and_self]) (fun z hz Q hQ=>?_) ?_
    ·unfold prD
     walk_at "sim"
     exact hQ
    ·rw[c0D]
     exact k
theorem a4C(T:Txt K mg)(d:Df K mg "by_columns" S6 ["first","second"]):Fn P w K mg base "by_columns" 1 ["first","second"] a1J:=by
 have sc:=a4o
 refine i9 d sc (by walk_at "len") (fun f cdv A outer s H E ds M R Y hr h=>?_)
 have hu:=hr.units
 obtain⟨a,b,c,d,rfl,k⟩:=h
 refine⟨_,(d5 (d7 (f6 (a7 (jx (a8 0) d3) (a7 (jx (a8 1) d3) (a7 (jx (a8 0) d3) (a7 (jx (a8 1) d3) a9))))))),?_⟩
 walk_at "sim"
 exact k
theorem a8h(T:Txt K mg)(d:Df K mg "table_of" a0F ["bench"])(c4X:Fn P w K mg base "by_columns" 1 ["first","second"] a1J)(c4s:Fn P w K mg base "led_by_part" 5 ["part","ray"] b0P):Fn P w K mg base "table_of" 6 ["bench"] b3F:=by
 have sc:=a70
 refine i9 d sc (by walk_at "len") (fun f cdv A outer s H E ds M R Y hr h=>?_)
 have hu:=hr.units
 obtain⟨bs,rfl,⟨⟨hz,hl⟩,hc⟩,k⟩:=h
 refine⟨_,(d4 (jst 1 sc.nd (o6 rfl T.c_LEVEL_RAY)) (d4 (jst 2 sc.nd (o6 rfl T.c_AXIS_RAY)) (d4 (A7 PassesOwn.never rfl (B4 (a8 0)) (jn 3 sc.nd) (d4 (jst 1 sc.nd (jc c4s hr (a7 (a8 3) (a7 (a8 1) a9)))) (d5 (jst 2 sc.nd (jc c4s hr (a7 (a8 3) (a7 (a8 2) a9))))))) (d5 (d7 (jc c4X hr (a7 (a8 1) (a7 (a8 2) a9)))))))),?_⟩
 walk_at "sim"
 refine a0r.by (fun i e M'=>M'=M∧∃ z:Option D,e=[some _,some (A1 (g7 (bs.take i) (1,0)).1 (g7 (bs.take i) (1,0)).2),some (A1 (g7 (bs.take i) (0,1)).1 (g7 (bs.take i) (0,1)).2),z]) ⟨rfl,_,rfl⟩ (fun i e M' _ _=>by simp only[p6]) ?_ ?_
 ·rintro i dd e M' hd ⟨rfl,z,rfl⟩
  obtain⟨pt,hpt,rfl⟩:=a5y hd
  have t4:=CD.t4 (hc i)
  have a1:sz (g7 (bs.take i) (1,0)).1≤230:=t4.a
  have a2:sz (g7 (bs.take i) (0,1)).1≤230:=t4.b
  have b1:sz (g7 (bs.take i) (1,0)).2≤230:=t4.c
  have b2:sz (g7 (bs.take i) (0,1)).2≤230:=t4.d
  have q2:=hz pt (c6S hpt)
  have o1:=a1q hpt (1,0)
  have o2:=a1q hpt (0,1)
  walk_at "sim"
  rw[← o1,← o2]
  exact⟨by omega,by omega,_,rfl⟩
 ·rw[c6Q]
  rintro e M' ⟨rfl,z,rfl⟩
  rw[c7t]
  walk_at "sim"
  exact k
theorem a8j(T:Txt K mg)(d:Df K mg "round_of" a0H ["hall"])(c5o:Fn P w K mg base "table_of" 6 ["bench"] b3F)(c4z:Fn P w K mg base "round_bench" 2 ["hall"] a3B):Fn P w K mg base "round_of" 7 ["hall"] a0t:=by
 have sc:=a72
 refine i9 d sc (by walk_at "len") (fun f cdv A outer s H E ds M R Y hr h=>?_)
 have hu:=hr.units
 obtain⟨x0,near,bs,far,rfl,hx0,hok,k⟩:=h
 have hs:=hok.szs
 have hc:=hok.cd
 have hl:=hok.len
 have hl2:=Q9 near far bs
 rcases hx0 with rfl|rfl
 all_goals
  refine⟨_,(d5 (d7 (jc c5o hr (a7 (jc c4z hr (a7 (a8 0) a9)) a9)))),?_⟩
  walk_at "sim"
  exact⟨hl,⟨⟨hs,by omega⟩,hc⟩,k⟩
theorem b7C(T:Txt K mg)(d:Df K mg "ever" a9g ["hall","ray"])(c5p:Fn P w K mg base "shown_by" 6 ["word","table","x","later"] a3A)(c4g:Fn P w K mg base "kind_word" 6 ["table"] sKw)(c4Y:Fn P w K mg base "first_stop" 7 ["table","numbers","late"] a9r)(c4Z:Fn P w K mg base "late_lines" 7 ["table","numbers"] a6u)(c4E:Fn P w K mg base "first_two" 5 ["table","ray","lines"] T7)(c4k:Fn P w K mg base "hall_lines" 7 ["hall"] M7)(c4e:Fn P w K mg base "round_of" 7 ["hall"] a0t):Fn P w K mg base "ever" 8 ["hall","ray"] b0R:=by
 have sc:=b6S
 refine i9 d sc (by walk_at "len") (fun f cdv A outer s H E ds M R Y hr h=>?_)
 have hu:=hr.units
 obtain⟨x0,near,bs,far,y,u,rfl,hx0,⟨hw,S,cd,hS⟩,k⟩:=h
 have cL:=hw.cd (d8 near bs far).length
 rw[c7t]at cL
 have dL:=a5V (d8 near bs far)
 have lsl:=L8 (d8 near bs far) (d8 near bs far).length
 have hl2:=Q9 near far bs
 have hbl:=hw.len
 have hN:=a8A hw cd hS
 have hF:=a33 (near:=near) (far:=far) (bs:=bs) (y:=y) (u:=u)
 have hNl:=a5J near far bs y u
 have hmet:∀ j l,(u6 near bs far y u)[j]? = some l→∃(w0:D × D) (l0:Rat × Rat × Rat),(hlN (g9 near bs far) (g9 near bs far).length)[j]? = some (hlD w0 l0)∧(G7 (g9 near bs far) (g9 near bs far).length).getD j (.non,.non)=w0:=fun j l hj=>by
  unfold u6 at hj
  rw[c6Y]at hj
  obtain⟨l0,hl0,rfl⟩:=c7s.mp hj
  have h1:(C2 ((g9 near bs far).map fun z=>z.2.2) (g9 near bs far).length)[j]? = some l0:=by rw[L0,E5];exact hl0
  have hj2:=(c6P.mp h1).1
  rw[← a2A]at hj2
  refine⟨(G7 (g9 near bs far) (g9 near bs far).length)[j],l0,?_,?_⟩
  ·unfold hlN
   rw[c8j,h1,c7e hj2]
  ·rw[c7C,c7e hj2];rfl
 rcases hx0 with rfl|rfl
 all_goals
  refine⟨_,(d4 (jst 2 sc.nd (jc c4e hr (a7 (a8 0) a9))) (d4 (jst 3 sc.nd (Q1 (jc c4k hr (a7 (a8 0) a9)))) (d4 (jst 4 sc.nd (jc c4E hr (a7 (a8 2) (a7 (a8 1) (a7 (J8 [] ["way","number","line"] [] rfl (by decide +kernel) rfl (by decide +kernel) (by decide +kernel) rfl a1E a1E (B4 (a8 3)) (fun _ _ _ _ _ _=>(i8 (n:=3) rfl (d6 (jn 0 (show(["way","number","line"]:List Str).Nodup by decide +kernel)) (d6 (jn 1 (show(["way","number","line"]:List Str).Nodup by decide +kernel)) (d6 (jn 2 (show(["way","number","line"]:List Str).Nodup by decide +kernel)) h8))))) (fun _ _ _ _ _ _=>A4) (fun _ _ _ _ _ _=>(a8 2))) a9))))) (d4 (jst 5 sc.nd (jc c4Z hr (a7 (a8 2) (a7 (a8 4) a9)))) (d4 (jst 6 sc.nd (jc c4Y hr (a7 (a8 2) (a7 (a8 4) (a7 (a8 5) a9))))) (d4 (f8 (jtm a6Q (a8 6) M9) (d4 (p7 (a8 6) (i8 (n:=2) rfl (d6 (jn 7 sc.nd) (d6 (jn 8 sc.nd) h8)))) (d5 (d7 (f6 (a7 g8 (a7 (a8 7) (a7 (jx (jx (a8 3) (a8 8)) d3) (a7 (jx (jx (a8 3) (a8 8)) d3) a9)))))))) f7) (d4 (f8 (jtm a4J (o9 G9 rfl T.b_len C6 (a7 (a8 5) a9)) d3) (d5 (d7 (f6 (a7 g8 (a7 (jx (a8 5) d3) a9))))) f7) (d4 (jst 9 sc.nd (jc c4g hr (a7 (a8 2) a9))) (d5 (d7 (f6 (a7 g8 (a7 (J8 [2,9] ["x","later","r"] ["table","word"] rfl (by decide +kernel) rfl (by decide +kernel) (by decide +kernel) rfl (b2l ⟨rfl,rfl⟩ ⟨rfl,rfl⟩) (b2l (Or.inl rfl) (Or.inl rfl)) (B4 (a8 4)) (fun _ _ _ _ _ _=>(i8 (n:=3) rfl (d6 (jn 0 (show(["x","later","r","table","word"]:List Str).Nodup by decide +kernel)) (d6 (jn 1 (show(["x","later","r","table","word"]:List Str).Nodup by decide +kernel)) (d6 (jn 2 (show(["x","later","r","table","word"]:List Str).Nodup by decide +kernel)) h8))))) (fun _ _ _ _ _ _=>A4) (fun _ _ _ _ _ _=>(jc c5p hr (a7 (a8 4) (a7 (a8 3) (a7 (a8 0) (a7 (a8 1) a9))))))) a9))))))))))))),?_⟩
  walk_at "sim"
  refine⟨hw,hw,fun p hp=>?_⟩
  rw[a0y i7,N3 hp]
  walk_at "sim"
  rw[a2P]
  refine B7 (fun z=>o8 z.2) (by rw[c8z,E5];omega) (by simp only[p6]) (fun z hz Q hQ=>?_) ?_
  ·unfold hlD
   walk_at "sim"
   exact hQ
  rw[a4P]
  refine⟨d8 near bs far,C2 (d8 near bs far) (d8 near bs far).length,rfl,rfl,⟨S,cL,cd,hS,by omega,fun l hl=>(hw.ln cd hS hl).2⟩,?_⟩
  rw[show c8x (y7 (d8 near bs far) y u) (C2 (d8 near bs far) (d8 near bs far).length)=u6 near bs far y u from rfl,← a2P]
  generalize u6 near bs far y u=ls at *
  generalize hlN (g9 near bs far) (g9 near bs far).length=HL at *
  generalize G7 (g9 near bs far) (g9 near bs far).length=WS at *
  refine⟨_,ls,rfl,rfl,⟨cL,dL,by omega,hN⟩,_,ls,rfl,rfl,rfl,⟨cL,dL,by omega,fun l h=>⟨hN l h,hF l h⟩⟩,fun o ho=>?_⟩
  generalize tbQ (d8 near bs far)=m at *
  cases o with
  | some z =>
   obtain⟨n,j⟩:=z
   have hk:R (.tup [.str (Str.ofString "stopped"),.int (n:Int),(WS.getD j (.non,.non)).1,(WS.getD j (.non,.non)).2]) M:=k (.stopped n j) ho
   obtain⟨l,hl5,_⟩:=a1D.mp ho.1
   obtain⟨w0,l0,e1,e2⟩:=hmet j l hl5
   rw[e2]at hk
   unfold a3m
   rw[a4d rfl]
   walk_at "sim"
   refine⟨_,y4 (n:=j) e1,?_⟩
   unfold hlD
   walk_at "sim"
   refine⟨_,y4 (n:=j) e1,?_⟩
   unfold hlD
   walk_at "sim"
   exact hk
  | none =>
   unfold a3m
   rw[a4d rfl]
   walk_at "sim"
   cases e:A2 m ls with
   | cons a E8 =>
    have hk:R (.tup [.str (Str.ofString "late"),.int (a:Int)]) M:=k (.late a) ⟨ho,by rw[e];rfl⟩
    refine⟨fun _=>?_,fun h=>absurd (by rw[c7I,c7A];omega) h⟩
    walk_at "sim"
    exact hk
   | nil =>
    have hk:R (.tup [.str (Str.ofString "never"),.vl ((ls.map (O8 m)).map enD)]) M:=k .never ⟨ho,e⟩
    refine⟨fun h=>absurd h (by decide),fun _=>⟨m,rfl,cL,?_⟩⟩
    rw[c7N]at hk
    refine B7 (xs:=ls) (enc:=o8) (fun l=>enD (O8 m l)) (by omega) (by simp only[p6]) (fun l hl Q hQ=>?_) hk
    walk_at "sim"
    refine⟨m,l.2.2,rfl,rfl,⟨cL,dL,hN l hl,fun c1 c3 h0=>?_⟩,hQ⟩
    apply c68
    intro hf
    obtain⟨j,hj⟩:=c7G hl
    have:j∈A2 m ls:=Q6.mpr ⟨l,hj,by
     unfold u4
     rw[if_neg c1,if_neg c3,if_pos (by rw[h0];unfold swQ;grind)]⟩
    rw[e]at this;cases this
theorem a3S(T:Txt K mg)(d:Df K mg "_law_scaled" P8 ["ray","factor"])(c4d:Fn P w K mg base "times" 3 ["one","other"] G2):Fn P w K mg base "_law_scaled" 4 ["ray","factor"] a2G:=by
 have sc:=a3x
 refine i9 d sc (by walk_at "len") (fun f cdv A outer s H E ds M R Y hr h=>?_)
 have hu:=hr.units
 obtain⟨y,u,g,rfl,⟨h1,h2⟩,k⟩:=h
 refine⟨_,(d5 (d7 (f6 (a7 (jc c4d hr (a7 (jx (a8 0) d3) (a7 (a8 1) a9))) (a7 (jc c4d hr (a7 (jx (a8 0) d3) (a7 (a8 1) a9))) a9))))),?_⟩
 walk_at "sim"
 exact⟨h1,h2,k⟩
theorem a6O(T:Txt K mg)(d:Df K mg "_law_next" X0 ["pool","base"]):Fn P w K mg base "_law_next" 1 ["pool","base"] O7:=by
 have sc:=a56
 refine i9 d sc (fun ds M R Y h=>?_) (fun f cdv A outer s H E ds M R Y hr h=>?_)
 ·obtain⟨p,b,rfl,_⟩:=h;rfl
 ·obtain⟨p,b,rfl,⟨x,y,z,hM⟩,hb,hl,k⟩:=h
  refine⟨_,(d4 (f8 (jtm a4J (jx (a8 0) d3) d3) (d4 (jst 2 sc.nd (f9 a3V (jx (a8 0) d3) (a8 1))) (d4 (p7 (f9 E9 (jx (a8 0) d3) (a8 1)) (b05 (a8 0) d3)) (d5 (d7 (a8 2))))) f7) (d4 (p7 (f9 F1 (jx (a8 0) d3) d3) (b05 (a8 0) d3)) (d4 (jst 3 sc.nd (f9 a3V (f9 F1 (jx (a8 0) d3) (f9 p5 d3 (jx (a8 0) d3))) d3)) (d4 (jst 4 sc.nd (f9 a3V (f9 p5 (f9 F1 (a8 3) d3) (f9 F1 (a8 3) d3)) d3)) (d5 (d7 (f9 a3V (f9 E9 (f9 a3V (f9 p5 (a8 4) (a8 4)) d3) d3) (a8 1)))))))),?_⟩
  refine⟨_,rfl,_,a0k hM rfl,_,rfl,_,rfl,?_⟩
  refine b1Y (fun h0=>?_) (fun h0=>?_)
  ·refine⟨_,rfl,_,a0k hM rfl,_,rfl,_,_,rfl,rfl,hb,?_⟩
   refine⟨_,rfl,_,a0k hM rfl,_,rfl,_,_,rfl,rfl,⟨by omega,hl⟩,_,rfl,_,_,_,_,rfl,rfl,hM,rfl,?_⟩
   exact⟨_,rfl,k _ _ (c8V _ (by omega)) (c8v _ hb) (v7.upd _ _ _)⟩
  ·refine⟨_,rfl,_,a0k hM rfl,_,rfl,_,rfl,_,_,_,_,rfl,rfl,hM,rfl,?_⟩
   refine⟨_,rfl,_,a0k i7 rfl,_,rfl,_,a0k i7 rfl,_,_,rfl,rfl,a8s (by decide) (by decide),_,rfl,_,_,rfl,rfl,(by show(0:Int)<1000000007;decide),?_⟩
   refine⟨_,rfl,_,rfl,_,rfl,_,rfl,_,_,rfl,rfl,c3J (by decide) (by decide) (by decide) (by decide),_,_,rfl,rfl,(by show(0:Int)<998244353;decide),?_⟩
   refine⟨_,rfl,_,rfl,_,_,rfl,rfl,c2o (by decide) (by decide),_,_,rfl,rfl,(by show(0:Int)<2147483647;decide),_,_,rfl,rfl,c3U,_,rfl,_,_,rfl,rfl,hb,?_⟩
   exact k _ _ (c8V _ (by omega)) (c8v _ hb) (v7.upd _ _ _)
theorem a4F(T:Txt K mg)(d:Df K mg "_law_ratio" K7 ["pool","tops","bottoms"])(c4f:Fn P w K mg base "ratio" 2 ["top","bottom"] V1)(c4a:Fn P w K mg base "_law_next" 1 ["pool","base"] O7):Fn P w K mg base "_law_ratio" 3 ["pool","tops","bottoms"] a3D:=by
 have sc:=a0s
 refine i9 d sc (by walk_at "len") (fun f cdv A outer s H E ds M R Y hr h=>?_)
 have hu:=hr.units
 obtain⟨p,x,y,rfl,hp,ts,bs,P,rfl,rfl,⟨⟨t0,t1⟩,⟨b0,b1⟩,hb,hP⟩,k⟩:=h
 refine⟨_,(d5 (d7 (jc c4f hr (a7 (jx (a8 1) (jc c4a hr (a7 (a8 0) (a7 (o9 G9 rfl T.b_len C6 (a7 (a8 1) a9)) a9)))) (a7 (jx (a8 2) (jc c4a hr (a7 (a8 0) (a7 (o9 G9 rfl T.b_len C6 (a7 (a8 2) a9)) a9)))) a9))))),?_⟩
 walk_at "sim"
 have e1:(ts.map D.int).length=ts.length:=c6Q ..
 have e2:(bs.map D.int).length=bs.length:=c6Q ..
 refine⟨hp,by omega,lg9 (by omega),fun r M1 r0 r1 s1=>L1 r0 r1 fun d hd=>⟨s1.pool,by omega,lg9 (by omega),fun r' M2 r0' r1' s2=>L1 r0' r1' fun d' hd'=>?_⟩⟩
 obtain⟨t,ht,rfl⟩:=c7q.mp hd
 obtain⟨b,hb',rfl⟩:=c7q.mp hd'
 have hb2:=hb b hb'
 exact⟨_,_,rfl,by omega,c6R (F0 (k:=10) (by omega) (by decide)) (by decide),k _ _ (hP t ht b hb') (s1.trans s2)⟩
theorem a4I(T:Txt K mg)(d:Df K mg "_law_alike" T1 ["one","other"]):Fn P w K mg base "_law_alike" 1 ["one","other"] a9t:=by
 have sc:=a4t
 refine i9 d sc (by walk_at "len") (fun f cdv A outer s H E ds M R Y hr h=>?_)
 have hu:=hr.units
 obtain⟨d,d2,rfl,m,T',y,u,T2,y2,u2,⟨⟨hE,hT⟩,⟨hE2,hT2⟩,h1,h2⟩,k⟩:=h
 have c1:=a60 hT hE
 have c2:=a60 hT2 hE2
 obtain⟨r1,e1⟩:=O1 hE
 obtain⟨r2,e2⟩:=O1 hE2
 have w3:=D7 hE
 have cw:cl 60 (D.str (wS d))=true:=by rcases w3 with h|h|h<;>(rw[h];decide +kernel)
 generalize wS d2=w2 at *
 subst h2
 generalize wS d=w at *
 subst e1 e2
 refine⟨_,(d4 (f8 (jtm u3 (jx (a8 0) d3) g8) (d5 (d7 (jm (y3 hu) (a8 0) (a8 1)))) f7) (d5 (d7 (jm (y3 hu) (jx (a8 0) d3) (jx (a8 1) d3))))),?_⟩
 walk_at "sim"
 refine⟨fun hs=>⟨c1,c2,?_⟩,fun hs=>⟨cw,cw,?_⟩⟩
 ·rw[@decide_eq_true _ (c7z _) (h1 hs)];exact k
 ·exact k
theorem a3R(T:Txt K mg)(d:Df K mg "_law_sooner" P7 ["told","later"]):Fn P w K mg base "_law_sooner" 1 ["told","later"] a6k:=by
 have sc:=a3w
 refine i9 d sc (by walk_at "len") (fun f cdv A outer s H E ds M R Y hr h=>?_)
 have hu:=hr.units
 obtain⟨d,d2,rfl,m,T',y,u,T2,y2,u2,⟨⟨hE,hT⟩,⟨hE2,hT2⟩,h1,h2,h3⟩,k⟩:=h
 have c1:=a60 hT hE
 have c2:=a60 hT2 hE2
 rcases D7 hE with hw|hw|hw
 ·obtain⟨n,j,z,rfl,hz,hs,hat⟩:=L3 hE hw
  have h1:=h1 n j z rfl hz hat
  refine⟨_,(d4 (f8 (jtm u3 (jx (a8 0) d3) g8) (d5 (d7 (a0W (jm M8 (jx (a8 0) d3) d3) (v8 (jm (y3 hu) (a8 1) (f9 a9G (f6 (a7 (jx (a8 0) d3) (a7 (f9 X7 (jx (a8 0) d3) d3) a9))) (F8 (a8 0) (F6 d3) F7))))))) f7) (d4 (f8 (jtm u3 (jx (a8 0) d3) g8) (d5 (d7 (a0W (jm u3 (jx (a8 1) d3) g8) (v8 (jm (y3 hu) (F8 (a8 1) F7 (F6 d3)) (f6 (a7 g8 (a7 d3 a9)))))))) f7) (d5 (d7 (jm u3 (jx (a8 1) d3) g8))))),?_⟩
  walk_at "sim"
  refine⟨fun _=>k,fun hn=>?_⟩
  have h1:=h1.resolve_left (fun z=>hn (by rw[z];rfl))
  subst h1
  rw[show DL.Y4 [D.str (Str.ofString "stopped"),D.int (n:Int),z.1,z.2.1] (some 2) none=[z.1,z.2.1]from rfl]
  refine⟨by decide,[_,_],[_,_],rfl,rfl,(by simp),(by simp),by show 2+2≤sizeLine;decide,c2,c2,?_⟩
  have e5:D.tup [D.str (Str.ofString "stopped"),D.int ((n:Int) - 1),z.1,z.2.1]=D.tup ([D.str (Str.ofString "stopped"),D.int ((n:Int) - 1)]++[z.1,z.2.1]):=rfl
  rw[@decide_eq_true _ (c7z _) e5];exact k
 ·obtain⟨r1,e1⟩:=O1 hE
  rw[hw]at e1
  subst e1
  obtain⟨r2,e2⟩:=O1 hE2
  have w3:=D7 hE2
  generalize hw2:wS d2=w2 at *
  subst e2
  refine⟨_,(d4 (f8 (jtm u3 (jx (a8 0) d3) g8) (d5 (d7 (a0W (jm M8 (jx (a8 0) d3) d3) (v8 (jm (y3 hu) (a8 1) (f9 a9G (f6 (a7 (jx (a8 0) d3) (a7 (f9 X7 (jx (a8 0) d3) d3) a9))) (F8 (a8 0) (F6 d3) F7))))))) f7) (d4 (f8 (jtm u3 (jx (a8 0) d3) g8) (d5 (d7 (a0W (jm u3 (jx (a8 1) d3) g8) (v8 (jm (y3 hu) (F8 (a8 1) F7 (F6 d3)) (f6 (a7 g8 (a7 d3 a9)))))))) f7) (d5 (d7 (jm u3 (jx (a8 1) d3) g8))))),?_⟩
  walk_at "sim"
  have cw2:cl 60 (D.tup (D.str w2 :: r2))=true:=c2
  refine⟨fun h=>absurd h (by decide),fun _=>⟨fun _=>k,fun hn=>?_⟩⟩
  obtain⟨a,b,e5⟩:=(h2 rfl).resolve_left hn
  injection e5 with e5
  injection e5 with e5 e6
  subst e6
  injection e5 with e5
  subst e5
  rw[show DL.Y4 [D.str (Str.ofString "stopped"),D.int 59,a,b] none (some 2)=[D.str (Str.ofString "stopped"),D.int 59]from rfl]
  refine⟨by show ¬ (HT.sIx 4 0 none=0∧HT.sIx 4 4 (some 2)=4);decide,by decide +kernel,by decide +kernel,?_⟩
  rw[@decide_eq_true _ (c7z _) rfl];exact k
 ·have h3:=h3 hw
  obtain⟨r1,e1⟩:=O1 hE
  obtain⟨r2,e2⟩:=O1 hE2
  rw[hw]at e1
  rw[h3]at e2
  subst e1 e2
  refine⟨_,(d4 (f8 (jtm u3 (jx (a8 0) d3) g8) (d5 (d7 (a0W (jm M8 (jx (a8 0) d3) d3) (v8 (jm (y3 hu) (a8 1) (f9 a9G (f6 (a7 (jx (a8 0) d3) (a7 (f9 X7 (jx (a8 0) d3) d3) a9))) (F8 (a8 0) (F6 d3) F7))))))) f7) (d4 (f8 (jtm u3 (jx (a8 0) d3) g8) (d5 (d7 (a0W (jm u3 (jx (a8 1) d3) g8) (v8 (jm (y3 hu) (F8 (a8 1) F7 (F6 d3)) (f6 (a7 g8 (a7 d3 a9)))))))) f7) (d5 (d7 (jm u3 (jx (a8 1) d3) g8))))),?_⟩
  walk_at "sim"
  exact⟨fun h=>absurd h (by decide),fun _=>⟨fun h=>absurd h (by decide),fun _=>k⟩⟩
theorem a8l(T:Txt K mg)(d:Df K mg "ratio" a2D ["top","bottom"])(c4t:Fn P w K mg base "divisor" 1 ["one","other"] L6)(c4m:Fn P w K mg base "is_whole" 1 ["thing"] a05):Fn P w K mg base "ratio" 2 ["top","bottom"] b0O:=by
 have sc:=a74
 refine i9 d sc (by walk_at "len") (fun f cdv A outer s H E ds M R Y hr h=>?_)
 have hu:=hr.units
 obtain⟨a,b,rfl,⟨hb,hg⟩,k⟩:=h
 have hn:=b4Q (a:=a) hb
 have hlg:((c7w a.natAbs b.natAbs:Nat):Int).natAbs.log2<9000:=by rw[c6N];exact F0 hg (by decide)
 refine⟨_,(d4 (f8 (C9 (D6 (A9 (p8 (jc c4m hr (a7 (a8 0) a9)))) (D6 (A9 (p8 (jc c4m hr (a7 (a8 1) a9)))) (C5 (jtm M8 (a8 1) d3))))) (d5 a5G) f7) (d4 (jst 2 sc.nd (jc c4t hr (a7 (o9 a1B rfl T.b_abs U8 (a7 (a8 0) a9)) (a7 (o9 a1B rfl T.b_abs U8 (a7 (a8 1) a9)) a9)))) (d4 (f8 (jtm a0T (a8 1) d3) (d5 (jst 2 sc.nd (A3 (a8 2)))) f7) (d5 (d7 (f6 (a7 (f9 E9 (a8 0) (a8 2)) (a7 (f9 E9 (a8 1) (a8 2)) a9)))))))),?_⟩
 walk_at "sim"
 refine⟨fun h=>absurd h hb,fun _=>⟨fun h1=>?_,fun h1=>?_⟩⟩
 ·have c1:∀ i:Int,CFd i (-((c7w a.natAbs b.natAbs:Nat):Int)):=fun i=>⟨by omega,by rw[c72];exact hlg⟩
  exact⟨c1 _,c1 _,a2O hb (by rw[if_pos h1]) k⟩
 ·have c1:∀ i:Int,CFd i ((c7w a.natAbs b.natAbs:Nat):Int):=fun i=>⟨hn,hlg⟩
  exact⟨c1 _,c1 _,a2O hb (by rw[if_neg h1]) k⟩
theorem a9C(T:Txt K mg)(d:Df K mg "plus" a6a ["one","other"])(c4I:Fn P w K mg base "ratio" 2 ["top","bottom"] b0O):Fn P w K mg base "plus" 3 ["one","other"] a9m:=by
 have sc:=b0M
 refine i9 d sc (by walk_at "len") (fun f cdv A outer s H E ds M R Y hr h=>?_)
 have hu:=hr.units
 obtain⟨q,r,rfl,⟨hz,hg⟩,k⟩:=h
 rw[RM.a91]at k
 refine⟨_,(d5 (d7 (jc c4I hr (a7 (f9 F1 (f9 p5 (jx (a8 0) d3) (jx (a8 1) d3)) (f9 p5 (jx (a8 1) d3) (jx (a8 0) d3))) (a7 (f9 p5 (jx (a8 0) d3) (jx (a8 1) d3)) a9))))),?_⟩
 walk_at "sim"
 exact⟨w6 _ _ (K3 q) (J3 r) (by omega),w6 _ _ (K3 r) (J3 q) (by omega),w6 _ _ (J3 q) (J3 r) (by omega),⟨c7Q (RM.D8 q) (RM.D8 r),hg⟩,k⟩
theorem a8g(T:Txt K mg)(d:Df K mg "times" a2C ["one","other"])(c4I:Fn P w K mg base "ratio" 2 ["top","bottom"] b0O):Fn P w K mg base "times" 3 ["one","other"] a6h:=by
 have sc:=a7Z
 refine i9 d sc (by walk_at "len") (fun f cdv A outer s H E ds M R Y hr h=>?_)
 have hu:=hr.units
 obtain⟨q,r,rfl,⟨hz,hg⟩,k⟩:=h
 rw[RM.a9J]at k
 refine⟨_,(d5 (d7 (jc c4I hr (a7 (f9 p5 (jx (a8 0) d3) (jx (a8 1) d3)) (a7 (f9 p5 (jx (a8 0) d3) (jx (a8 1) d3)) a9))))),?_⟩
 walk_at "sim"
 exact⟨w6 _ _ (K3 q) (K3 r) (by omega),w6 _ _ (J3 q) (J3 r) (by omega),⟨c7Q (RM.D8 q) (RM.D8 r),hg⟩,k⟩
theorem a8p(T:Txt K mg)(d:Df K mg "is_ratio" a0L ["thing"])(c4t:Fn P w K mg base "divisor" 1 ["one","other"] L6)(c4m:Fn P w K mg base "is_whole" 1 ["thing"] a05):Fn P w K mg base "is_ratio" 2 ["thing"] a6v:=by
 have sc:=a77
 refine i9 d sc (by walk_at "len") (fun f cdv A outer s H E ds M R Y hr h=>?_)
 have hu:=hr.units
 obtain⟨x,rfl,k⟩:=h
 rcases k with⟨q,rfl,k⟩|⟨n,rfl,k⟩
 ·skip
  refine⟨_,(d4 (f8 (C9 (D6 (A9 (p8 (o9 (Y6 T.sub) rfl T.b_isinstance u5 (a7 (a8 0) (a7 (X8 rfl T.b_tuple R1) a9))))) (C5 (jtm a3U (o9 G9 rfl T.b_len C6 (a7 (a8 0) a9)) d3)))) (d5 (d7 B1)) f7) (d4 (p7 (a8 0) (i8 (n:=2) rfl (d6 (jn 1 sc.nd) (d6 (jn 2 sc.nd) h8)))) (d4 (f8 (C9 (D6 (A9 (p8 (jc c4m hr (a7 (a8 1) a9)))) (D6 (A9 (p8 (jc c4m hr (a7 (a8 2) a9)))) (C5 (jtm a0T (a8 2) d3))))) (d5 (d7 B1)) f7) (d5 (d7 (jm M8 (jc c4t hr (a7 (o9 a1B rfl T.b_abs U8 (a7 (a8 1) a9)) (a7 (a8 2) a9))) d3)))))),?_⟩
  walk_at "sim"
  have h1:=q.den_pos
  have h2:q.num.natAbs.gcd q.den=1:=q.reduced
  refine⟨fun h=>absurd h (by omega),fun _=>?_⟩
  rw[h2]
  exact k
 ·skip
  refine⟨_,(d4 (f8 (C9 (D6 (A9 (p8 (o9 (Y6 T.sub) rfl T.b_isinstance u5 (a7 (a8 0) (a7 (X8 rfl T.b_tuple R1) a9))))) (C5 (jtm a3U (o9 G9 rfl T.b_len C6 (a7 (a8 0) a9)) d3)))) (d5 (d7 B1)) f7) (d4 (p7 (a8 0) (i8 (n:=2) rfl (d6 (jn 1 sc.nd) (d6 (jn 2 sc.nd) h8)))) (d4 (f8 (C9 (D6 (A9 (p8 (jc c4m hr (a7 (a8 1) a9)))) (D6 (A9 (p8 (jc c4m hr (a7 (a8 2) a9)))) (C5 (jtm a0T (a8 2) d3))))) (d5 (d7 B1)) f7) (d5 (d7 (jm M8 (jc c4t hr (a7 (o9 a1B rfl T.b_abs U8 (a7 (a8 1) a9)) (a7 (a8 2) a9))) d3)))))),?_⟩
  walk_at "sim"
  exact k
theorem a4y(T:Txt K mg)(d:Df K mg "kept_right" S1 ["table","numbers","k"])(c4w:Fn P w K mg base "less" 1 ["one","other"] a0B)(c4i:Fn P w K mg base "unsigned" 1 ["one"] a5v)(c4d:Fn P w K mg base "times" 3 ["one","other"] G2)(c5m:Fn P w K mg base "plus" 3 ["one","other"] a9m)(c4J:Fn P w K mg base "times" 3 ["one","other"] a6h)(c4h:Fn P w K mg base "t_of" 4 ["table"] a1Q)(c4A:Fn P w K mg base "is_ratio" 2 ["thing"] a6v):Fn P w K mg base "kept_right" 5 ["table","numbers","k"] a9q:=by
 have sc:=a4k
 refine i9 d sc (by walk_at "len") (fun f cdv A outer s H E ds M R Y hr h=>?_)
 have hu:=hr.units
 obtain⟨x,l,d,rfl,m,rfl,⟨cd,hd,hl⟩,k⟩:=h
 have zt:sz (trQ m)≤231:=CD.tr cd
 have xf:=hl.xf
 have zr:=hl.r
 have zx:=hl.x
 have ax:=a0z l.1
 rcases k with⟨q,rfl,zq,k⟩|⟨n,rfl,k⟩
 ·skip
  have aq:=a0z q
  have s1:sz (1:Rat)=1:=RM.O5
  have qq:=RM.y9 q q
  have iff:V2 m l (.rat "kept" q) ↔ ¬ 1<e9 q∧q*q+1=trQ m*q∧q*l.1=l.2.1∧¬ l.2.2<e9 l.1:=⟨fun z=>by
   rcases z with⟨z,_⟩|⟨_,z⟩
   ·exact absurd z (by decide)
   ·exact z,fun z=>.inr ⟨rfl,z⟩⟩
  refine⟨_,(d4 (f8 (C9 (D6 (A9 (p8 (jc c4A hr (a7 (a8 2) a9)))) (C5 (p8 (jc c4w hr (a7 (o6 rfl T.c_ONE) (a7 (jc c4i hr (a7 (a8 2) a9)) a9))))))) (d5 (d7 B1)) f7) (d4 (p7 (a8 1) (i8 (n:=3) rfl (d6 (jn 3 sc.nd) (d6 (jn 4 sc.nd) (d6 (jn 5 sc.nd) h8))))) (d4 (f8 (jtm (b0Y hu) (jc c5m hr (a7 (jc c4J hr (a7 (a8 2) (a7 (a8 2) a9))) (a7 (o6 rfl T.c_ONE) a9))) (jc c4J hr (a7 (jc c4h hr (a7 (a8 0) a9)) (a7 (a8 2) a9)))) (d5 (d7 B1)) f7) (d5 (d7 (C8 (jm (y3 hu) (jc c4d hr (a7 (a8 2) (a7 (a8 3) a9))) (a8 4)) (v8 (U0 (jc c4w hr (a7 (a8 5) (a7 (jc c4i hr (a7 (a8 3) a9)) a9))))))))))),?_⟩
  walk_at "sim"
  refine .inl ⟨q,rfl,?_,fun h1=>?_,fun h1=>⟨⟨by omega,c0H q⟩,⟨by omega,b7P _⟩,m,rfl,cd,⟨by omega,c0I (by omega) (by omega)⟩,fun h2=>?_,fun h2=>⟨by have:=c2r h2;omega,fun h3=>⟨by omega,?_⟩,fun h3=>?_⟩⟩⟩
  ·omega
  ·rw[F4 (fun z=>(iff.mp z).1 h1)]at k;exact k
  ·rw[F4 (fun z=>h2 (iff.mp z).2.1)]at k;exact k
  ·rw[show N9 m l (.rat "kept" q) = !decide (l.2.2<e9 l.1)from ?_]at k
   ·exact k
   ·by_cases hlt:l.2.2<e9 l.1
    ·rw[decide_eq_true hlt,F4 (fun z=>(iff.mp z).2.2.2 hlt)];rfl
    ·rw[decide_eq_false hlt,a3X (iff.mpr ⟨h1,h2,h3,hlt⟩)];rfl
  ·rw[F4 (fun z=>h3 (iff.mp z).2.2.1)]at k;exact k
 ·skip
  refine⟨_,(d4 (f8 (C9 (D6 (A9 (p8 (jc c4A hr (a7 (a8 2) a9)))) (C5 (p8 (jc c4w hr (a7 (o6 rfl T.c_ONE) (a7 (jc c4i hr (a7 (a8 2) a9)) a9))))))) (d5 (d7 B1)) f7) (d4 (p7 (a8 1) (i8 (n:=3) rfl (d6 (jn 3 sc.nd) (d6 (jn 4 sc.nd) (d6 (jn 5 sc.nd) h8))))) (d4 (f8 (jtm (b0Y hu) (jc c5m hr (a7 (jc c4J hr (a7 (a8 2) (a7 (a8 2) a9))) (a7 (o6 rfl T.c_ONE) a9))) (jc c4J hr (a7 (jc c4h hr (a7 (a8 0) a9)) (a7 (a8 2) a9)))) (d5 (d7 B1)) f7) (d5 (d7 (C8 (jm (y3 hu) (jc c4d hr (a7 (a8 2) (a7 (a8 3) a9))) (a8 4)) (v8 (U0 (jc c4w hr (a7 (a8 5) (a7 (jc c4i hr (a7 (a8 3) a9)) a9))))))))))),?_⟩
  walk_at "sim"
  exact .inr ⟨n,rfl,k⟩
theorem b7w(T:Txt K mg)(d:Df K mg "same" a9c ["one","other"]):Fn P w K mg base "same" 1 ["one","other"] a9j:=by
 have sc:=b6O
 refine i9 d sc (by walk_at "len") (fun f cdv A outer s H E ds M R Y hr h=>?_)
 have hu:=hr.units
 obtain⟨a,b,q,rfl,⟨b0,za,zb,zq⟩,k⟩:=h
 have e:decide (c7u a b=q)=decide (a*(q.den:Int)=q.num*b):=decide_eq_decide.mpr (c0M b0)
 rw[e]at k
 refine⟨_,(d5 (d7 (jm M8 (f9 p5 (jx (a8 0) d3) (jx (a8 1) d3)) (f9 p5 (jx (a8 1) d3) (jx (a8 0) d3))))),?_⟩
 walk_at "sim"
 exact⟨w6 _ _ za (by rw[c6N];exact t9 q zq) (by decide),w6 _ _ (u9 q zq) zb (by decide),k⟩
theorem a3M(T:Txt K mg)(d:Df K mg "reach_right" P3 ["table","numbers","s"])(c4y:Fn P w K mg base "less" 1 ["one","other"] a3E)(c4d:Fn P w K mg base "times" 3 ["one","other"] G2)(c5M:Fn P w K mg base "same" 1 ["one","other"] a9j)(c4o:Fn P w K mg base "reach_by" 4 ["t","x","later"] a5x)(c4h:Fn P w K mg base "t_of" 4 ["table"] a1Q)(c4g:Fn P w K mg base "kind_word" 6 ["table"] sKw)(c4A:Fn P w K mg base "is_ratio" 2 ["thing"] a6v):Fn P w K mg base "reach_right" 7 ["table","numbers","s"] a3C:=by
 have sc:=a3s
 refine i9 d sc (by walk_at "len") (fun f cdv A outer s H E ds M R Y hr h=>?_)
 have hu:=hr.units
 obtain⟨x,l,d,rfl,m,rfl,⟨cd,hd,hl⟩,k⟩:=h
 have zt:sz (trQ m)≤231:=CD.tr cd
 have xf:=hl.xf
 have zr:=hl.r
 have zrr:=RM.y9 l.2.2 l.2.2
 rcases k with⟨q,rfl,zq,k⟩|⟨n,rfl,k⟩
 ·skip
  refine⟨_,(d4 (f8 (C9 (D6 (A9 (p8 (jc c4A hr (a7 (a8 2) a9)))) (C5 (jtm b0X (jc c4g hr (a7 (a8 0) a9)) g8)))) (d5 (d7 B1)) f7) (d4 (p7 (a8 1) (i8 (n:=3) rfl (d6 (jn 3 sc.nd) (d6 (jn 4 sc.nd) (d6 (jn 5 sc.nd) h8))))) (d5 (d7 (C8 (jc c5M hr (a7 (jc c4o hr (a7 (jc c4h hr (a7 (a8 0) a9)) (a7 (a8 3) (a7 (a8 4) a9)))) (a7 (a8 2) a9))) (v8 (U0 (jc c4y hr (a7 (jc c4d hr (a7 (a8 5) (a7 (a8 5) a9))) (a7 (a8 2) a9)))))))))),?_⟩
  walk_at "sim"
  refine .inl ⟨q,rfl,m,rfl,cd,fun hw=>?_,fun hw=>⟨m,rfl,cd,?_⟩⟩
  ·rw[F4 (fun z=>?_)]at k
   ·exact k
   ·rcases z with⟨_,⟨z1,z2⟩,_⟩|⟨z,_⟩
    ·apply hw
     unfold kwS
     rw[if_neg z1,if_neg (fun z3=>by rw[z3]at z2;exact absurd z2 (by decide)),if_pos z2]
    ·exact absurd z (by decide)
  ·obtain⟨hs,h2⟩:¬ r9 m∧e9 (trQ m)<2:=by
    rcases D4 m with⟨_,e⟩|⟨_,_,e⟩|⟨c1,_,c3,e⟩|⟨_,_,_,e⟩
    ·rw[e]at hw;exact absurd hw (by decide)
    ·rw[e]at hw;exact absurd hw (by decide)
    ·exact⟨c1,c3⟩
    ·rw[e]at hw;exact absurd hw (by decide)
   obtain⟨t1,t2⟩:=O3.mp h2
   refine⟨⟨zt,t1,t2,xf⟩,fun T B b0 bB bT eT=>⟨⟨b0,p9 bT (by decide),p9 bB (by decide),by omega⟩,fun he=>⟨by omega,?_⟩,fun he=>?_⟩⟩
   ·refine⟨l.2.2*l.2.2,q.num,(q.den:Int),rfl,⟨by have:=q.den_pos;omega,by omega,by rw[c6N];exact t9 _ (by omega),u9 _ (by omega)⟩,?_⟩
    rw[c8w]
    walk_at "sim"
    rw[show N9 m l (.rat "reach" q) = !decide (l.2.2*l.2.2<q)from ?_]at k
    ·exact k
    ·by_cases hlt:l.2.2*l.2.2<q
     ·rw[decide_eq_true hlt,F4 (fun z=>?_)];rfl
      rcases z with⟨_,_,_,z⟩|⟨z,_⟩
      ·exact z hlt
      ·exact absurd z (by decide)
     ·rw[decide_eq_false hlt,a3X (show V2 m l (.rat "reach" q)from .inl ⟨rfl,⟨hs,h2⟩,by rw[← eT];exact he,hlt⟩)];rfl
   ·rw[F4 (fun z=>?_)]at k
    ·exact k
    ·rcases z with⟨_,_,z,_⟩|⟨z,_⟩
     ·exact he (by rw[eT];exact z)
     ·exact absurd z (by decide)
 ·skip
  refine⟨_,(d4 (f8 (C9 (D6 (A9 (p8 (jc c4A hr (a7 (a8 2) a9)))) (C5 (jtm b0X (jc c4g hr (a7 (a8 0) a9)) g8)))) (d5 (d7 B1)) f7) (d4 (p7 (a8 1) (i8 (n:=3) rfl (d6 (jn 3 sc.nd) (d6 (jn 4 sc.nd) (d6 (jn 5 sc.nd) h8))))) (d5 (d7 (C8 (jc c5M hr (a7 (jc c4o hr (a7 (jc c4h hr (a7 (a8 0) a9)) (a7 (a8 3) (a7 (a8 4) a9)))) (a7 (a8 2) a9))) (v8 (U0 (jc c4y hr (a7 (jc c4d hr (a7 (a8 5) (a7 (a8 5) a9))) (a7 (a8 2) a9)))))))))),?_⟩
  walk_at "sim"
  exact .inr ⟨n,rfl,k⟩
theorem a3P(T:Txt K mg)(d:Df K mg "is_whole" S2 ["thing"]):Fn P w K mg base "is_whole" 1 ["thing"] a6d:=by
 have sc:=a2m
 refine i9 d sc (by walk_at "len") (fun f cdv A outer s H E ds M R Y hr h=>?_)
 have hu:=hr.units
 obtain⟨x,rfl,k⟩:=h
 rcases k with⟨q,rfl,k⟩|⟨n,rfl,k⟩
 ·skip
  refine⟨_,(d5 (d7 (C8 (o9 (Y6 T.sub) rfl T.b_isinstance u5 (a7 (a8 0) (a7 (X8 rfl T.b_int a9Y) a9))) (v8 (U0 (o9 (Y6 T.sub) rfl T.b_isinstance u5 (a7 (a8 0) (a7 (X8 rfl T.b_bool a66) a9)))))))),?_⟩
  walk_at "sim"
  rw[v6 (ty := "tuple") (b:=false) rfl rfl]
  walk_at "sim"
  exact k
 ·skip
  refine⟨_,(d5 (d7 (C8 (o9 (Y6 T.sub) rfl T.b_isinstance u5 (a7 (a8 0) (a7 (X8 rfl T.b_int a9Y) a9))) (v8 (U0 (o9 (Y6 T.sub) rfl T.b_isinstance u5 (a7 (a8 0) (a7 (X8 rfl T.b_bool a66) a9)))))))),?_⟩
  walk_at "sim"
  exact k
theorem a3K(T:Txt K mg)(d:Df K mg "round_right" P1 ["table","numbers","n"])(c4r:Fn P w K mg base "stop_within" 4 ["t","numbers","watched","rounds"] a6j)(c4h:Fn P w K mg base "t_of" 4 ["table"] a1Q)(c4b:Fn P w K mg base "rounds_to_self" 5 ["table"] a9k)(c4K:Fn P w K mg base "is_whole" 1 ["thing"] a6d):Fn P w K mg base "round_right" 6 ["table","numbers","n"] a6o:=by
 have sc:=a3q
 refine i9 d sc (by walk_at "len") (fun f cdv A outer s H E ds M R Y hr h=>?_)
 have hu:=hr.units
 obtain⟨x,l,d,rfl,m,rfl,⟨cd,hd,hl⟩,k⟩:=h
 rcases k with⟨q,rfl,k⟩|⟨n,rfl,k⟩
 ·skip
  refine⟨_,(d4 (f8 (C9 (D6 (A9 (p8 (jc c4K hr (a7 (a8 2) a9)))) (C5 (jtm (b0Y hu) (a8 2) (jc c4b hr (a7 (a8 0) a9)))))) (d5 (d7 B1)) f7) (d5 (d7 (jm c0p (jc c4r hr (a7 (jc c4h hr (a7 (a8 0) a9)) (a7 (o7 (a7 (a8 1) a9)) (a7 (o7 (a7 d3 a9)) (a7 (a8 2) a9))))) M9)))),?_⟩
  walk_at "sim"
  exact .inl ⟨q,rfl,k⟩
 ·skip
  have zt:sz (trQ m)≤231:=CD.tr cd
  have hcl:cl 60 (a0N m)=true:=by
   by_cases hs:r9 m
   ·obtain⟨j,e⟩:=b0S hs;rw[e];rfl
   ·rw[a6A hs];rfl
  refine⟨_,(d4 (f8 (C9 (D6 (A9 (p8 (jc c4K hr (a7 (a8 2) a9)))) (C5 (jtm (b0Y hu) (a8 2) (jc c4b hr (a7 (a8 0) a9)))))) (d5 (d7 B1)) f7) (d5 (d7 (jm c0p (jc c4r hr (a7 (jc c4h hr (a7 (a8 0) a9)) (a7 (o7 (a7 (a8 1) a9)) (a7 (o7 (a7 d3 a9)) (a7 (a8 2) a9))))) M9)))),?_⟩
  walk_at "sim"
  refine .inr ⟨n,rfl,m,rfl,cd,hcl,fun h=>?_,fun h=>?_⟩
  ·rw[F4 (fun z=>h (by rw[a0O m z.2.1,z.2.2.1]))]at k
   exact k
  ·have hs:r9 m:=c68 fun z=>by rw[a6A z]at h;cases h
   obtain⟨n0,e1,e2,e3⟩:=b3K hd hs
   rw[a0O m hs]at h e1
   have h:n=(rtN m:Int):=by injection h
   have e1:(rtN m:Int)=(n0:Int):=by injection e1
   subst h
   refine⟨m,rfl,cd,?_⟩
   refine(V7 (N:=rtN m)).mpr ⟨[l],[0],rfl,rfl,⟨zt,⟨by show 1≤40;decide,by show 1≤40;decide⟩,by omega,fun x hx=>by rw[c7a.mp hx];exact hl,fun x hx=>by rw[c7a.mp hx];show 0<1;decide⟩,?_⟩
   show gIs false (a3m (L9 (trQ m) [l] [0] (rtN m))) D.non M R
   by_cases hb:∀ j,j<rtN m→¬ B9 (trQ m) l j
   ·rw[a3l (fun j hj x hx=>by rw[c7a.mp hx];exact decide_eq_false (hb j hj))]
    unfold a3m
    rw[a4d rfl]
    walk_at "sim"
    rw[a3X (show V2 m l (.int "round" (rtN m:Int))from⟨rfl,hs,rfl,hb⟩)]at k
    exact k
   ·rw[F4 (fun z:V2 m l (.int "round" (rtN m:Int))=>hb z.2.2.2)]at k
    have:∃ z,L9 (trQ m) [l] [0] (rtN m)=some z:=by
     cases e:L9 (trQ m) [l] [0] (rtN m)with
     | some z=>exact⟨z,rfl⟩
     | none =>
      refine absurd (fun j hj hbj=>?_) hb
      unfold L9 at e
      cases e4:(c7K (rtN m)).find? (fun n=>[0].any fun k=>A8 (trQ m) [l] k n)with
      | none=>exact absurd (show([0].any fun k=>A8 (trQ m) [l] k j)=true by simpa[A8]using hbj) (c8y.mp e4 j (c71.mpr hj))
      | some j2 =>
       rw[e4]at e
       have h5:=List.find?_some e4
       have h6:A8 (trQ m) [l] 0 j2=true:=by simpa using h5
       simp[h6]at e
    obtain⟨z,ez⟩:=this
    rw[ez]
    unfold a3m
    rw[a4d rfl]
    walk_at "sim"
    exact k
theorem a4w(T:Txt K mg)(d:Df K mg "line_right" R8 ["table","numbers","shown"])(c4F:Fn P w K mg base "kept_right" 5 ["table","numbers","k"] a9q)(c4B:Fn P w K mg base "reach_right" 7 ["table","numbers","s"] a3C)(c4C:Fn P w K mg base "round_right" 6 ["table","numbers","n"] a6o):Fn P w K mg base "line_right" 8 ["table","numbers","shown"] a9p:=by
 have sc:=a4i
 refine i9 d sc (by walk_at "len") (fun f cdv A outer s H E ds M R Y hr h=>?_)
 have hu:=hr.units
 obtain⟨x,l,d,rfl,m,rfl,⟨cd,hd,hl⟩,e,rfl,he,k⟩:=h
 have cn:cl 59 (D.str (Str.ofString "nought"))=true:=by decide +kernel
 cases e with
 | one w =>
  unfold enD
  unfold a93 at he
  have iff:V2 m l (.one w)↔w=Str.ofString "nought" ∧ l.1=0∧l.2.1=0:=Iff.rfl
  refine⟨_,(d4 (f8 (C9 (D6 (A9 (p8 (o9 (Y6 T.sub) rfl T.b_isinstance u5 (a7 (a8 2) (a7 (X8 rfl T.b_tuple R1) a9))))) (C5 (jtm a4J (o9 G9 rfl T.b_len C6 (a7 (a8 2) a9)) d3)))) (d5 (d7 B1)) f7) (d4 (f8 (jtm (y3 hu) (a8 2) (f6 (a7 g8 a9))) (d5 (d7 (C8 (jm (y3 hu) (jx (a8 1) d3) (o6 rfl T.c_NOUGHT)) (v8 (jm (y3 hu) (jx (a8 1) d3) (o6 rfl T.c_NOUGHT)))))) f7) (d4 (f8 (jtm a0T (o9 G9 rfl T.b_len C6 (a7 (a8 2) a9)) d3) (d5 (d7 B1)) f7) (d4 (p7 (a8 2) (i8 (n:=2) rfl (d6 (jn 3 sc.nd) (d6 (jn 4 sc.nd) h8)))) (d4 (f8 (jtm u3 (a8 3) g8) (d5 (d7 (jc c4C hr (a7 (a8 0) (a7 (a8 1) (a7 (a8 4) a9)))))) f7) (d4 (f8 (jtm u3 (a8 3) g8) (d5 (d7 (jc c4B hr (a7 (a8 0) (a7 (a8 1) (a7 (a8 4) a9)))))) f7) (d5 (d7 (C8 (jm u3 (a8 3) g8) (v8 (jc c4F hr (a7 (a8 0) (a7 (a8 1) (a7 (a8 4) a9)))))))))))))),?_⟩
  walk_at "sim"
  refine⟨fun h=>absurd h (by decide),fun _=>⟨he,cn,fun hw=>⟨fun h1=>?_,fun h1=>?_⟩,fun hw=>⟨fun _=>?_,fun h=>absurd (by decide) h⟩⟩⟩
  ·have hw:w=Str.ofString "nought" := by injection hw with hw;injection hw with hw;injection hw
   rw[show N9 m l (.one w)=decide (l.2.1=0)from ?_]at k
   ·exact k
   ·by_cases h2:l.2.1=0
    ·rw[decide_eq_true h2,a3X (iff.mpr ⟨hw,h1,h2⟩)]
    ·rw[decide_eq_false h2,F4 (fun z=>h2 (iff.mp z).2.2)]
  ·rw[F4 (fun z=>h1 (iff.mp z).2.1)]at k;exact k
  ·rw[F4 (fun z=>hw (by rw[(iff.mp z).1]))]at k;exact k
 | int w n =>
  unfold enD
  unfold a93 at he
  have iff:V2 m l (.int w n)↔w=Str.ofString "round" ∧ r9 m∧n=(rtN m:Int)∧∀ j,j<rtN m→¬ B9 (trQ m) l j:=Iff.rfl
  refine⟨_,(d4 (f8 (C9 (D6 (A9 (p8 (o9 (Y6 T.sub) rfl T.b_isinstance u5 (a7 (a8 2) (a7 (X8 rfl T.b_tuple R1) a9))))) (C5 (jtm a4J (o9 G9 rfl T.b_len C6 (a7 (a8 2) a9)) d3)))) (d5 (d7 B1)) f7) (d4 (f8 (jtm (y3 hu) (a8 2) (f6 (a7 g8 a9))) (d5 (d7 (C8 (jm (y3 hu) (jx (a8 1) d3) (o6 rfl T.c_NOUGHT)) (v8 (jm (y3 hu) (jx (a8 1) d3) (o6 rfl T.c_NOUGHT)))))) f7) (d4 (f8 (jtm a0T (o9 G9 rfl T.b_len C6 (a7 (a8 2) a9)) d3) (d5 (d7 B1)) f7) (d4 (p7 (a8 2) (i8 (n:=2) rfl (d6 (jn 3 sc.nd) (d6 (jn 4 sc.nd) h8)))) (d4 (f8 (jtm u3 (a8 3) g8) (d5 (d7 (jc c4C hr (a7 (a8 0) (a7 (a8 1) (a7 (a8 4) a9)))))) f7) (d4 (f8 (jtm u3 (a8 3) g8) (d5 (d7 (jc c4B hr (a7 (a8 0) (a7 (a8 1) (a7 (a8 4) a9)))))) f7) (d5 (d7 (C8 (jm u3 (a8 3) g8) (v8 (jc c4F hr (a7 (a8 0) (a7 (a8 1) (a7 (a8 4) a9)))))))))))))),?_⟩
  walk_at "sim"
  refine⟨fun h=>absurd h (by decide),fun _=>⟨he.1,cn,fun hw=>?_,fun hw=>⟨fun h=>absurd h (by decide),fun _=>⟨fun h1=>?_,fun h1=>?_⟩⟩⟩⟩
  ·injection hw with hw;injection hw with _ hw;cases hw
  ·rw[h1]at k
   exact⟨m,rfl,⟨cd,hd,hl⟩,.inr ⟨n,rfl,k⟩⟩
  ·rw[F4 (fun z=>h1 (iff.mp z).1)]at k
   exact⟨fun _=>⟨m,rfl,⟨cd,hd,hl⟩,.inr ⟨n,rfl,k⟩⟩,fun _=>⟨fun _=>⟨m,rfl,⟨cd,hd,hl⟩,.inr ⟨n,rfl,k⟩⟩,fun _=>k⟩⟩
 | rat w q =>
  unfold enD
  unfold a93 at he
  have iff:V2 m l (.rat w q)↔((w=Str.ofString "reach" ∧ (¬ r9 m∧e9 (trQ m)<2)∧G8 (trQ m) l.1 l.2.1=q∧¬ l.2.2*l.2.2<q)∨(w=Str.ofString "kept" ∧ ¬ 1<e9 q∧q*q+1=trQ m*q∧q*l.1=l.2.1∧¬ l.2.2<e9 l.1)):=Iff.rfl
  have h9:=he.2
  refine⟨_,(d4 (f8 (C9 (D6 (A9 (p8 (o9 (Y6 T.sub) rfl T.b_isinstance u5 (a7 (a8 2) (a7 (X8 rfl T.b_tuple R1) a9))))) (C5 (jtm a4J (o9 G9 rfl T.b_len C6 (a7 (a8 2) a9)) d3)))) (d5 (d7 B1)) f7) (d4 (f8 (jtm (y3 hu) (a8 2) (f6 (a7 g8 a9))) (d5 (d7 (C8 (jm (y3 hu) (jx (a8 1) d3) (o6 rfl T.c_NOUGHT)) (v8 (jm (y3 hu) (jx (a8 1) d3) (o6 rfl T.c_NOUGHT)))))) f7) (d4 (f8 (jtm a0T (o9 G9 rfl T.b_len C6 (a7 (a8 2) a9)) d3) (d5 (d7 B1)) f7) (d4 (p7 (a8 2) (i8 (n:=2) rfl (d6 (jn 3 sc.nd) (d6 (jn 4 sc.nd) h8)))) (d4 (f8 (jtm u3 (a8 3) g8) (d5 (d7 (jc c4C hr (a7 (a8 0) (a7 (a8 1) (a7 (a8 4) a9)))))) f7) (d4 (f8 (jtm u3 (a8 3) g8) (d5 (d7 (jc c4B hr (a7 (a8 0) (a7 (a8 1) (a7 (a8 4) a9)))))) f7) (d5 (d7 (C8 (jm u3 (a8 3) g8) (v8 (jc c4F hr (a7 (a8 0) (a7 (a8 1) (a7 (a8 4) a9)))))))))))))),?_⟩
  walk_at "sim"
  refine⟨fun h=>absurd h (by decide),fun _=>⟨he.1,cn,fun hw=>?_,fun hw=>⟨fun h=>absurd h (by decide),fun _=>⟨fun h1=>?_,fun h1=>⟨fun h2=>?_,fun h2=>⟨fun h3=>?_,fun h3=>?_⟩⟩⟩⟩⟩⟩
  ·injection hw with hw;injection hw with _ hw;cases hw
  ·rw[F4 (fun z=>?_)]at k
   ·exact⟨m,rfl,⟨cd,hd,hl⟩,.inl ⟨q,rfl,k⟩⟩
   ·rcases iff.mp z with⟨z,_⟩|⟨z,_⟩<;>(rw[h1]at z;exact absurd z (by decide))
  ·rw[h2]at k
   exact⟨m,rfl,⟨cd,hd,hl⟩,.inl ⟨q,rfl,by omega,k⟩⟩
  ·rw[h3]at k
   exact⟨m,rfl,⟨cd,hd,hl⟩,.inl ⟨q,rfl,h9,k⟩⟩
  ·rw[F4 (fun z=>?_)]at k
   ·exact k
   ·rcases iff.mp z with⟨z,_⟩|⟨z,_⟩
    ·exact h2 z
    ·exact h3 z
theorem a3N(T:Txt K mg)(d:Df K mg "never_shown" P4 ["hall","ray","paper"])(c4E:Fn P w K mg base "first_two" 5 ["table","ray","lines"] T7)(c5a:Fn P w K mg base "line_right" 8 ["table","numbers","shown"] a9p)(c4e:Fn P w K mg base "round_of" 7 ["hall"] a0t)(c4k:Fn P w K mg base "hall_lines" 7 ["hall"] M7):Fn P w K mg base "never_shown" 9 ["hall","ray","paper"] a9o:=by
 have sc:=a3t
 refine i9 d sc (by walk_at "len") (fun f cdv A outer s H E ds M R Y hr h=>?_)
 have hu:=hr.units
 obtain⟨x0,y,u,x,rfl,near,bs,far,es,rfl,hx,⟨⟨hw,S,cd,hS⟩,hl,he⟩,k⟩:=h
 have cL:=hw.cd (d8 near bs far).length
 rw[c7t]at cL
 have dL:=a5V (d8 near bs far)
 have lsl:=L8 (d8 near bs far) (d8 near bs far).length
 have hl2:=Q9 near far bs
 have hbl:=hw.len
 have hN:=a8A hw cd hS
 have eN:∀ i,(u6 near bs far y u)[i]? = ((C2 (d8 near bs far) (d8 near bs far).length)[i]?).map (y7 (d8 near bs far) y u):=fun i=>by unfold u6;rw[c6Y]
 rcases hx with rfl|rfl
 all_goals
  refine⟨_,(d4 (E4 (i:=3) [] ["way","number","line"] [] sc.nd rfl (Or.inl rfl) rfl (by decide +kernel) rfl (by decide +kernel) (by decide +kernel) rfl a1E a1E (B4 (Q1 (jc c4k hr (a7 (a8 0) a9)))) (fun _ _ _ _ _ _=>(i8 (n:=3) rfl (d6 (jn 0 (show(["way","number","line"]:List Str).Nodup by decide +kernel)) (d6 (jn 1 (show(["way","number","line"]:List Str).Nodup by decide +kernel)) (d6 (jn 2 (show(["way","number","line"]:List Str).Nodup by decide +kernel)) h8))))) (fun _ _ _ _ _ _=>A4) (fun _ _ _ _ _ _=>(a8 2))) (d4 (f8 (jtm a3U (o9 G9 rfl T.b_len C6 (a7 (a8 2) a9)) (o9 G9 rfl T.b_len C6 (a7 (a8 3) a9))) (d5 (d7 B1)) f7) (d4 (jst 4 sc.nd (jc c4e hr (a7 (a8 0) a9))) (d5 (d7 (o9 (c2Y rfl) rfl T.b_all c0W (a7 (J8 [4] ["numbers","shown"] ["table"] rfl (by decide +kernel) rfl (by decide +kernel) (by decide +kernel) rfl (a4O ⟨rfl,rfl⟩) (a4O (Or.inl rfl)) (a6T rfl T.b_zip (a7 (jc c4E hr (a7 (a8 4) (a7 (a8 1) (a7 (a8 3) a9)))) (a7 (a8 2) a9))) (fun _ _ _ _ _ _=>(i8 (n:=2) rfl (d6 (jn 0 (show(["numbers","shown","table"]:List Str).Nodup by decide +kernel)) (d6 (jn 1 (show(["numbers","shown","table"]:List Str).Nodup by decide +kernel)) h8)))) (fun _ _ _ _ _ _=>A4) (fun _ _ _ _ _ _=>(jc c5a hr (a7 (a8 2) (a7 (a8 0) (a7 (a8 1) a9)))))) a9))))))),?_⟩
  walk_at "sim"
  refine⟨hw,fun p hp=>?_⟩
  rw[a0y i7,N3 hp]
  walk_at "sim"
  rw[a2P]
  refine B7 (fun z=>o8 z.2) (by rw[c8z,E5];omega) (by simp only[p6]) (fun z hz Q hQ=>?_) ?_
  ·unfold hlD
   walk_at "sim"
   exact hQ
  rw[a4P]
  walk_at "sim"
  rw[show((C2 (d8 near bs far) (d8 near bs far).length).map o8).length=(u6 near bs far y u).length by unfold u6;rw[c6Q,c6Q],c6Q]
  refine⟨fun hne=>?_,fun hel=>⟨hw,d8 near bs far,C2 (d8 near bs far) (d8 near bs far).length,rfl,rfl,⟨S,cL,cd,hS,by omega,fun l hl=>(hw.ln cd hS hl).2⟩,?_⟩⟩
  ·unfold a0Q at k
   rw[decide_eq_false (fun z=>hne (by omega))]at k
   exact k
  ·unfold a0Q at k
   have hel:es.length=(u6 near bs far y u).length:=by omega
   rw[decide_eq_true hel]at k
   rw[show c8x (y7 (d8 near bs far) y u) (C2 (d8 near bs far) (d8 near bs far).length)=u6 near bs far y u from rfl]
   generalize u6 near bs far y u=ls at *
   walk_at "sim"
   have ez:V6 (ls.map o8) (es.map enD)=(ls.zip es).map fun z=>D.tup [o8 z.1,enD z.2]:=by
    unfold V6
    rw[c99,List.map_zip_eq_zipWith];rfl
   rw[ez]
   refine B7 (fun z=>D.bl (N9 (tbQ (d8 near bs far)) z.1 z.2)) (by rw[c8z];omega) (by simp only[p6,B5,and_self]) (fun z hz Q hQ=>?_) ?_
   ·obtain⟨h1,h2⟩:=c8T hz
    walk_at "sim"
    exact⟨_,rfl,⟨cL,dL,hN _ h1⟩,z.2,rfl,he _ h2,hQ⟩
   ·rw[show(ls.zip es).map (fun z=>D.bl (N9 (tbQ (d8 near bs far)) z.1 z.2))=((ls.zip es).map fun z=>N9 (tbQ (d8 near bs far)) z.1 z.2).map D.bl by rw[c7N];rfl]
    walk_at "sim"
    rw[List.all_map]
    exact k
theorem b4o(T:Txt K mg)(d:Df K mg "reach" a59 ["hall","ray","p","q"])(c4f:Fn P w K mg base "ratio" 2 ["top","bottom"] V1)(c4o:Fn P w K mg base "reach_by" 4 ["t","x","later"] a5x)(c4v:Fn P w K mg base "number_of" 4 ["p","q","ray"] a6q)(c5g:Fn P w K mg base "led" 4 ["table","ray"] b1K)(c4h:Fn P w K mg base "t_of" 4 ["table"] a1Q)(c4e:Fn P w K mg base "round_of" 7 ["hall"] a0t):Fn P w K mg base "reach" 8 ["hall","ray","p","q"] a1c:=by
 have sc:=b3B
 refine i9 d sc (by walk_at "len") (fun f cdv A outer s H E ds M R Y hr h=>?_)
 have hu:=hr.units
 obtain⟨x0,near,bs,far,y,u,p,q,rfl,hx0,⟨hok,cdr,⟨hp,hq⟩,zx,zf,t1,t2⟩,k⟩:=h
 have cd:=hok.cd (d8 near bs far).length
 rw[c7t]at cd
 have l:=E3 (d8 near bs far) y u
 have e1:(g7 (d8 near bs far) (1,0)).1=(tbQ (d8 near bs far)).1:=rfl
 have e2:(g7 (d8 near bs far) (0,1)).1=(tbQ (d8 near bs far)).2.1:=rfl
 have e3:(g7 (d8 near bs far) (1,0)).2=(tbQ (d8 near bs far)).2.2.1:=rfl
 have e4:(g7 (d8 near bs far) (0,1)).2=(tbQ (d8 near bs far)).2.2.2:=rfl
 rw[e1,e2,e3,e4]at l
 rw[l.1,l.2]at k zf
 have r1:=(X6 cd cdr).t2.y
 have r2:=(X6 cd cdr).t2.u
 rw[l.1]at r1
 rw[l.2]at r2
 have ty:=cdr.t2.y
 have tu:=cdr.t2.u
 rcases hx0 with rfl|rfl
 all_goals
  refine⟨_,(d4 (jst 4 sc.nd (jc c4e hr (a7 (a8 0) a9))) (d4 (p7 (jc c4o hr (a7 (jc c4h hr (a7 (a8 4) a9)) (a7 (jc c4v hr (a7 (a8 2) (a7 (a8 3) (a7 (a8 1) a9)))) (a7 (jc c4v hr (a7 (a8 2) (a7 (a8 3) (a7 (jc c5g hr (a7 (a8 4) (a7 (a8 1) a9))) a9)))) a9)))) (i8 (n:=2) rfl (d6 (jn 5 sc.nd) (d6 (jn 6 sc.nd) h8)))) (d5 (d7 (jc c4f hr (a7 (a8 5) (a7 (a8 6) a9))))))),?_⟩
  walk_at "sim"
  refine⟨hok,?_⟩
  generalize tbQ (d8 near bs far)=m at *
  obtain⟨a,b,c,d⟩:=m
  have t4:=CD.t4 cd
  have za:sz a≤230:=t4.a
  have zb:sz b≤230:=t4.b
  have zc:sz c≤230:=t4.c
  have zd:sz d≤230:=t4.d
  have zt:sz (trQ (a,b,c,d))≤231:=CD.tr cd
  refine⟨(a,b,c,d),rfl,cd,by omega,?_⟩
  rw[show E7 (a,b,c,d)=a1I a b c d from rfl]
  have r1:sz (a*y+b*u)≤230+1000+1:=r1
  have r2:sz (c*y+d*u)≤230+1000+1:=r2
  have zf:sz (p*(a*y+b*u)+q*(c*y+d*u))≤1462:=zf
  walk_at "sim"
  refine⟨by omega,by omega,by omega,⟨zt,t1,t2,by omega⟩,fun T B b0 bB bT eT=>?_⟩
  walk_at "sim"
  rw[eT]
  exact⟨by omega,c6R (F0 bB (by decide)) (by decide),k⟩
theorem a4A(T:Txt K mg)(d:Df K mg "floor_root" S4 ["number"]):Fn P w K mg base "floor_root" 1 ["number"] a2j:=by
 have sc:=a4m
 refine i9 d sc (fun ds M R Y h=>?_) (fun f cdv A outer s H E ds M R Y hr h=>?_)
 ·obtain⟨n,rfl,_⟩:=h;rfl
 ·obtain⟨n,rfl,hl,k⟩:=h
  refine⟨_,(d4 (f8 (jtm M8 (a8 0) d3) (d5 (d7 d3)) f7) (d4 (jst 1 sc.nd d3) (d4 (A7 PassesOwn.never rfl (a1t rfl T.b_range (a7 (f9 E9 (f9 F1 (b7K (a8 0)) d3) d3) a9)) (jn 2 sc.nd) (d5 (jst 1 sc.nd (f9 p5 (a8 1) d3)))) (d4 (jst 3 sc.nd (f9 E9 (f9 F1 (a8 1) (f9 E9 (a8 0) (a8 1))) d3)) (d4 (a1Z PassesOwn.never (jtm a0T (a8 3) (a8 1)) (d4 (jst 1 sc.nd (a8 3)) (d5 (jst 3 sc.nd (f9 E9 (f9 F1 (a8 1) (f9 E9 (a8 0) (a8 1))) d3))))) (d5 (d7 (a8 1)))))))),?_⟩
  refine⟨_,rfl,_,rfl,_,rfl,?_⟩
  refine b1Y (fun h0=>?_) (fun h0=>?_)
  ·have hn:n=0:=by omega
   subst hn
   exact k 0 (by decide) (by decide)
  ·have hn:0<n:=by omega
   have hlt:=a0i hl
   have hbe:Builtin.Int.intBits (n:Int)=n.log2+1:=by
    unfold Builtin.Int.intBits
    rw[if_neg (by first|omega|simp;omega)]
    simp
   have e2:(((Builtin.Int.intBits (n:Int):Nat):Int)+1).fdiv 2=(((n.log2+2) / 2:Nat):Int):=by
    rw[hbe,J4 (by omega) (by decide)];omega
   refine⟨_,rfl,_,rfl,_,rfl,_,_,rfl,rfl,b70,_,rfl,by rw[e2];omega,by rw[e2];omega,?_⟩
   refine⟨fun i e M'=>M'=M∧∃ t:Option D,e=[some (.int n),some (.int ((2 ^ i:Nat):Int)),t,none],⟨rfl,none,rfl⟩,fun _ _ _ _ _=>trivial,?_,?_⟩
   ·rintro i dd e M' hd ⟨rfl,t,rfl⟩
    have e:(((2 ^ i:Nat):Int)*2)=((2 ^ (i+1):Nat):Int):=by rw[c81];omega
    exact⟨_,rfl,_,_,rfl,rfl,c2p (by decide) (by decide),rfl,some dd,by rw[← e];rfl⟩
   ·rw[q9,e2,c8a]
    rintro e M' ⟨rfl,t,rfl⟩
    have hg0:0<2 ^ ((n.log2+2) / 2):=c7S _
    have hgn:n<2 ^ ((n.log2+2) / 2)*2 ^ ((n.log2+2) / 2):=by
     rw[← c9c]
     refine c6R (Nat.lt_log2_self) (c7f (by decide) (by omega))
    have hgs:Sml (2 ^ ((n.log2+2) / 2)):=Sml.pow (by omega)
    generalize 2 ^ ((n.log2+2) / 2)=g at hg0 hgn hgs
    have cf:∀{g:Nat},0<g→Sml g→CFd (n:Int) (g:Int):=fun h1 h2=>⟨by omega,by rw[c6N];exact h2.log⟩
    have ev:∀ g:Nat,((g:Int)+(n:Int).fdiv (g:Int)).fdiv 2=(((g+n / g) / 2:Nat):Int):=fun g=>by
     rw[J4 (c8i _) (c8i _),J4 (by have:=c8i (g+n / g);exact_mod_cast this) (by decide)];norm_cast
    refine⟨_,rfl,_,rfl,_,rfl,_,_,rfl,rfl,cf hg0 hgs,_,rfl,_,_,rfl,rfl,b70,?_⟩
    refine⟨fun m e M''=>M''=M'∧∃ t:Option D,e=[some (.int n),some (.int (m:Int)),t,some (.int (((m+n / m) / 2:Nat):Int))]∧0<m∧Sml m∧n<(m+1)*(m+1),⟨g,rfl,t,by rw[← ev];rfl,hg0,hgs,by
     have:g*g≤(g+1)*(g+1):=c8g (by omega) (by omega)
     omega⟩,?_⟩
    rintro m e M'' ⟨rfl,t,rfl,hm0,hms,hmn⟩
    refine⟨_,rfl,_,rfl,_,rfl,_,rfl,?_⟩
    refine b1Y (fun h1=>?_) (fun h1=>?_)
    ·have hb:(m+n / m) / 2<m:=by exact_mod_cast h1
     have hb0:0<(m+n / m) / 2:=by
      rcases c77 1 m with z|z
      ·generalize n / m=y
       omega
      ·have hm1:m=1:=by omega
       subst hm1
       rw[Nat.div_one]
       omega
     refine⟨_,rfl,_,rfl,_,rfl,_,rfl,_,_,rfl,rfl,cf hb0 (hms.mono (c8C hb)),_,rfl,_,_,rfl,rfl,b70,?_⟩
     exact⟨_,hb,rfl,t,by rw[← ev ((m+n / m) / 2)];rfl,hb0,hms.mono (c8C hb),c0r hm0⟩
    ·refine⟨_,rfl,?_⟩
     exact k m (a9I hm0 (fun z=>h1 (by exact_mod_cast z))) hmn
theorem b7x(T:Txt K mg)(d:Df K mg "root" a9d ["one"])(c4O:Fn P w K mg base "floor_root" 1 ["number"] a2j):Fn P w K mg base "root" 2 ["one"] a85:=by
 have sc:=b6P
 refine i9 d sc (fun ds M R Y h=>?_) (fun f cdv A outer s H E ds M R Y hr h=>?_)
 ·obtain⟨q,rfl,_⟩:=h;rfl
 ·obtain⟨q,rfl,hz,k⟩:=h
  have hu:=hr.units
  obtain⟨hl1,hl2⟩:=b9I hz
  refine⟨_,(d4 (f8 (jtm a0T (jx (a8 0) d3) d3) (d5 (d7 M9)) f7) (d4 (jst 1 sc.nd (jc c4O hr (a7 (jx (a8 0) d3) a9))) (d4 (jst 2 sc.nd (jc c4O hr (a7 (jx (a8 0) d3) a9))) (d4 (f8 (C9 (D6 (jtm a3U (f9 p5 (a8 1) (a8 1)) (jx (a8 0) d3)) (C5 (jtm a3U (f9 p5 (a8 2) (a8 2)) (jx (a8 0) d3))))) (d5 (d7 M9)) f7) (d5 (d7 (f6 (a7 (a8 1) (a7 (a8 2) a9))))))))),?_⟩
  refine⟨_,rfl,_,rfl,_,rfl,_,rfl,?_⟩
  refine b1Y (fun h0=>?_) (fun h0=>?_)
  ·refine k .non (.inr ⟨fun r hr=>?_,rfl⟩)
   have:=(a3G hr).2.2
   omega
  ·have en:q.num=((q.num.natAbs:Nat):Int):=by omega
   refine⟨_,rfl,_,rfl,q.num.natAbs,by rw[← en];rfl,hl1,fun s h1 h2=>?_⟩
   refine⟨_,rfl,_,rfl,q.den,rfl,hl2,fun t h3 h4=>?_⟩
   have hs:s<2 ^ 4000:=c7c (c6V (c8X s) h1) (a0i hl1)
   have ht:t<2 ^ 4000:=c7c (c6V (c8X t) h3) (a0i hl2)
   have m1:IntMulOk (s:Int) (s:Int):=w6 4000 4000 (by rw[c6N];exact hs) (by rw[c6N];exact hs) (by decide)
   have m2:IntMulOk (t:Int) (t:Int):=w6 4000 4000 (by rw[c6N];exact ht) (by rw[c6N];exact ht) (by decide)
   have no:(¬ (s:Int)*(s:Int)=q.num ∨ ¬ (t:Int)*(t:Int)=(q.den:Int))→R .non M:=fun hno=>k .non (.inr ⟨fun r hr=>by
    obtain⟨⟨a,ha⟩,⟨b,hb⟩,hq⟩:=a3G hr
    have e1:=a5t h1 h2 ha
    have e2:=a5t h3 h4 hb
    subst e1;subst e2
    rcases hno with z|z
    ·apply z;rw[en,← ha];norm_cast
    ·apply z;rw[← hb];norm_cast,rfl⟩)
   refine⟨_,rfl,_,rfl,_,_,rfl,rfl,m1,_,rfl,_,rfl,_,rfl,_,rfl,?_⟩
   refine b4J (fun h5=>?_) (fun h5=>?_)
   ·exact no (.inl h5)
   ·refine⟨_,rfl,_,rfl,_,_,rfl,rfl,m2,_,rfl,_,rfl,_,rfl,_,rfl,?_⟩
    refine b4J (fun h6=>?_) (fun h6=>?_)
    ·exact no (.inr h6)
    ·refine⟨_,rfl,_,rfl,sl 2,?_⟩
     obtain⟨r,r0,r1,r2,r3⟩:=b1L (q:=q) h5 (by exact_mod_cast h6)
     refine k _ (.inl ⟨r,r0,r1,?_⟩)
     unfold d9;rw[r2,r3]
theorem a6I(T:Txt K mg)(d:Df K mg "shrinking" W4 ["t"])(c4D:Fn P w K mg base "over" 3 ["one","other"] a0A)(c4l:Fn P w K mg base "minus" 4 ["one","other"] K6)(c4w:Fn P w K mg base "less" 1 ["one","other"] a0B)(c4n:Fn P w K mg base "opposite" 1 ["one"] a5u)(c6k:Fn P w K mg base "root" 2 ["one"] a85)(c4d:Fn P w K mg base "times" 3 ["one","other"] G2):Fn P w K mg base "shrinking" 5 ["t"] b9P:=by
 have sc:=a50
 refine i9 d sc (by walk_at "len") (fun f cdv A outer s H E ds M R Y hr h=>?_)
 have hu:=hr.units
 obtain⟨t,rfl,ht,k⟩:=h
 have z1:=RM.y9 t t
 have z4:sz 4≤3:=by decide +kernel
 have z5:=RM.R3 (t*t) 4
 have z0:=RM.K5
 refine⟨_,(d4 (jst 1 sc.nd (jc c6k hr (a7 (jc c4l hr (a7 (jc c4d hr (a7 (a8 0) (a7 (a8 0) a9))) (a7 (o6 rfl T.c_FOUR) a9))) a9))) (d4 (f8 (jtm c0p (a8 1) M9) (d5 (d7 M9)) f7) (d4 (f8 (p8 (jc c4w hr (a7 (a8 0) (a7 (o6 rfl T.c_NOUGHT) a9)))) (d5 (jst 1 sc.nd (jc c4n hr (a7 (a8 1) a9)))) f7) (d5 (d7 (jc c4D hr (a7 (jc c4l hr (a7 (a8 0) (a7 (a8 1) a9))) (a7 (o6 rfl T.c_TWO) a9)))))))),?_⟩
 walk_at "sim"
 refine⟨by omega,by omega,by omega,?_⟩
 rintro v (⟨r,r0,r1,rfl⟩|⟨r1,rfl⟩)
 ·have zr:sz r≤470:=c6V (b6J r1) (by omega)
  rw[a4d rfl]
  have z2:sz 2≤2:=by decide +kernel
  have z6:=RM.R3 t r
  have z7:=RM.R3 t (-r)
  have z8:=RM.O6 r
  walk_at "sim"
  refine⟨by omega,fun e=>⟨by omega,by decide,by omega,k _ (.inl ⟨r,r0,r1,?_⟩)⟩,fun e=>⟨by omega,by decide,by omega,k _ (.inl ⟨r,r0,r1,?_⟩)⟩⟩
  ·rw[if_pos e]
  ·rw[if_neg e]
 ·rw[a4d rfl]
  walk_at "sim"
  exact k _ (.inr ⟨r1,rfl⟩)
theorem a6J(T:Txt K mg)(d:Df K mg "ray_along" W5 ["table"])(c4l:Fn P w K mg base "minus" 4 ["one","other"] K6)(c4D:Fn P w K mg base "over" 3 ["one","other"] a0A)(c4h:Fn P w K mg base "t_of" 4 ["table"] a1Q):Fn P w K mg base "ray_along" 5 ["table"] a9s:=by
 have sc:=a51
 refine i9 d sc (by walk_at "len") (fun f cdv A outer s H E ds M R Y hr h=>?_)
 have hu:=hr.units
 obtain⟨x,rfl,⟨a,b,c,d⟩,hx,cd,k⟩:=h
 have hx':x=a1I a b c d:=hx
 subst hx'
 have t4:=CD.t4 cd
 have h1:sz a≤230:=t4.a
 have ht:sz (trQ (a,b,c,d))≤231:=CD.tr cd
 have z2:sz 2≤2:=by decide +kernel
 have z3:=RM.R4 (trQ (a,b,c,d)) 2 (by decide)
 refine⟨_,(d4 (p7 (a8 0) (i8 (n:=4) rfl (d6 (jn 1 sc.nd) (d6 (jn 2 sc.nd) (d6 (jn 3 sc.nd) (d6 (jn 4 sc.nd) h8)))))) (d4 (f8 (jtm (y3 hu) (a8 2) (o6 rfl T.c_NOUGHT)) (d5 (d7 (o6 rfl T.c_AXIS_RAY))) f7) (d5 (d7 (f6 (a7 (a8 2) (a7 (jc c4l hr (a7 (jc c4D hr (a7 (jc c4h hr (a7 (a8 0) a9)) (a7 (o6 rfl T.c_TWO) a9))) (a7 (a8 1) a9))) a9))))))),?_⟩
 walk_at "sim"
 unfold a9Z at k
 refine⟨fun e=>?_,fun e=>⟨(a,b,c,d),rfl,cd,by decide,by omega,by omega,?_⟩⟩
 ·rw[if_pos e]at k;exact k
 ·rw[if_neg e]at k;exact k
theorem a9E(T:Txt K mg)(d:Df K mg "form_of" a1O ["table"])(c4n:Fn P w K mg base "opposite" 1 ["one"] a5u)(c4l:Fn P w K mg base "minus" 4 ["one","other"] K6):Fn P w K mg base "form_of" 5 ["table"] a6w:=by
 have sc:=a89
 refine i9 d sc (by walk_at "len") (fun f cdv A outer s H E ds M R Y hr h=>?_)
 have hu:=hr.units
 obtain⟨x,rfl,⟨a,b,c,d⟩,hx,cd,k⟩:=h
 have hx':x=a1I a b c d:=hx
 subst hx'
 have t4:=CD.t4 cd
 have h1:sz a≤230:=t4.a
 have h4:sz d≤230:=t4.d
 refine⟨_,(d4 (p7 (a8 0) (i8 (n:=4) rfl (d6 (jn 1 sc.nd) (d6 (jn 2 sc.nd) (d6 (jn 3 sc.nd) (d6 (jn 4 sc.nd) h8)))))) (d5 (d7 (f6 (a7 (a8 3) (a7 (jc c4l hr (a7 (a8 4) (a7 (a8 1) a9))) (a7 (jc c4n hr (a7 (a8 2) a9)) a9))))))),?_⟩
 walk_at "sim"
 exact⟨by omega,k⟩
theorem b7B(T:Txt K mg)(d:Df K mg "kind" a9f ["hall"])(c5h:Fn P w K mg base "shrinking" 5 ["t"] b9P)(c4h:Fn P w K mg base "t_of" 4 ["table"] a1Q)(c5i:Fn P w K mg base "ray_along" 5 ["table"] a9s)(c5u:Fn P w K mg base "form_of" 5 ["table"] a6w)(c4b:Fn P w K mg base "rounds_to_self" 5 ["table"] a9k)(c4g:Fn P w K mg base "kind_word" 6 ["table"] sKw)(c4e:Fn P w K mg base "round_of" 7 ["hall"] a0t):Fn P w K mg base "kind" 8 ["hall"] a1R:=by
 have sc:=b6R
 refine i9 d sc (by walk_at "len") (fun f cdv A outer s H E ds M R Y hr h=>?_)
 have hu:=hr.units
 obtain⟨x0,near,bs,far,rfl,hx0,hok,k⟩:=h
 have cd:=hok.cd (d8 near bs far).length
 rw[c7t]at cd
 rcases hx0 with rfl|rfl
 all_goals
  refine⟨_,(d4 (jst 1 sc.nd (jc c4e hr (a7 (a8 0) a9))) (d4 (jst 2 sc.nd (jc c4g hr (a7 (a8 1) a9))) (d4 (f8 (jtm u3 (a8 2) g8) (d5 (d7 (f6 (a7 (a8 2) (a7 (jc c4b hr (a7 (a8 1) a9)) a9))))) f7) (d4 (f8 (jtm u3 (a8 2) g8) (d5 (d7 (f6 (a7 (a8 2) (a7 (jc c5u hr (a7 (a8 1) a9)) a9))))) f7) (d4 (f8 (jtm u3 (a8 2) g8) (d5 (d7 (f6 (a7 (a8 2) (a7 (jc c5i hr (a7 (a8 1) a9)) a9))))) f7) (d5 (d7 (f6 (a7 (a8 2) (a7 (jc c5h hr (a7 (jc c4h hr (a7 (a8 1) a9)) a9)) a9)))))))))),?_⟩
  walk_at "sim"
  refine⟨hok,?_⟩
  generalize tbQ (d8 near bs far)=m at *
  refine⟨m,rfl,cd,fun e=>⟨m,rfl,cd,k _ (.inl ⟨e,rfl⟩)⟩,fun e=>⟨fun e2=>⟨m,rfl,cd,k _ (.inr (.inl ⟨e2,rfl⟩))⟩,fun e2=>⟨fun e3=>⟨m,rfl,cd,k _ (.inr (.inr (.inl ⟨e3,rfl⟩)))⟩,fun e3=>⟨m,rfl,cd,CD.tr cd,fun v hv=>k _ (.inr (.inr (.inr ⟨?_,hv⟩)))⟩⟩⟩⟩
  unfold kwS at e e2 e3 ⊢
  by_cases h1:r9 m
  ·rw[if_pos h1]at e;exact absurd rfl e
  ·rw[if_neg h1]at e2 e3 ⊢
   by_cases h2:e9 (trQ m)=2
   ·rw[if_pos h2]at e3;exact absurd rfl e3
   ·rw[if_neg h2]at e2 ⊢
    by_cases h3:e9 (trQ m)<2
    ·rw[if_pos h3]at e2;exact absurd rfl e2
    ·rw[if_neg h3]
theorem a4G(T:Txt K mg)(d:Df K mg "_law_paper" S9 ["hall","ray"])(c4k:Fn P w K mg base "hall_lines" 7 ["hall"] M7)(c5b:Fn P w K mg base "reach" 8 ["hall","ray","p","q"] a1c)(c4D:Fn P w K mg base "over" 3 ["one","other"] a0A)(c4q:Fn P w K mg base "plus" 3 ["one","other"] R5)(c4d:Fn P w K mg base "times" 3 ["one","other"] G2)(c5g:Fn P w K mg base "led" 4 ["table","ray"] b1K)(c4e:Fn P w K mg base "round_of" 7 ["hall"] a0t)(c5c:Fn P w K mg base "kind" 8 ["hall"] a1R):Fn P w K mg base "_law_paper" 9 ["hall","ray"] a9n:=by
 have sc:=a4r
 refine i9 d sc (by walk_at "len") (fun f cdv A outer s H E ds M R Y hr h=>?_)
 have hu:=hr.units
 obtain⟨near,bs,far,y,u,rfl,⟨hw,cd⟩,k⟩:=h
 have cL:=hw.cd (d8 near bs far).length
 rw[c7t]at cL
 have ray:=(X6 cL cd).t2
 have r1:=ray.y
 have r2:=ray.u
 have ty:=cd.t2.y
 have tu:=cd.t2.u
 have ol:=E3 (d8 near bs far) y u
 have t4:=CD.t4 cL
 have o1:(g7 (d8 near bs far) (y,u)).1=(tbQ (d8 near bs far)).1*y+(tbQ (d8 near bs far)).2.1*u:=ol.1
 have o2:(g7 (d8 near bs far) (y,u)).2=(tbQ (d8 near bs far)).2.2.1*y+(tbQ (d8 near bs far)).2.2.2*u:=ol.2
 have z3:sz (tbQ (d8 near bs far)).1≤230:=t4.a
 have z4:sz (tbQ (d8 near bs far)).2.1≤230:=t4.b
 have z5:sz (tbQ (d8 near bs far)).2.2.1≤230:=t4.c
 have z6:sz (tbQ (d8 near bs far)).2.2.2≤230:=t4.d
 have sl:=L8 (d8 near bs far) (d8 near bs far).length
 have hl2:=Q9 near far bs
 have hbl:=hw.len
 refine⟨_,(d4 (jst 2 sc.nd (a11 a9)) (d4 (jst 3 sc.nd (jc c5c hr (a7 (a8 0) a9))) (d4 (jst 4 sc.nd (jc c5g hr (a7 (jc c4e hr (a7 (a8 0) a9)) (a7 (a8 1) a9)))) (d4 (A7 PassesOwn.never rfl (B4 (Q1 (jc c4k hr (a7 (a8 0) a9)))) (i8 (n:=3) rfl (d6 (jn 5 sc.nd) (d6 (jn 6 sc.nd) (d6 (i8 (n:=3) rfl (d6 (jn 7 sc.nd) (d6 (jn 8 sc.nd) (d6 (jn 9 sc.nd) h8)))) h8)))) (d4 (jst 10 sc.nd (jc c4q hr (a7 (jc c4d hr (a7 (a8 7) (a7 (jx (a8 1) d3) a9))) (a7 (jc c4d hr (a7 (a8 8) (a7 (jx (a8 1) d3) a9))) a9)))) (d4 (jst 11 sc.nd (jc c4q hr (a7 (jc c4d hr (a7 (a8 7) (a7 (jx (a8 4) d3) a9))) (a7 (jc c4d hr (a7 (a8 8) (a7 (jx (a8 4) d3) a9))) a9)))) (d5 (f8 (C9 (a12 (jtm (y3 hu) (a8 10) (f6 (a7 d3 (a7 d3 a9)))) (a0j (jtm (y3 hu) (a8 11) (f6 (a7 d3 (a7 d3 a9))))))) (d5 (D5 (X9 PySem.F.slot_list_append PySem.F.type_list_append C4 (a8 2) (a7 (f6 (a7 g8 a9)) a9)))) (d5 (f8 (jtm u3 (jx (a8 3) d3) g8) (d5 (D5 (X9 PySem.F.slot_list_append PySem.F.type_list_append C4 (a8 2) (a7 (f6 (a7 g8 (a7 (jx (a8 3) d3) a9))) a9)))) (d5 (f8 (jtm u3 (jx (a8 3) d3) g8) (d5 (D5 (X9 PySem.F.slot_list_append PySem.F.type_list_append C4 (a8 2) (a7 (f6 (a7 g8 (a7 (jc c5b hr (a7 (a8 0) (a7 (a8 1) (a7 (a8 7) (a7 (a8 8) a9))))) a9))) a9)))) (d5 (f8 (jtm (y3 hu) (a8 10) (f6 (a7 d3 (a7 d3 a9)))) (d5 (D5 (X9 PySem.F.slot_list_append PySem.F.type_list_append C4 (a8 2) (a7 (f6 (a7 g8 (a7 (f6 (a7 d3 (a7 d3 a9))) a9))) a9)))) (d5 (D5 (X9 PySem.F.slot_list_append PySem.F.type_list_append C4 (a8 2) (a7 (f6 (a7 g8 (a7 (jc c4D hr (a7 (a8 11) (a7 (a8 10) a9))) a9))) a9))))))))))))))) (d5 (d7 (Y1 (Q1 (a8 2))))))))),?_⟩
 walk_at "sim"
 refine fun p hp=>⟨hw,fun v hv=>⟨hw,?_⟩⟩
 unfold E7
 walk_at "sim"
 rw[← o1,← o2]
 refine⟨by omega,by omega,hw,fun p2 hp2=>?_⟩
 rw[a0y i7,N3 hp2]
 walk_at "sim"
 rw[a2P]
 refine a0r.by (fun i e M'=>(∃ z5 z6 z7 z8 z9 z10 z11:Option D,e=[some (D.tup [d9 near,D.vl (c8x i0 bs),d9 far]),some (A1 y u),some (D.ref p),some (D.tup [D.str (kwS (tbQ (d8 near bs far))),v]),some (A1 (g7 (d8 near bs far) (y,u)).1 (g7 (d8 near bs far) (y,u)).2),z5,z6,z7,z8,z9,z10,z11])∧M'=C1 M p (.lst ((((u6 near bs far y u).take i).map (pE (tbQ (d8 near bs far)))).map enD))) ⟨⟨_,_,_,_,_,_,_,rfl⟩,rfl⟩ (fun _ _ _ _ _=>by simp only[p6]) ?_ ?_
 ·rintro i dd e M' hd ⟨⟨z5,z6,z7,z8,z9,z10,z11,rfl⟩,rfl⟩
  rw[c6Y]at hd
  obtain⟨⟨w0,l⟩,hz,rfl⟩:=c7s.mp hd
  rw[List.getElem?_zip_eq_some]at hz
  have hli:(C2 (d8 near bs far) (d8 near bs far).length)[i]? = some l:=by rw[← E5];exact hz.2
  have hlm:=c6S hli
  have hi:=(c6P.mp hli).1
  obtain⟨⟨q1,q2⟩,⟨q3,q4⟩,zx,zf⟩:=hw.line cd hlm
  have zt:sz (trQ (tbQ (d8 near bs far)))≤231:=CD.tr cL
  have hN:(u6 near bs far y u)[i]? = some (y7 (d8 near bs far) y u l):=by unfold u6;rw[c6Y,hli];rfl
  have tk:(((u6 near bs far y u).take (i+1)).map (pE (tbQ (d8 near bs far)))).map enD=(((u6 near bs far y u).take i).map (pE (tbQ (d8 near bs far)))).map enD++[enD (pE (tbQ (d8 near bs far)) (y7 (d8 near bs far) y u l))]:=by
   rw[c73,hN,c7d,c7d];rfl
  have m1:=RM.y9 l.1 y
  have m2:=RM.y9 l.2.1 u
  have m3:=RM.y9 l.1 (g7 (d8 near bs far) (y,u)).1
  have m4:=RM.y9 l.2.1 (g7 (d8 near bs far) (y,u)).2
  have fin:∀(ee:D) (zz10 zz11:Option D),ee=enD (pE (tbQ (d8 near bs far)) (y7 (d8 near bs far) y u l))→a6X (.ref p) [ee] (C1 M p (.lst ((((u6 near bs far y u).take i).map (pE (tbQ (d8 near bs far)))).map enD))) fun _ M'=>(∃ z5 z6 z7 z8 z9 z10 z11:Option D,[some (D.tup [d9 near,D.vl (c8x i0 bs),d9 far]),some (A1 y u),some (D.ref p),some (D.tup [D.str (kwS (tbQ (d8 near bs far))),v]),some (A1 (g7 (d8 near bs far) (y,u)).1 (g7 (d8 near bs far) (y,u)).2),some w0.1,some w0.2,some (d9 l.1),some (d9 l.2.1),some (d9 l.2.2),zz10,zz11]=[some (D.tup [d9 near,D.vl (c8x i0 bs),d9 far]),some (A1 y u),some (D.ref p),some (D.tup [D.str (kwS (tbQ (d8 near bs far))),v]),some (A1 (g7 (d8 near bs far) (y,u)).1 (g7 (d8 near bs far) (y,u)).2),z5,z6,z7,z8,z9,z10,z11])∧M'=C1 M p (.lst ((((u6 near bs far y u).take (i+1)).map (pE (tbQ (d8 near bs far)))).map enD)):=fun ee zz10 zz11 he=>by
   refine a17 i7 (by rw[c6Q,c6Q,c7P];omega) ⟨⟨_,_,_,_,_,_,_,rfl⟩,?_⟩
   rw[a3i,tk,he]
  unfold hlD o8
  walk_at "sim"
  have enx:y7 (d8 near bs far) y u l=(l.1*y+l.2.1*u,l.1*(g7 (d8 near bs far) (y,u)).1+l.2.1*(g7 (d8 near bs far) (y,u)).2,l.2.2):=rfl
  rw[enx]at fin
  generalize l.1*y+l.2.1*u=x at *
  generalize l.1*(g7 (d8 near bs far) (y,u)).1+l.2.1*(g7 (d8 near bs far) (y,u)).2=f1 at *
  refine⟨by omega,by omega,by omega,by omega,by omega,by omega,fun hx=>⟨fun hf=>N6 i7 (fin _ _ _ ?_),fun hf=>?_⟩,fun hx=>?_⟩
  ·unfold pE
   rw[if_pos (show(x,f1,l.2.2).1=0∧(x,f1,l.2.2).2.1=0 from⟨hx,hf⟩)];rfl
  all_goals
   have h0:¬ ((x,f1,l.2.2).1=0∧(x,f1,l.2.2).2.1=0):=by first|exact fun z=>hf z.2|exact fun z=>hx z.1
   unfold pE at fin
   rw[if_neg h0]at fin
   refine⟨fun hk=>N6 i7 (fin _ _ _ ?_),fun hk=>⟨fun ht=>?_,fun ht=>?_⟩⟩
   ·have hs:r9 (tbQ (d8 near bs far)):=by
     rcases D4 (tbQ (d8 near bs far))with⟨c1,_⟩|⟨_,_,e⟩|⟨_,_,_,e⟩|⟨_,_,_,e⟩
     ·exact c1
     ·rw[e]at hk;exact absurd hk (by decide)
     ·rw[e]at hk;exact absurd hk (by decide)
     ·rw[e]at hk;exact absurd hk (by decide)
    have ev:v=a0N (tbQ (d8 near bs far)):=by
     rcases hv with⟨_,h⟩|⟨e,_⟩|⟨e,_⟩|⟨e,_⟩
     ·exact h
     ·rw[e]at hk;exact absurd hk (by decide)
     ·rw[e]at hk;exact absurd hk (by decide)
     ·rw[e]at hk;exact absurd hk (by decide)
    rw[if_pos hs,ev,a0O _ hs];rfl
   ·obtain⟨hs,c3⟩:¬ r9 (tbQ (d8 near bs far))∧e9 (trQ (tbQ (d8 near bs far)))<2:=by
     rcases D4 (tbQ (d8 near bs far))with⟨_,e⟩|⟨_,_,e⟩|⟨c1,_,c3,e⟩|⟨_,_,_,e⟩
     ·exact absurd e hk
     ·rw[e]at ht;exact absurd ht (by decide)
     ·exact⟨c1,c3⟩
     ·rw[e]at ht;exact absurd ht (by decide)
    obtain⟨t1,t2⟩:=O3.mp c3
    rw[if_neg hs,if_pos c3]at fin
    exact N6 i7 ⟨⟨hw,cd,⟨q1,q2⟩,zx,zf,t1,t2⟩,fin _ _ _ rfl⟩
   ·obtain⟨hs,c3⟩:¬ r9 (tbQ (d8 near bs far))∧¬ e9 (trQ (tbQ (d8 near bs far)))<2:=by
     rcases D4 (tbQ (d8 near bs far))with⟨_,e⟩|⟨c1,c2,e⟩|⟨c1,_,c3,e⟩|⟨c1,_,c3,_⟩
     ·exact absurd e hk
     ·exact⟨c1,by rw[c2];decide⟩
     ·exact absurd e ht
     ·exact⟨c1,c3⟩
    rw[if_neg hs,if_neg c3]at fin
    refine⟨fun h=>N6 i7 (fin _ _ _ ?_),fun h=>N6 i7 ⟨h,by omega,fin _ _ _ ?_⟩⟩
    ·rw[if_pos (show(x,f1,l.2.2).1=0 from h)];rfl
    ·rw[if_neg (show ¬ (x,f1,l.2.2).1=0 from h)];rfl
 ·rintro e M' ⟨⟨z5,z6,z7,z8,z9,z10,z11,rfl⟩,rfl⟩
  have hlen:(u6 near bs far y u).length≤(((G7 (g9 near bs far) (g9 near bs far).length).zip (C2 (d8 near bs far) (g9 near bs far).length)).map fun z=>hlD z.1 z.2).length:=by
   rw[c6Q,c8z,a2A,L0,E5]
   unfold u6;rw[c6Q];omega
  rw[c7W hlen]
  walk_at "sim"
  rw[a0y i7,N3 hp]
  exact Y9 (M2:=M) (fun _ _ h=>h) k
theorem a0R(T:Txt K mg)(d:Df K mg "_law_whole_root" G3 ["number"]):Fn P w K mg base "_law_whole_root" 1 ["number"] a6e:=by
 have sc:=a0C
 refine i9 d sc (by walk_at "len") (fun f cdv A outer s H E ds M R Y hr h=>?_)
 have hu:=hr.units
 obtain⟨N,rfl,hn,k⟩:=h
 refine⟨_,(d4 (b04 (i:=1) (j:=2) rfl sc.nd rfl rfl (by decide) rfl rfl (a7 d3 (a7 (f9 F1 (a8 0) d3) a9))) (d4 (a1Z PassesOwn.never (jtm a4J (f9 X7 (a8 2) (a8 1)) d3) (d4 (jst 3 sc.nd (f9 E9 (f9 F1 (a8 1) (a8 2)) d3)) (d5 (f8 (jtm c3H (f9 p5 (a8 3) (a8 3)) (a8 0)) (d5 (jst 1 sc.nd (a8 3))) (d5 (jst 2 sc.nd (a8 3))))))) (d5 (d7 (a8 1))))),?_⟩
 walk_at "sim"
 refine b77 (fun m e M'=>M=M'∧∃(lo hi:Nat) (z3:Option D),m=hi - lo∧e=[some (D.int (N:Int)),some (D.int (lo:Int)),some (D.int (hi:Int)),z3]∧lo*lo≤N∧N<hi*hi∧lo<hi∧hi≤N+1) (N+1) ⟨rfl,0,N+1,_,by omega,rfl,by omega,by rw[c9K,Nat.mul_add];omega,by omega,by omega⟩ ?_
 rintro m e M' ⟨rfl,lo,hi,z3,rfl,rfl,h1,h2,h3,h4⟩
 walk_at "sim"
 have em:((lo:Int)+(hi:Int)).fdiv 2=(((lo+hi) / 2:Nat):Int):=by rw[J4 (by omega) (by decide)];omega
 refine⟨fun h0=>⟨b70,?_⟩,fun h0=>?_⟩
 ·rw[em]
  have hm:(lo+hi) / 2≤N:=by omega
  have hmz:(((lo+hi) / 2:Nat):Int).natAbs<2 ^ 20000:=by rw[c6N];exact c7c hm hn
  have hlm:lo<(lo+hi) / 2:=by omega
  have hmh:(lo+hi) / 2<hi:=by omega
  generalize (lo+hi) / 2=md at *
  refine⟨w6 _ _ hmz hmz (by decide),fun h5=>⟨hi - md,by omega,md,hi,_,rfl,rfl,by exact_mod_cast h5,h2,hmh,h4⟩,fun h5=>⟨md - lo,by omega,lo,md,_,rfl,rfl,h1,?_,hlm,by omega⟩⟩
  have:¬ md*md≤N:=fun z=>h5 (by exact_mod_cast z)
  omega
 ·have:hi=lo+1:=by omega
  subst this
  exact k lo h1 h2
theorem a4D(T:Txt K mg)(d:Df K mg "_law_tight" S7 ["pool","hall","ray"])(c4f:Fn P w K mg base "ratio" 2 ["top","bottom"] V1)(c4a:Fn P w K mg base "_law_next" 1 ["pool","base"] O7)(c4G:Fn P w K mg base "_law_whole_root" 1 ["number"] a6e)(c4k:Fn P w K mg base "hall_lines" 7 ["hall"] M7)(c4y:Fn P w K mg base "less" 1 ["one","other"] a3E)(c5b:Fn P w K mg base "reach" 8 ["hall","ray","p","q"] a1c)(c5c:Fn P w K mg base "kind" 8 ["hall"] a1R):Fn P w K mg base "_law_tight" 9 ["pool","hall","ray"] a9h:=by
 have sc:=a4p
 refine i9 d sc (by walk_at "len") (fun f cdv A outer s H E ds M R Y hr h=>?_)
 have hu:=hr.units
 obtain⟨p,near,bs,far,y,u,rfl,hp,⟨hok,hbl,cd⟩,k⟩:=h
 have hw:=hok.w
 have cL:=hw.cd (d8 near bs far).length
 rw[c7t]at cL
 have zt:sz (trQ (tbQ (d8 near bs far)))≤231:=CD.tr cL
 refine⟨_,(d4 (E4 (i:=3) [] ["k","part"] [] sc.nd rfl (Or.inl rfl) rfl (by decide +kernel) rfl (by decide +kernel) (by decide +kernel) rfl a1E a1E (a1u rfl T.b_enumerate (a7 (jx (a8 1) d3) a9)) (fun _ _ _ _ _ _=>(i8 (n:=2) rfl (d6 (jn 0 (show(["k","part"]:List Str).Nodup by decide +kernel)) (d6 (jn 1 (show(["k","part"]:List Str).Nodup by decide +kernel)) h8)))) (fun _ _ _ _ _ _=>(a10 (jtm u3 (jx (a8 1) d3) g8))) (fun _ _ _ _ _ _=>(a8 0))) (d4 (f8 (C9 (D6 (jtm b0X (jx (jc c5c hr (a7 (a8 1) a9)) d3) g8) (D6 (jtm (y3 hu) (a8 3) (o7 a9)) (C5 (jtm M8 (jc c4a hr (a7 (a8 0) (a7 d3 a9))) d3))))) (d5 (d7 (a8 1))) f7) (d4 (jst 4 sc.nd (jx (a8 3) (jc c4a hr (a7 (a8 0) (a7 (o9 G9 rfl T.b_len C6 (a7 (a8 3) a9)) a9))))) (d4 (jst 5 sc.nd (f6 (a7 d3 (a7 d3 a9)))) (d4 (A7 PassesOwn.never rfl (B4 (Q1 (jc c4k hr (a7 (a8 1) a9)))) (i8 (n:=3) rfl (d6 (jn 6 sc.nd) (d6 (jn 7 sc.nd) (d6 (i8 (n:=3) rfl (d6 (jn 8 sc.nd) (d6 (jn 9 sc.nd) (d6 (jn 10 sc.nd) h8)))) h8)))) (d5 (f8 (C9 (a12 (jtm (y3 hu) (a8 7) (a8 4)) (a0j (p8 (jc c4y hr (a7 (a8 5) (a7 (jc c5b hr (a7 (a8 1) (a7 (a8 2) (a7 (a8 8) (a7 (a8 9) a9))))) a9))))))) (d5 (jst 5 sc.nd (jc c5b hr (a7 (a8 1) (a7 (a8 2) (a7 (a8 8) (a7 (a8 9) a9))))))) f7))) (d4 (jst 11 sc.nd (jx (o7 (a7 d3 (a7 d3 (a7 (f9 a0u d3 d3) (a7 (f9 a0u d3 d3) a9))))) (jc c4a hr (a7 (a8 0) (a7 d3 a9))))) (d4 (jst 12 sc.nd (jc c4G hr (a7 (f9 E9 (f9 p5 (f9 p5 (jx (a8 5) d3) (a8 11)) (a8 11)) (jx (a8 5) d3)) a9))) (d4 (jst 13 sc.nd (o7 (a7 (f6 (a7 g8 (a7 (jc c4f hr (a7 (o9 (b9j rfl) rfl T.b_max b5x (a7 d3 (a7 (f9 F1 (a8 12) (jc c4a hr (a7 (a8 0) (a7 d3 a9)))) a9))) (a7 (a8 11) a9))) a9))) a9))) (d5 (d7 (f6 (a7 (jx (a8 1) d3) (a7 (O0 (O0 (F8 (jx (a8 1) d3) F7 (F6 (a8 4))) (a8 13)) (F8 (jx (a8 1) d3) (F6 (f9 F1 (a8 4) d3)) F7)) (a7 (jx (a8 1) d3) a9)))))))))))))),?_⟩
 walk_at "sim"
 rw[a5K]
 refine U6 (xs:=bs.zipIdx) (fun x=>x.1.1 == Str.ofString "stop") (fun x=>D.int (x.2:Int)) (by rw[c76];omega) (by simp only[p6]) (fun x hx Q N h1 h2=>?_) ?_
 ·walk_at "sim"
  exact⟨fun e=>h1 (by rw[e];exact beq_self_eq_true _),fun e=>h2 (beq_eq_false_iff_ne.mpr e)⟩
 rw[show c9e (fun x:(Str × Rat) × Nat=>x.1.1 == Str.ofString "stop") bs.zipIdx=frW bs from rfl]
 have fl:=b1f bs
 refine⟨hw,fun v hv=>⟨fun _=>k bs M hw (v7.refl hp),fun hturn=>⟨b5r fun x hx=>by obtain⟨z,_,rfl⟩:=c7q.mp hx;rfl,fun _=>k bs M hw (v7.refl hp),fun hne=>⟨hp,by decide,fun r M1 r0 r1 s1=>⟨fun _=>k bs M1 hw s1,fun _=>?_⟩⟩⟩⟩⟩
 obtain⟨t1,t2⟩:-2<trQ (tbQ (d8 near bs far))∧trQ (tbQ (d8 near bs far))<2:=by
  rcases D4 (tbQ (d8 near bs far))with⟨_,e⟩|⟨_,_,e⟩|⟨_,_,c3,e⟩|⟨_,c2,c3,e⟩
  ·rw[e]at hturn;exact absurd hturn (by decide)
  ·rw[e]at hturn;exact absurd hturn (by decide)
  ·exact O3.mp c3
  ·rw[e]at hturn;exact absurd hturn (by decide)
 have hpos:0<(frW bs).length:=by
  cases e:frW bs with
  | nil=>rw[e]at hne;exact absurd rfl hne
  | cons a b=>exact c91 _
 have e1:((frW bs).map fun x=>D.int (x.2:Int)).length=(frW bs).length:=c6Q ..
 walk_at "sim"
 refine⟨s1.pool,by omega,lg9 (by omega),fun r' M2 r0' r1' s2=>L1 r0' r1' fun dd hdd=>?_⟩
 obtain⟨⟨⟨w,q0⟩,at'⟩,hx,rfl⟩:=c7q.mp hdd
 obtain⟨hx1,hx2⟩:=c78.mp hx
 have hat:bs[at']? = some (w,q0):=c7F.mp hx1
 have hws:w=Str.ofString "stop" := by simpa using hx2
 subst hws
 have hal:=(c6P.mp hat).1
 refine⟨hw,fun p1 hp1=>?_⟩
 rw[a0y i7,N3 hp1]
 have z0:sz (0:Rat)≤1:=by rw[RM.K5];decide
 walk_at "sim"
 have st:=s1.trans s2
 refine a0r.by (fun i e M'=>M2=M'∧∃(g:Rat) (z6 z7 z8 z9 z10:Option D),e=[some (D.ref p),some (D.tup [d9 near,D.vl (c8x i0 bs),d9 far]),some (A1 y u),some (D.vl ((frW bs).map fun x=>D.int (x.2:Int))),some (D.int (at':Int)),some (d9 g),z6,z7,z8,z9,z10,none,none,none]∧0≤g∧sz g≤8800∧g.num.natAbs<2 ^ 3500) ⟨rfl,0,_,_,_,_,_,rfl,by decide,by omega,c7S _⟩ (fun i e M' _ _=>by simp only[p6]) ?_ ?_
 ·rintro i dd e M' hd ⟨rfl,g,z6,z7,z8,z9,z10,rfl,g0,gz,gn⟩
  obtain⟨w0,l,rfl,hli,hw0⟩:=b4K hd
  rw[L0,E5]at hli
  have hlm:=c6S hli
  obtain⟨⟨q1,q2⟩,⟨q3,q4⟩,zx,zf⟩:=hw.line cd hlm
  have rn:=b4v hw cd hlm t1 t2
  have rs:=b3P zt zx zf t1 t2
  obtain⟨zz,hzz,_,e2⟩:=b3x hw0
  have c1:cl 60 w0.2=true:=by rw[← e2];exact(a8z hzz 59).2
  unfold hlD o8
  walk_at "sim"
  generalize G8 (trQ (tbQ (d8 near bs far))) (l.1*y+l.2.1*u) (l.1*(g7 (d8 near bs far) (y,u)).1+l.2.1*(g7 (d8 near bs far) (y,u)).2)=rc at *
  refine⟨c1,fun _=>⟨⟨hw,cd,⟨q1,q2⟩,zx,zf,t1,t2⟩,g,rc.num,(rc.den:Int),rfl,⟨by have:=rc.den_pos;omega,by omega,by rw[c6N];exact t9 _ (by omega),u9 _ (by omega)⟩,?_⟩,fun _=>⟨g,_,_,_,_,_,rfl,g0,gz,gn⟩⟩
  rw[c8w]
  walk_at "sim"
  exact⟨fun hlt=>⟨⟨hw,cd,⟨q1,q2⟩,zx,zf,t1,t2⟩,rc,_,_,_,_,_,rfl,by grind,rs,rn⟩,fun _=>⟨g,_,_,_,_,_,rfl,g0,gz,gn⟩⟩
 ·rintro e M' ⟨rfl,g,z6,z7,z8,z9,z10,rfl,g0,gz,gn⟩
  walk_at "sim"
  refine⟨cp6,c3T,s2.pool,by decide,fun r3 M3 a0 a1 s3=>L1 a0 (by show r3<4;exact a1) fun dd hdd=>?_⟩
  obtain⟨sc',rfl,sc0,sc1⟩:∃ sc':Nat,dd = .int (sc':Int)∧0<sc'∧sc'<2 ^ 30:=by
   simp only[c7h,c7p,or_false]at hdd
   rcases hdd with rfl|rfl|rfl|rfl
   ·exact⟨10,rfl,by decide,by decide⟩
   ·exact⟨1000,rfl,by decide,by decide⟩
   ·exact⟨1000000,by rfl,by decide,by decide⟩
   ·exact⟨1000000000,by rfl,by decide,by decide⟩
  obtain⟨G,hG⟩:∃ G:Nat,g.num=(G:Int):=⟨g.num.toNat,by have:=Rat.num_nonneg.mpr g0;omega⟩
  rw[hG]at gn ⊢
  rw[c6N]at gn
  have gd:=t9 g gz
  have gdp:=g.den_pos
  have eN:((G:Int)*(sc':Int)*(sc':Int)).fdiv (g.den:Int)=((G*sc'*sc' / g.den:Nat):Int):=by
   rw[J4 (by exact_mod_cast c7L _) (by omega)];norm_cast
  have b1:G*sc'<2 ^ (3500+30):=j8 gn sc1
  have b2:G*sc'*sc'<2 ^ (3500+30+30):=j8 b1 sc1
  have bN:G*sc'*sc' / g.den<2 ^ 3560:=c7c (c8U _ _) b2
  walk_at "sim"
  rw[eN]
  generalize G*sc'*sc' / g.den=N at *
  walk_at "sim"
  have hs:1000≤sizeLine:=by decide
  have scn:(sc':Int).natAbs<2 ^ 30:=by rw[c6N];exact sc1
  refine⟨w6 3500 30 (by rw[c6N];exact gn) scn (by decide),w6 3530 30 (by rw[← c8c,c6N];exact b1) scn (by decide),⟨by omega,by rw[c6N];exact c6R (F0 gd (by decide)) (by decide)⟩,c6R bN (c7f (by decide) (by decide)),fun a a1 a2=>⟨s3.pool,by decide,fun r4 M4 c0 c1 s4=>⟨by omega,c6R (F0 scn (by decide)) (by decide),?_⟩⟩⟩
  have ab:a<2 ^ 1780:=by
   apply c68
   intro hn
   have hn:2 ^ 1780≤a:=Nat.le_of_not_lt hn
   have:=c8g hn hn
   rw[← c9c]at this
   exact absurd (c7c (c6V this a1) bN) (c7Z _)
  have tz:(max 1 ((a:Int)+r4)).natAbs<2 ^ 1781:=by
   have p1:2 ^ 1≤2 ^ 1780:=c7f (by decide) (by decide)
   rw[show 2 ^ 1781=2 ^ 1780*2 from c81 2 1780]
   generalize 2 ^ 1780=W at *
   omega
  have qz:sz (c7u (max 1 ((a:Int)+r4)) (sc':Int))≤3000:=c6V (a3H (k:=1781) (by decide) tz (by omega) (c6R scn (c7f (by decide) (by decide)))) (by decide)
  have q0':0<c7u (max 1 ((a:Int)+r4)) (sc':Int):=a9w (by omega) (by omega)
  have hset:=hok.set hat q0' qz
  generalize c7u (max 1 ((a:Int)+r4)) (sc':Int)=qn at *
  have cs:=b5o hal (Str.ofString "stop",qn)
  have cs:DL.Y4 (c8x i0 bs) none (some (at':Int))++[D.tup [D.str (Str.ofString "stop"),d9 qn]]++DL.Y4 (c8x i0 bs) (some ((at':Int)+1)) none=(bs.set at' (Str.ofString "stop",qn)).map i0:=cs
  have ln:=congrArg c9D cs
  rw[c7l,c6Q,c9s]at ln
  have l0:(DL.Y4 (c8x i0 bs) none (some (at':Int))).length≤bs.length:=by rw[b5n,c7P,c6Q];omega
  refine⟨c6V (by omega) hs,c6V (by omega) hs,?_⟩
  rw[cs]
  exact k _ _ hset ((st.trans s3).trans s4)
theorem a4H(T:Txt K mg)(d:Df K mg "_law_along" T0 ["hall","other"])(c4l:Fn P w K mg base "minus" 4 ["one","other"] K6)(c4D:Fn P w K mg base "over" 3 ["one","other"] a0A)(c5c:Fn P w K mg base "kind" 8 ["hall"] a1R)(c4e:Fn P w K mg base "round_of" 7 ["hall"] a0t):Fn P w K mg base "_law_along" 9 ["hall","other"] a6z:=by
 have sc:=a4s
 refine i9 d sc (by walk_at "len") (fun f cdv A outer s H E ds M R Y hr h=>?_)
 have hu:=hr.units
 obtain⟨near,bs,far,b,rfl,hok,k⟩:=h
 have cL:=hok.cd (d8 near bs far).length
 rw[c7t]at cL
 have zt:sz (trQ (tbQ (d8 near bs far)))≤231:=CD.tr cL
 refine⟨_,(d4 (p7 (jc c4e hr (a7 (a8 0) a9)) (i8 (n:=4) rfl (d6 (jn 2 sc.nd) (d6 (jn 3 sc.nd) (d6 (jn 4 sc.nd) (d6 (jn 5 sc.nd) h8)))))) (d4 (jst 6 sc.nd (jc c5c hr (a7 (a8 0) a9))) (d4 (jst 7 sc.nd (f6 (a7 d3 (a7 d3 a9)))) (Q7 (f8 (jtm a0T (f9 F1 (f9 p5 (jx (a8 2) d3) (jx (a8 5) d3)) (f9 p5 (jx (a8 5) d3) (jx (a8 2) d3))) d3) (d5 (jst 7 sc.nd (f6 (a7 (A3 d3) (a7 d3 a9))))) f7) (Q7 (f8 (C9 (a12 (jtm u3 (jx (a8 6) d3) g8) (a0j (jtm a6Q (jx (a8 6) d3) M9)))) (d4 (jst 7 sc.nd (jx (a8 6) d3)) (d5 (f8 (p8 (a8 1)) (d5 (jst 7 sc.nd (jc c4D hr (a7 (f6 (a7 d3 (a7 d3 a9))) (a7 (a8 7) a9))))) f7))) f7) (d4 (jst 8 sc.nd (f6 (a7 (a8 3) (a7 (jc c4l hr (a7 (a8 7) (a7 (a8 2) a9))) a9)))) (Q7 (f8 (jtm (y3 hu) (a8 8) (f6 (a7 (f6 (a7 d3 (a7 d3 a9))) (a7 (f6 (a7 d3 (a7 d3 a9))) a9)))) (d5 (jst 8 sc.nd (f6 (a7 (jc c4l hr (a7 (a8 5) (a7 (a8 7) a9))) (a7 (jc c4l hr (a7 (f6 (a7 d3 (a7 d3 a9))) (a7 (a8 4) a9))) a9))))) f7) (d5 (d7 (a8 8)))))))))),?_⟩
 walk_at "sim"
 refine⟨hok.w,?_⟩
 generalize hm:tbQ (d8 near bs far)=m at *
 obtain⟨a,b',c,d'⟩:=m
 have t4:=CD.t4 cL
 have za:sz a≤230:=t4.a
 have zb:sz b'≤230:=t4.b
 have zc:sz c≤230:=t4.c
 have zd:sz d'≤230:=t4.d
 rw[show E7 (a,b',c,d')=a1I a b' c d' from rfl]
 walk_at "sim"
 rw[hm]
 refine⟨hok.w,fun v hv=>?_⟩
 refine a4a (fun e' M'=>M=M'∧∃ q:Rat,e'=[some (D.tup [d9 near,D.vl (c8x i0 bs),d9 far]),some (D.bl b),some (d9 a),some (d9 b'),some (d9 c),some (d9 d'),some (D.tup [D.str (kwS (a,b',c,d')),v]),some (d9 q),none]∧sz q≤232) ?_ ?_
 ·walk_at "sim"
  exact⟨mND (q:=a) (r:=d') (by omega),mND (q:=d') (r:=a) (by omega),fun _=>⟨-1,rfl,by rw[RM.O6,RM.O5];decide⟩,fun _=>⟨1,rfl,by rw[RM.O5];decide⟩⟩
 ·rintro e' M' ⟨rfl,q,rfl,hq⟩
  refine a4a (fun e' M'=>M=M'∧∃ q:Rat,e'=[some (D.tup [d9 near,D.vl (c8x i0 bs),d9 far]),some (D.bl b),some (d9 a),some (d9 b'),some (d9 c),some (d9 d'),some (D.tup [D.str (kwS (a,b',c,d')),v]),some (d9 q),none]∧sz q≤232) ?_ ?_
  ·walk_at "sim"
   refine⟨fun hoff=>?_,fun _=>⟨q,rfl,hq⟩⟩
   obtain⟨c1,c2⟩:¬ e9 (trQ (a,b',c,d'))<2∧¬ e9 (trQ (a,b',c,d'))=2:=by
    rcases D4 (a,b',c,d')with⟨_,e⟩|⟨_,_,e⟩|⟨_,_,_,e⟩|⟨_,c2,c3,e⟩
    ·rw[e]at hoff;exact absurd hoff (by decide)
    ·rw[e]at hoff;exact absurd hoff (by decide)
    ·rw[e]at hoff;exact absurd hoff (by decide)
    ·exact⟨c3,c2⟩
   have hsh:b1s (trQ (a,b',c,d')) v:=by
    rcases hv with⟨e,_⟩|⟨e,_⟩|⟨e,_⟩|⟨_,h⟩
    ·rw[e]at hoff;exact absurd hoff (by decide)
    ·rw[e]at hoff;exact absurd hoff (by decide)
    ·rw[e]at hoff;exact absurd hoff (by decide)
    ·exact h
   have hv2:(∃ x:Rat,v=d9 x)∨v = .non:=by
    rcases hsh with⟨r,_,_,e⟩|⟨_,e⟩
    ·exact .inl ⟨_,e⟩
    ·exact .inr e
   rcases hv2 with⟨x,rfl⟩|rfl
   ·obtain⟨x0,xz⟩:=b9L c1 c2 hsh
    have xi:=RM.R4 1 x x0
    have s1:sz (1:Rat)=1:=RM.O5
    rw[a4d rfl]
    walk_at "sim"
    exact⟨fun _=>⟨x0,by omega,_,rfl,by omega⟩,fun _=>⟨_,rfl,by omega⟩⟩
   ·rw[a4d rfl]
    walk_at "sim"
    exact⟨q,rfl,hq⟩
  ·rintro e' M' ⟨rfl,q,rfl,hq⟩
   walk_at "sim"
   have z1:=RM.R3 q a
   have z2:=RM.R3 d' q
   have z3:=RM.R3 0 c
   have s0:sz (0:Rat)≤1:=by rw[RM.K5];decide
   refine⟨by omega,?_⟩
   refine a4a (fun e' M'=>M=M'∧∃(y u:Rat) (z0 z1 z2 z3 z4 z5 z6 z7:Option D),e'=[z0,z1,z2,z3,z4,z5,z6,z7,some (A1 y u)]∧(sz y≤463∧sz u≤463∧sz y+sz u≤700)) ?_ ?_
   ·walk_at "sim"
    exact⟨fun _=>⟨by omega,by omega,d' - q,0 - c,_,_,_,_,_,_,_,_,rfl,by omega,by omega,by omega⟩,fun _=>⟨b',q - a,_,_,_,_,_,_,_,_,rfl,by omega,by omega,by omega⟩⟩
   ·rintro e' M' ⟨rfl,y,u,z0,z1,z2,z3,z4,z5,z6,z7,rfl,hz⟩
    walk_at "sim"
    exact k y u hz
theorem a1W(T:Txt K mg)(d:Df K mg "_law_ratio" K7 ["pool","tops","bottoms"])(c4f:Fn P w K mg base "ratio" 2 ["top","bottom"] V1)(c4a:Fn P w K mg base "_law_next" 1 ["pool","base"] O7):Fn P w K mg base "_law_ratio" 3 ["pool","tops","bottoms"] a9l:=by
 have sc:=a0s
 refine i9 d sc (by walk_at "len") (fun f cdv A outer s H E ds M R Y hr h=>?_)
 have hu:=hr.units
 obtain⟨p,x,y,rfl,hp,ts,bs,P,rfl,rfl,⟨⟨t0,t1⟩,⟨b0,b1⟩,hb,hP⟩,k⟩:=h
 refine⟨_,(d5 (d7 (jc c4f hr (a7 (jx (a8 1) (jc c4a hr (a7 (a8 0) (a7 (o9 G9 rfl T.b_len C6 (a7 (a8 1) a9)) a9)))) (a7 (jx (a8 2) (jc c4a hr (a7 (a8 0) (a7 (o9 G9 rfl T.b_len C6 (a7 (a8 2) a9)) a9)))) a9))))),?_⟩
 walk_at "sim"
 have e1:(ts.map D.int).length=ts.length:=c6Q ..
 have e2:(bs.map D.int).length=bs.length:=c6Q ..
 refine⟨hp,by omega,lg9 (by omega),fun r M1 r0 r1 s1=>L1 r0 r1 fun d hd=>⟨s1.pool,by omega,lg9 (by omega),fun r' M2 r0' r1' s2=>L1 r0' r1' fun d' hd'=>?_⟩⟩
 obtain⟨t,ht,rfl⟩:=c7q.mp hd
 obtain⟨b,hb',rfl⟩:=c7q.mp hd'
 have hb2:=hb b hb'
 exact⟨_,_,rfl,by omega,c6R (F0 hb2.2 (by decide)) (by decide),k _ _ (hP t ht b hb') (s1.trans s2)⟩
theorem a8q(T:Txt K mg)(d:Df K mg "_law_ray" a0M ["pool","hall"])(c4p:Fn P w K mg base "_law_scaled" 4 ["ray","factor"] a2G)(c4q:Fn P w K mg base "plus" 3 ["one","other"] R5)(c4a:Fn P w K mg base "_law_next" 1 ["pool","base"] O7)(c4P:Fn P w K mg base "_law_along" 9 ["hall","other"] a6z)(c4N:Fn P w K mg base "_law_ratio" 3 ["pool","tops","bottoms"] a9l)(c4c:Fn P w K mg base "_law_ratio" 3 ["pool","tops","bottoms"] a3D):Fn P w K mg base "_law_ray" 10 ["pool","hall"] b3H:=by
 have sc:=a78
 refine i9 d sc (by walk_at "len") (fun f cdv A outer s H E ds M R Y hr h=>?_)
 have hu:=hr.units
 obtain⟨p,near,bs,far,rfl,hp,hok,k⟩:=h
 have e18:(10:Int) ^ c9Q 18=1000000000000000000:=by decide
 have e20:(10:Int) ^ c9Q 20=100000000000000000000:=by decide
 have e25:(10:Int) ^ c9Q 25=10000000000000000000000000:=by decide
 have e40:(10:Int) ^ c9Q 40=10000000000000000000000000000000000000000:=by decide
 refine⟨_,(d4 (jst 2 sc.nd (jc c4a hr (a7 (a8 0) (a7 d3 a9)))) (d4 (jst 3 sc.nd (f6 (a7 (jc c4c hr (a7 (a8 0) (a7 (o7 (a7 d3 (a7 d3 (a7 (A3 d3) (a7 d3 (a7 (A3 d3) (a7 d3 (a7 d3 a9)))))))) (a7 (o7 (a7 d3 (a7 d3 (a7 d3 (a7 d3 a9))))) a9)))) (a7 (jc c4c hr (a7 (a8 0) (a7 (o7 (a7 d3 (a7 d3 (a7 d3 (a7 (A3 d3) (a7 d3 (a7 (A3 d3) a9))))))) (a7 (o7 (a7 d3 (a7 d3 (a7 d3 a9)))) a9)))) a9)))) (d4 (jst 4 sc.nd (jc c4N hr (a7 (a8 0) (a7 (o7 (a7 d3 (a7 (A3 d3) (a7 d3 (a7 d3 (a7 d3 (a7 d3 a9))))))) (a7 (o7 (a7 d3 (a7 d3 (a7 d3 (a7 d3 (a7 d3 (a7 d3 (a7 (f9 a0u d3 d3) (a7 (f9 a0u d3 d3) a9))))))))) a9))))) (d4 (f8 (jtm M8 (a8 2) d3) (d5 (d7 (f6 (a7 (f6 (a7 d3 (a7 d3 a9))) (a7 (f6 (a7 d3 (a7 d3 a9))) a9))))) f7) (d4 (f8 (jtm a0T (a8 2) d3) (d5 (d7 (jc c4p hr (a7 (jc c4P hr (a7 (a8 1) (a7 (jm M8 (a8 2) d3) a9))) (a7 (a8 4) a9))))) f7) (d4 (f8 (jtm a0T (a8 2) d3) (d4 (jst 5 sc.nd (jc c4P hr (a7 (a8 1) (a7 B1 a9)))) (d4 (jst 6 sc.nd (jc c4p hr (a7 (a8 3) (a7 (f6 (a7 d3 (a7 (jx (o7 (a7 (f9 a0u d3 d3) (a7 (f9 a0u d3 d3) (a7 (f9 a0u d3 d3) a9)))) (jc c4a hr (a7 (a8 0) (a7 d3 a9)))) a9))) a9)))) (d5 (d7 (f6 (a7 (jc c4q hr (a7 (jx (a8 5) d3) (a7 (jx (a8 6) d3) a9))) (a7 (jc c4q hr (a7 (jx (a8 5) d3) (a7 (jx (a8 6) d3) a9))) a9))))))) f7) (d5 (d7 (jc c4p hr (a7 (a8 3) (a7 (a8 4) a9))))))))))),?_⟩
 walk_at "sim"
 refine⟨hp,by decide,fun r M1 r0 r1 s1=>⟨s1.pool,[0,1,-1,2,-3,5,9],[1,1,2,3],fun q=>sz q≤4,rfl,rfl,⟨by decide,by decide,by decide,a0l (by decide) (by decide) (by decide)⟩,fun q M2 hq s2=>⟨s2.pool,[0,0,1,-1,2,-4],[1,2,3],fun q=>sz q≤4,rfl,rfl,⟨by decide,by decide,by decide,a0l (by decide) (by decide) (by decide)⟩,fun q1 M3 hq1 s3=>⟨c2X,b9h,?_⟩⟩⟩⟩
 rw[e20,e40]
 refine⟨s3.pool,[1,-1,2,1,3,1],[1,1,2,3,10,1000,100000000000000000000,10000000000000000000000000000000000000000],fun q=>sz q≤133,rfl,rfl,⟨by decide,by decide,by decide,a0l (by decide) (by decide) (by decide)⟩,fun g M4 hg s4=>?_⟩
 have st:=((s1.trans s2).trans s3).trans s4
 have z0:sz (0:Rat)≤1:=by rw[RM.K5];decide
 have scale:∀ y u:Rat,sz y≤463∧sz u≤463∧sz y+sz u≤700→(sz y+sz g≤8900∧sz u+sz g≤8900)∧R (A1 (y*g) (u*g)) M4:=fun y u h=>by
  have m1:=RM.y9 y g
  have m2:=RM.y9 u g
  exact⟨⟨by omega,by omega⟩,k _ _ _ ((CD.ray2 (k:=sz y+133) (l:=sz u+133) (by omega) (by omega)).mono (by omega)) st⟩
 refine⟨fun _=>k 0 0 _ ((CD.ray2 (k:=1) (l:=1) z0 z0).mono (by decide)) st,fun _=>⟨fun _=>⟨hok,fun y u h=>by first|exact scale y u h|exact⟨y,u,g,rfl,scale y u h⟩⟩,fun _=>⟨fun _=>⟨hok,fun y u hyu=>⟨c0S,c2W,b9h,st.pool,by decide,fun v M5 v0 v1 s5=>?_⟩⟩,fun _=>scale q q1 ⟨by omega,by omega,by omega⟩⟩⟩⟩
 refine L1 v0 (by show v<3;exact v1) fun dd hdd=>?_
 obtain⟨N,rfl,N0,N1⟩:∃ N:Nat,dd = .int (N:Int)∧0<N∧N<2 ^ 133:=by
  rw[e18,e25]at hdd
  simp only[c7h,c7p,or_false]at hdd
  rcases hdd with rfl|rfl|rfl
  ·exact⟨1000000000000000000,rfl,by decide,by decide⟩
  ·exact⟨10000000000000000000000000,rfl,by decide,by decide⟩
  ·exact⟨10000000000000000000000000000000000000000,rfl,by decide,by decide⟩
 obtain⟨h,he,hz⟩:=b4l N0 N1
 rw[he]
 have m1:=RM.y9 q h
 have m2:=RM.y9 q1 h
 have a1:=RM.a3k y (q*h)
 have a2:=RM.a3k u (q1*h)
 walk_at "sim"
 exact⟨⟨by omega,by omega⟩,by omega,by omega,k _ _ _ ((CD.ray2 (k:=sz y+140) (l:=sz u+140) (by omega) (by omega)).mono (by omega)) (st.trans s5)⟩
theorem a4E(T:Txt K mg)(d:Df K mg "_law_stops" S8 ["pool","parts","count"])(c4a:Fn P w K mg base "_law_next" 1 ["pool","base"] O7)(c4c:Fn P w K mg base "_law_ratio" 3 ["pool","tops","bottoms"] a3D):Fn P w K mg base "_law_stops" 4 ["pool","parts","count"] a2N:=by
 have sc:=a4q
 refine i9 d sc (by walk_at "len") (fun f cdv A outer s H E ds M R Y hr h=>?_)
 have hu:=hr.units
 obtain⟨p,x,n,rfl,hp,bs,rfl,⟨n0,n1,hl⟩,k⟩:=h
 refine⟨_,(d4 (jst 3 sc.nd (b06 b5w rfl T.b_list a2R (a7 (a8 1) a9))) (d4 (A7 PassesOwn.never rfl (a1t rfl T.b_range (a7 (jc c4a hr (a7 (a8 0) (a7 (f9 F1 (a8 2) d3) a9))) a9)) (jn 4 sc.nd) (d4 (jst 5 sc.nd (jc c4c hr (a7 (a8 0) (a7 (o7 (a7 d3 (a7 d3 (a7 d3 (a7 d3 (a7 d3 (a7 d3 (a7 d3 (a7 d3 (a7 d3 a9)))))))))) (a7 (o7 (a7 d3 (a7 d3 (a7 d3 (a7 d3 a9))))) a9))))) (d5 (D5 (X9 PySem.F.slot_list_insert PySem.F.type_list_insert b2e (a8 3) (a7 (jc c4a hr (a7 (a8 0) (a7 (f9 F1 (o9 G9 rfl T.b_len C6 (a7 (a8 3) a9)) d3) a9))) (a7 (f6 (a7 g8 (a7 (a8 5) a9))) a9))))))) (d5 (d7 (Y1 (Q1 (a8 3))))))),?_⟩
 walk_at "sim"
 refine⟨_,bs.map i0,rfl,by simp only[p6],fun l hN=>?_⟩
 have hlp:l≠p:=fun e=>by obtain⟨_,_,_,hq⟩:=hp;rw[e,hq]at hN;cases hN
 have s0:v7 p M (C1 M l (.lst (bs.map i0))):=(v7.refl hp).put hN hlp
 refine⟨s0.pool,by omega,lg9 (by omega),fun r M1 r0 r1 s1=>⟨by omega,?_⟩⟩
 refine a0r.by (fun i e M'=>∃(cs:List (Str × Rat)) (z4 z5:Option D),e=[some (.ref p),some (.vl (bs.map i0)),some (.int n),some (.ref l),z4,z5]∧M' l=some (.lst (cs.map i0))∧v7 p M M'∧cs.length=bs.length+i∧cs.filter N4=bs.filter N4∧(∀ x∈cs,x∈bs∨(x.1 = "stop" ∧ 0<x.2∧sz x.2≤10))) ?_ (fun _ _ _ _ _=>trivial) ?_ ?_
 ·exact⟨bs,_,_,rfl,s1.keep l _ hlp i7,s0.trans s1,rfl,rfl,fun x hx=>.inl hx⟩
 ·rintro i dd e M' hd ⟨cs,z4,z5,rfl,hM,st,hc,hf,hm⟩
  have hi:=(c6P.mp hd).1
  rw[q9]at hi
  walk_at "sim"
  refine⟨st.pool,[1,2,3,4,5,7,12,40,1000],[1,1,2,3],fun q=>0<q∧sz q≤10,rfl,rfl,⟨by decide,by decide,by decide,b1a (by decide) (by decide) (by decide)⟩,?_⟩
  rintro q M2 ⟨q0,q1⟩ s2
  have hM2:=s2.keep l _ hlp hM
  refine N6 hM2 ?_
  rw[a7L (b4x hM2),c6Q]
  walk_at "sim"
  refine⟨s2.pool,by omega,lg9 (by omega),fun j M3 j0 j1 s3=>?_⟩
  have hM3:=s3.keep l _ hlp hM2
  obtain⟨jn,rfl⟩:=Int.eq_ofNat_of_zero_le j0
  refine c07 hM3 (by rw[c6Q];omega) (by rw[c6Q];omega) ⟨cs.take jn++(Str.ofString "stop",q) :: cs.drop jn,some dd,some (d9 q),rfl,?_,((st.trans s2).trans s3).put hN hlp,?_,?_,?_⟩
  ·rw[i7,c7d,c7I,c9g,List.map_drop]
   rfl
  ·rw[c7l,c7A,c7P,c8e];omega
  ·rw[c7H,c7Y,show N4 (Str.ofString "stop",q)=false from rfl,← hf]
   show _++c9e N4 (cs.drop jn)=_
   rw[← c7H,c8E]
  ·intro x hx
   rcases c7i.mp hx with hx|hx
   ·exact hm x (c8O hx)
   ·rcases c7h.mp hx with rfl|hx
    ·exact .inr ⟨rfl,q0,q1⟩
    ·exact hm x (List.mem_of_mem_drop hx)
 ·rintro e M' ⟨cs,z4,z5,rfl,hM,st,hc,hf,hm⟩
  rw[q9]at hc
  walk_at "sim"
  refine⟨l,_,rfl,hM,?_⟩
  exact Y9 (M2:=a0Y M' l) (fun _ _ h=>h) (k cs _ (by omega) hf hm (st.del hN hlp))
theorem a3T(T:Txt K mg)(d:Df K mg "_law_pieces" P9 ["pool","gap"])(c4l:Fn P w K mg base "minus" 4 ["one","other"] K6)(c4f:Fn P w K mg base "ratio" 2 ["top","bottom"] V1)(c4a:Fn P w K mg base "_law_next" 1 ["pool","base"] O7):Fn P w K mg base "_law_pieces" 5 ["pool","gap"] a6p:=by
 have sc:=a3y
 refine i9 d sc (by walk_at "len") (fun f cdv A outer s H E ds M R Y hr h=>?_)
 have hu:=hr.units
 obtain⟨p,G,rfl,hp,⟨g0,g1⟩,k⟩:=h
 refine⟨_,(d4 (jst 2 sc.nd (f9 F1 d3 (jc c4a hr (a7 (a8 0) (a7 d3 a9))))) (d4 (jst 3 sc.nd (a11 a9)) (d4 (A7 PassesOwn.never rfl (a1t rfl T.b_range (a7 (f9 X7 (a8 2) d3) a9)) (jn 4 sc.nd) (d4 (jst 5 sc.nd (jc c4f hr (a7 (jx (a8 1) d3) (a7 (f9 p5 (jx (a8 1) d3) (f9 F1 d3 (jc c4a hr (a7 (a8 0) (a7 d3 a9))))) a9)))) (d4 (D5 (X9 PySem.F.slot_list_append PySem.F.type_list_append C4 (a8 3) (a7 (f6 (a7 g8 (a7 (a8 5) a9))) a9))) (d5 (jst 1 sc.nd (jc c4l hr (a7 (a8 1) (a7 (a8 5) a9)))))))) (d5 (d7 (Y1 (O0 (Q1 (a8 3)) (o7 (a7 (f6 (a7 g8 (a7 (a8 1) a9))) a9))))))))),?_⟩
 walk_at "sim"
 refine⟨hp,lg9 (by decide),fun r M1 r0 r1 s1 l hl=>⟨by omega,?_⟩⟩
 have hlp:l≠p:=fun e=>by obtain⟨_,_,_,hq⟩:=s1.pool;rw[e,hq]at hl;cases hl
 refine a0r.by (fun i e M'=>∃(qs:List Rat) (c:Rat) (z4 z5:Option D),e=[some (.ref p),some (d9 (G*c)),some (.int (1+r)),some (.ref l),z4,z5]∧M' l=some (.lst ((qs.map fun q=>(Str.ofString "gap",G*q)).map i0))∧v7 p M1 M'∧qs.length=i∧(∀ q∈qs,0≤q∧sz q≤5)∧0<c∧sz c≤1+2*i) ?_ (fun _ _ _ _ _=>trivial) ?_ ?_
 ·exact⟨[],1,_,_,by rw[show G*1=G by grind],i7,(v7.refl s1.pool).put hl hlp,rfl,fun q hq=>(by cases hq),by decide,by rw[RM.O5];omega⟩
 ·rintro i dd e M' hd ⟨qs,c,z4,z5,rfl,hM,st,hq,hqs,hc,hcz⟩
  have hi:=(c6P.mp hd).1
  rw[q9]at hi
  have zg:=RM.y9 G c
  walk_at "sim"
  refine⟨st.pool,lg9 (by decide),fun m M2 m0 m1 s2=>?_⟩
  rw[b7X (G*c) (2+m)]
  obtain⟨z1,z2,p1,p2⟩:=c3B (m:=2+m) (by omega) (by omega)
  have hm0:((2+m:Int):Rat)≠0:=fun z=>by rw[z]at p1;exact absurd p1 (by decide +kernel)
  have dp:=(G*c).den_pos
  have dl:=J3 (G*c)
  have zd:=RM.R4 (G*c) ((2+m:Int):Rat) hm0
  have zc:=RM.R4 c ((2+m:Int):Rat) hm0
  have zr:=RM.y9 c (1 - 1 / ((2+m:Int):Rat))
  have hM2:M2 l=_:=s2.keep l _ hlp hM
  refine⟨c2p (by omega) (by omega),c7Q (by omega) (by omega),?_,N6 hM2 (a17 hM2 (by rw[c6Q,c6Q];omega) ⟨by omega,qs++[c / ((2+m:Int):Rat)],c*(1 - 1 / ((2+m:Int):Rat)),some dd,some (d9 (G*c / ((2+m:Int):Rat))),?_,?_,?_,?_,?_,?_,by omega⟩)⟩
  ·have h1:((G*c).den*(2+m.toNat))<2 ^ (sz (G*c)+3):=j8 dl (by omega)
   have e:(((G*c).den:Int)*(2+m)).natAbs=(G*c).den*(2+m.toNat):=by
    rw[c7n,c6N];congr 1;omega
   rw[e]
   exact F0 (c6R h1 (c7f (by decide) (by omega))) (by decide)
  ·rw[show G*c - G*c / ((2+m:Int):Rat)=G*(c*(1 - 1 / ((2+m:Int):Rat)))by grind]
  ·rw[i7,c7d,c7d,show G*c / ((2+m:Int):Rat)=G*(c / ((2+m:Int):Rat))by grind]
   rfl
  ·exact(st.trans s2).put hl hlp
  ·rw[c7l];show qs.length+1=_;omega
  ·intro q hq'
   rcases c7i.mp hq' with hq'|hq'
   ·exact hqs q hq'
   ·rw[c7a.mp hq']
    exact⟨by rw[show c / ((2+m:Int):Rat)=c*(1 / ((2+m:Int):Rat))by grind];exact c9w (c7J hc p1),by omega⟩
  ·exact c7J hc p2
 ·rintro e M' ⟨qs,c,z4,z5,rfl,hM,st,hq,hqs,hc,hcz⟩
  rw[q9]at hq hcz
  walk_at "sim"
  refine⟨l,_,rfl,hM,?_⟩
  show b1e _ _ _ _
  walk_at "sim"
  have hl0:M l=none:=by
   cases e:M l with
   | none=>rfl
   | some o=>rw[s1.keep l o hlp e]at hl;cases hl
  have hs:1000≤sizeLine:=by decide
  refine⟨by rw[c6Q,c6Q];omega,Y9 (M2:=a0Y M' l) (fun _ _ h=>h) ?_⟩
  have k2:=k (qs++[c]) (a0Y M' l) (by rw[c7l];show qs.length+1≤3;omega) (fun q hq'=>by
   rcases c7i.mp hq' with hq'|hq'
   ·exact hqs q hq'
   ·rw[c7a.mp hq'];exact⟨c9w hc,by omega⟩) ((s1.trans st).del hl0 hlp)
  rw[c7d,c7d]at k2
  exact k2
theorem a0S(T:Txt K mg)(d:Df K mg "_law_known_hall" G4 ["pool"])(c4f:Fn P w K mg base "ratio" 2 ["top","bottom"] V1)(c4x:Fn P w K mg base "_law_stops" 4 ["pool","parts","count"] a2N)(c4S:Fn P w K mg base "_law_pieces" 5 ["pool","gap"] a6p)(c4c:Fn P w K mg base "_law_ratio" 3 ["pool","tops","bottoms"] a3D)(c4a:Fn P w K mg base "_law_next" 1 ["pool","base"] O7):Fn P w K mg base "_law_known_hall" 6 ["pool"] a79:=by
 have sc:=a0D
 refine i9 d sc (by walk_at "len") (fun f cdv A outer s H E ds M R Y hr h=>?_)
 have hu:=hr.units
 obtain⟨p,rfl,hp,k⟩:=h
 refine⟨_,(d4 (jst 1 sc.nd (o7 (a7 (f6 (a7 d3 (a7 d3 a9))) (a7 (f6 (a7 d3 (a7 d3 a9))) (a7 (f6 (a7 d3 (a7 (A3 d3) a9))) (a7 (f6 (a7 d3 (a7 d3 a9))) (a7 (f6 (a7 d3 (a7 d3 a9))) (a7 (f6 (a7 d3 (a7 d3 a9))) (a7 (f6 (a7 d3 (a7 d3 a9))) (a7 (f6 (a7 d3 (a7 d3 a9))) (a7 (f6 (a7 d3 (a7 d3 a9))) (a7 (f6 (a7 d3 (a7 d3 a9))) (a7 (f6 (a7 d3 (a7 d3 a9))) (a7 (f6 (a7 d3 (a7 d3 a9))) a9)))))))))))))) (d4 (p7 (jx (a8 1) (jc c4a hr (a7 (a8 0) (a7 d3 a9)))) (i8 (n:=2) rfl (d6 (jn 2 sc.nd) (d6 (jn 3 sc.nd) h8)))) (d4 (jst 4 sc.nd (f6 (a7 d3 (a7 d3 a9)))) (Q7 (f8 (jtm M8 (jc c4a hr (a7 (a8 0) (a7 d3 a9))) d3) (d4 (jst 5 sc.nd (o7 (a7 (f6 (a7 d3 (a7 d3 a9))) (a7 (f6 (a7 d3 (a7 d3 a9))) (a7 (f6 (a7 (A3 d3) (a7 (A3 d3) a9))) (a7 (f6 (a7 d3 (a7 d3 a9))) (a7 (f6 (a7 d3 (a7 d3 a9))) (a7 (f6 (a7 d3 (a7 (A3 d3) a9))) (a7 (f6 (a7 d3 (a7 d3 a9))) (a7 (f6 (a7 d3 (a7 d3 a9))) (a7 (f6 (a7 d3 (a7 d3 a9))) (a7 (f6 (a7 d3 (a7 d3 a9))) (a7 (f6 (a7 d3 (a7 d3 a9))) (a7 (f6 (a7 d3 (a7 (A3 d3) a9))) a9)))))))))))))) (d4 (p7 (jx (a8 5) (jc c4a hr (a7 (a8 0) (a7 d3 a9)))) (i8 (n:=2) rfl (d6 (jn 2 sc.nd) (d6 (jn 3 sc.nd) h8)))) (d5 (jst 4 sc.nd (f6 (a7 d3 (a7 d3 a9))))))) f7) (d4 (jst 6 sc.nd (jc c4c hr (a7 (a8 0) (a7 (o7 (a7 d3 (a7 d3 (a7 d3 (a7 d3 (a7 d3 (a7 d3 (a7 d3 (a7 d3 (a7 (f9 a0u d3 d3) a9)))))))))) (a7 (o7 (a7 d3 (a7 d3 (a7 d3 (a7 d3 a9))))) a9))))) (d4 (jst 7 sc.nd (jc c4x hr (a7 (a8 0) (a7 (jc c4S hr (a7 (a8 0) (a7 (a8 6) a9))) (a7 d3 a9))))) (d4 (jst 8 sc.nd (jc c4f hr (a7 (f9 p5 (a8 2) (jx (a8 6) d3)) (a7 (f9 p5 (jx (a8 4) d3) (jx (a8 6) d3)) a9)))) (d5 (d7 (f6 (a7 (a8 8) (a7 (a8 7) (a7 (jc c4f hr (a7 (f9 p5 (a8 3) (jx (a8 6) d3)) (a7 (f9 p5 (jx (a8 4) d3) (jx (a8 6) d3)) a9))) a9))))))))))))),?_⟩
 walk_at "sim"
 refine⟨hp,lg9 (by decide),fun r M1 r0 r1 s1=>L1 r0 (by show r<12;omega) fun d hd=>?_⟩
 obtain⟨n,f,rfl,hn,hf⟩:∃ n f:Int,d = .tup [.int n,.int f]∧n.natAbs≤13∧f.natAbs≤13:=by
  simp only[c7h,c7p,or_false]at hd
  rcases hd with rfl|rfl|rfl|rfl|rfl|rfl|rfl|rfl|rfl|rfl|rfl|rfl
  all_goals exact⟨_,_,rfl,by decide,by decide⟩
 walk_at "sim"
 refine a4a (fun e' M'=>∃(n f b:Int) (x1 x5:Option D),e'=[some (.ref p),x1,some (.int n),some (.int f),some (.tup [.int b,.int b]),x5,none,none,none]∧n.natAbs≤13∧f.natAbs≤13∧(b=1∨b=2)∧v7 p M M') ?_ ?_
 ·walk_at "sim"
  refine⟨s1.pool,lg9 (by decide),fun r' M2 r0' r1' s2=>⟨fun _=>?_,fun _=>⟨n,f,1,_,_,rfl,hn,hf,.inl rfl,s1.trans s2⟩⟩⟩
  refine⟨s2.pool,lg9 (by decide),fun r2 M3 r20 r21 s3=>L1 r20 (by show r2<12;omega) fun d hd=>?_⟩
  obtain⟨n',f',rfl,hn',hf'⟩:∃ n f:Int,d = .tup [.int n,.int f]∧n.natAbs≤13∧f.natAbs≤13:=by
   simp only[c7h,c7p,or_false]at hd
   rcases hd with rfl|rfl|rfl|rfl|rfl|rfl|rfl|rfl|rfl|rfl|rfl|rfl
   all_goals exact⟨_,_,rfl,by decide,by decide⟩
  walk_at "sim"
  exact⟨n',f',2,_,_,rfl,hn',hf',.inr rfl,(s1.trans s2).trans s3⟩
 ·rintro e' M2 ⟨n,f,b,x1,x5,rfl,hn,hf,hb,s2⟩
  walk_at "sim"
  refine⟨⟨by decide,by decide,by decide⟩,s2.pool,[1,2,3,5,1,2,3,5,10 ^ c9Q 20],[1,1,2,3],fun q=>0<q∧sz q≤67,rfl,rfl,⟨by decide,by decide,by decide,b1a (by decide) (by decide) (by decide)⟩,?_⟩
  rintro G M3 ⟨G0,G1⟩ s3
  refine⟨s3.pool,⟨G0,G1⟩,fun qs M4 ql hqs s4=>⟨s4.pool,_,rfl,by rw[c6Q];omega,fun cs M5 cl cf cm s5=>?_⟩⟩
  rw[c6Q]at cl
  have hc7:cs.length≤7:=c6V cl (by show qs.length+4≤7;omega)
  obtain⟨H1,H2,H3⟩:=b4D G0 G1 ql hqs hc7 cf cm hn hf hb
  have gp:=a9H G0
  have b0:b≠0:=by omega
  have ne:b*G.num≠0:=c7Q b0 (by omega)
  have lg:(b*G.num).natAbs.log2<9000:=F0 (c6R (e7 (show b.natAbs<2 ^ 2 by omega) (u9 G G1)) (c7f (by decide) (by decide))) (by decide)
  have i1:IntMulOk b G.num:=a8s (by omega) (by omega)
  rw[a8t gp b0,a8t gp b0]
  exact⟨a8s (by omega) (by omega),i1,ne,lg,a8s (by omega) (by omega),i1,ne,lg,k _ _ _ _ H1 H2 H3 (((s2.trans s3).trans s4).trans s5)⟩
theorem a6P(T:Txt K mg)(d:Df K mg "_law_hall" X1 ["pool"])(c4c:Fn P w K mg base "_law_ratio" 3 ["pool","tops","bottoms"] a3D)(c4x:Fn P w K mg base "_law_stops" 4 ["pool","parts","count"] a2N)(c4a:Fn P w K mg base "_law_next" 1 ["pool","base"] O7)(c4l:Fn P w K mg base "minus" 4 ["one","other"] K6)(c4H:Fn P w K mg base "_law_known_hall" 6 ["pool"] a79):Fn P w K mg base "_law_hall" 7 ["pool"] a79:=by
 have sc:=a57
 refine i9 d sc (by walk_at "len") (fun f cdv A outer s H E ds M R Y hr h=>?_)
 have hu:=hr.units
 obtain⟨p,rfl,hp,k⟩:=h
 refine⟨_,(d4 (jst 1 sc.nd (jc c4a hr (a7 (a8 0) (a7 d3 a9)))) (d4 (f8 (jtm a0T (a8 1) d3) (d5 (d7 (Y1 (jc c4H hr (a7 (a8 0) a9))))) f7) (d4 (jst 2 sc.nd (jc c4c hr (a7 (a8 0) (a7 (o7 (a7 d3 (a7 d3 (a7 (A3 d3) (a7 d3 (a7 d3 (a7 (A3 d3) a9))))))) (a7 (o7 (a7 d3 (a7 d3 (a7 d3 a9)))) a9))))) (d4 (f8 (jtm M8 (a8 1) d3) (d5 (d7 (Y1 (f6 (a7 (a8 2) (a7 (jc c4x hr (a7 (a8 0) (a7 (o7 a9) (a7 d3 a9)))) (a7 (jc c4l hr (a7 (f6 (a7 d3 (a7 d3 a9))) (a7 (a8 2) a9))) a9))))))) f7) (d4 (jst 3 sc.nd (a11 a9)) (d4 (A7 PassesOwn.never rfl (a1t rfl T.b_range (a7 (jc c4a hr (a7 (a8 0) (a7 d3 a9))) a9)) (jn 4 sc.nd) (d5 (f8 (jtm M8 (jc c4a hr (a7 (a8 0) (a7 d3 a9))) d3) (d5 (D5 (X9 PySem.F.slot_list_append PySem.F.type_list_append C4 (a8 3) (a7 (f6 (a7 g8 (a7 (jc c4c hr (a7 (a8 0) (a7 (o7 (a7 d3 (a7 d3 (a7 d3 (a7 d3 (a7 d3 (a7 d3 a9))))))) (a7 (o7 (a7 d3 (a7 d3 (a7 d3 a9)))) a9)))) a9))) a9)))) (d5 (D5 (X9 PySem.F.slot_list_append PySem.F.type_list_append C4 (a8 3) (a7 (f6 (a7 g8 (a7 (jc c4c hr (a7 (a8 0) (a7 (o7 (a7 d3 (a7 d3 (a7 (A3 d3) (a7 d3 (a7 (A3 d3) (a7 d3 a9))))))) (a7 (o7 (a7 d3 (a7 d3 (a7 d3 a9)))) a9)))) a9))) a9))))))) (d5 (d7 (Y1 (f6 (a7 (a8 2) (a7 (jc c4x hr (a7 (a8 0) (a7 (Q1 (a8 3)) (a7 d3 a9)))) (a7 (jc c4c hr (a7 (a8 0) (a7 (o7 (a7 d3 (a7 d3 (a7 (A3 d3) (a7 d3 (a7 (A3 d3) (a7 d3 a9))))))) (a7 (o7 (a7 d3 (a7 d3 a9))) a9)))) a9))))))))))))),?_⟩
 walk_at "sim"
 refine⟨hp,lg9 (by decide),fun r M1 r0 r1 s1=>⟨fun _=>⟨s1.pool,fun near bs far M2 h1 h2 h3 s2=>Y9 (M2:=M2) (fun _ _ h=>h) (k near bs far M2 h1 h2 h3 (s1.trans s2))⟩,fun _=>?_⟩⟩
 refine⟨s1.pool,[0,1,-1,2,1,-3],[1,2,3],fun q=>sz q≤5,rfl,rfl,⟨by decide,by decide,by decide,a0l (by decide) (by decide) (by decide)⟩,fun q M2 hq s2=>⟨fun _=>?_,fun _ l hN=>?_⟩⟩
 ·have zn:=RM.O6 q
  refine⟨s2.pool,[],rfl,by decide,fun cs M3 cl cf cm s3=>⟨by rw[RM.K5];omega,Y9 (M2:=M3) (fun _ _ h=>h) ?_⟩⟩
  obtain⟨H1,H2,H3⟩:=a8c (near:=q) (far:=0 - q) (bs:=[]) hq (by rw[show 0 - q = -q by grind,zn];exact hq) (fun x hx=>(by cases hx)) (by decide) (c6V cl (by decide)) cf cm
  exact k _ _ _ _ H1 H2 H3 ((s1.trans s2).trans s3)
 ·have hlp:l≠p:=fun e=>by obtain⟨_,_,_,hq⟩:=s2.pool;rw[e,hq]at hN;cases hN
  have s12:=s1.trans s2
  have hM0:M l=none:=by
   cases e:M l with
   | none=>rfl
   | some o=>rw[s12.keep l o hlp e]at hN;cases hN
  have s0:v7 p M2 (C1 M2 l (.lst [])):=(v7.refl s2.pool).put hN hlp
  refine⟨s0.pool,lg9 (by decide),fun n M3 n0 n1 s3=>⟨by omega,?_⟩⟩
  refine a0r.by (fun i e M'=>∃(bs:List (Str × Rat)) (z4:Option D),e=[some (.ref p),some (.int r),some (d9 q),some (.ref l),z4]∧M' l=some (.lst (bs.map i0))∧v7 p M2 M'∧bs.length=i∧(∀ x∈bs,sz x.2≤5∧((x.1 = "gap" ∧ 0≤x.2)∨x.1 = "glass"))) ?_ (fun _ _ _ _ _=>trivial) ?_ ?_
  ·exact⟨[],_,rfl,s3.keep l _ hlp i7,s0.trans s3,rfl,fun x hx=>(by cases hx)⟩
  ·rintro i dd e M' hd ⟨bs,z4,rfl,hM,st,hb,hbs⟩
   have hi:=(c6P.mp hd).1
   rw[q9]at hi
   have hadd:∀(w:Str) (q2:Rat) (M5:Mem),v7 p M' M5→sz q2≤5→((w = "gap" ∧ 0≤q2)∨w = "glass")→∃(bs':List (Str × Rat)) (z4:Option D),[some (D.ref p),some (D.int r),some (d9 q),some (D.ref l),some dd]=[some (.ref p),some (.int r),some (d9 q),some (.ref l),z4]∧(C1 M5 l (.lst (bs.map i0++[.tup [.str w,d9 q2]]))) l=some (.lst (bs'.map i0))∧v7 p M2 (C1 M5 l (.lst (bs.map i0++[.tup [.str w,d9 q2]])))∧bs'.length=i+1∧(∀ x∈bs',sz x.2≤5∧((x.1 = "gap" ∧ 0≤x.2)∨x.1 = "glass")):=fun w q2 M5 s5 hq2 hw=>by
    refine⟨bs++[(w,q2)],_,rfl,by rw[i7,c7d];rfl,(st.trans s5).put hN hlp,by rw[c7l];show bs.length+1=_;omega,fun x hx=>?_⟩
    rcases c7i.mp hx with hx|hx
    ·exact hbs x hx
    ·rw[c7a.mp hx];exact⟨hq2,hw⟩
   walk_at "sim"
   refine⟨st.pool,lg9 (by decide),fun g M4 g0 g1 s4=>⟨fun _=>N6 (s4.keep l _ hlp hM) ⟨s4.pool,[0,1,2,3,1,5],[1,2,3],fun q=>0≤q∧sz q≤5,rfl,rfl,⟨by decide,by decide,by decide,b7O (by decide) (by decide) (by decide)⟩,?_⟩,fun _=>N6 (s4.keep l _ hlp hM) ⟨s4.pool,[0,1,-1,2,-2,3],[1,2,3],fun q=>sz q≤5,rfl,rfl,⟨by decide,by decide,by decide,a0l (by decide) (by decide) (by decide)⟩,?_⟩⟩⟩
   ·rintro q2 M5 ⟨h1,h2⟩ s5
    exact a17 (s5.keep l _ hlp (s4.keep l _ hlp hM)) (by rw[c6Q];omega) (hadd _ _ _ (s4.trans s5) h2 (.inl ⟨rfl,h1⟩))
   ·rintro q2 M5 h2 s5
    exact a17 (s5.keep l _ hlp (s4.keep l _ hlp hM)) (by rw[c6Q];omega) (hadd _ _ _ (s4.trans s5) h2 (.inr rfl))
  ·rintro e M' ⟨bs,z4,rfl,hM,st,hb,hbs⟩
   rw[q9]at hb
   walk_at "sim"
   refine⟨l,_,rfl,hM,?_⟩
   have sd:=st.del hN hlp
   refine⟨sd.pool,bs,rfl,by omega,fun cs M4 cl cf cm s4=>⟨s4.pool,[0,1,-1,2,-2,3],[1,2],fun q=>sz q≤5,rfl,rfl,⟨by decide,by decide,by decide,a0l (by decide) (by decide) (by decide)⟩,fun f M5 hf s5=>Y9 (M2:=M5) (fun _ _ h=>h) ?_⟩⟩
   obtain⟨H1,H2,H3⟩:=a8c hq hf hbs (by omega) (c6V cl (by show bs.length+3≤7;omega)) cf cm
   exact k _ _ _ _ H1 H2 H3 (((s12.trans sd).trans s4).trans s5)
theorem a6N(T:Txt K mg)(d:Df K mg "_law_pool" W9 ["cell"]):Fn P w K mg base "_law_pool" 1 ["cell"] a86:=by
 have sc:=a55
 refine i9 d sc (fun ds M R Y h=>?_) (fun f cdv A outer s H E ds M R Y hr h=>?_)
 ·obtain⟨c,rfl,_⟩:=h;rfl
 ·obtain⟨c,rfl,k⟩:=h
  refine⟨_,(d5 (d7 (a11 (a7 (o9 (b9j rfl) rfl T.b_max b5x (a7 d3 (a7 (f9 X7 (a8 0) (f9 a0u d3 d3)) a9))) (a7 (f9 a3V (a8 0) (f9 a0u d3 d3)) (a7 d3 a9)))))),?_⟩
  refine⟨_,rfl,_,_,rfl,rfl,c0S,_,rfl,_,_,rfl,_,rfl,_,_,rfl,rfl,c0S,_,_,rfl,rfl,(by show(0:Int)<10 ^ 18;decide),sl 3,fun p hp=>?_⟩
  exact k p _ hp (MK.new hp) ⟨_,_,_,i7⟩
theorem c0o{f:Addr}{fd:FuncData}(T:Txt K mg)(d:b78 K "law" b3E f fd)(c5v:Fn P w K mg base "ever" 8 ["hall","ray"] b0R)(c4p:Fn P w K mg base "_law_scaled" 4 ["ray","factor"] a2G)(c4c:Fn P w K mg base "_law_ratio" 3 ["pool","tops","bottoms"] a3D)(c5d:Fn P w K mg base "_law_alike" 1 ["one","other"] a9t)(c4T:Fn P w K mg base "_law_sooner" 1 ["told","later"] a6k)(c5g:Fn P w K mg base "led" 4 ["table","ray"] b1K)(c4e:Fn P w K mg base "round_of" 7 ["hall"] a0t)(c4U:Fn P w K mg base "never_shown" 9 ["hall","ray","paper"] a9o)(c5e:Fn P w K mg base "_law_paper" 9 ["hall","ray"] a9n)(c5f:Fn P w K mg base "_law_tight" 9 ["pool","hall","ray"] a9h)(c5q:Fn P w K mg base "_law_ray" 10 ["pool","hall"] b3H)(c5j:Fn P w K mg base "_law_hall" 7 ["pool"] a79)(c5k:Fn P w K mg base "_law_pool" 1 ["cell"] a86):V4 P w K mg base CX0 11 f fd ["script"] (a7O K b0L):=by
 have sc:=b9O
 refine b81 d sc (fun ds M R Y h=>by obtain⟨n,rfl,_⟩:=h;rfl) (fun cdv A outer s H E ds M R Y hr h=>?_)
 obtain⟨ns,rfl,hlen,k⟩:=h
 have hu:=hr.units
 refine⟨_,(d4 (A7 PassesOwn.never rfl (B4 (O0 (o7 (a7 d3 a9)) (a8 0))) (jn 1 sc.nd) (d4 (jst 2 sc.nd (jc c5k hr (a7 (a8 1) a9))) (d4 (jst 3 sc.nd (jc c5j hr (a7 (a8 2) a9))) (d4 (jst 4 sc.nd (jc c5q hr (a7 (a8 2) (a7 (a8 3) a9)))) (d4 (jst 3 sc.nd (jc c5f hr (a7 (a8 2) (a7 (a8 3) (a7 (a8 4) a9))))) (d4 (jst 5 sc.nd (jc c5v hr (a7 (a8 3) (a7 (a8 4) a9)))) (d4 (f8 (jtm c2m (jc c4U hr (a7 (a8 3) (a7 (a8 4) (a7 (jc c5e hr (a7 (a8 3) (a7 (a8 4) a9))) a9)))) (jm u3 (jx (a8 5) d3) g8)) (d5 (d7 B1)) f7) (d4 (f8 (A9 (p8 (jc c4T hr (a7 (a8 5) (a7 (jc c5v hr (a7 (a8 3) (a7 (jc c5g hr (a7 (jc c4e hr (a7 (a8 3) a9)) (a7 (a8 4) a9))) a9))) a9))))) (d5 (d7 B1)) f7) (d4 (f8 (A9 (p8 (jc c5d hr (a7 (a8 5) (a7 (jc c5v hr (a7 (a8 3) (a7 (jc c4p hr (a7 (a8 4) (a7 (f6 (a7 (A3 d3) (a7 d3 a9))) a9))) a9))) a9))))) (d5 (d7 B1)) f7) (d4 (jst 6 sc.nd (jc c5v hr (a7 (a8 3) (a7 (jc c4p hr (a7 (a8 4) (a7 (jc c4c hr (a7 (a8 2) (a7 (o7 (a7 d3 (a7 d3 (a7 d3 a9)))) (a7 (o7 (a7 d3 (a7 d3 a9))) a9)))) a9))) a9)))) (d4 (f8 (C9 (a12 (jtm u3 (jx (a8 5) d3) g8) (a0j (C9 (D6 (jtm b0X (jx (a8 6) d3) g8) (C5 (jtm a4J (jx (a8 6) d3) (jx (a8 5) d3)))))))) (d5 (d7 B1)) f7) (d5 (f8 (C9 (a12 (jtm u3 (jx (a8 5) d3) g8) (a0j (jtm u3 (jx (a8 6) d3) g8)))) (d5 (d7 B1)) f7))))))))))))) (d5 (d7 B1))),?_⟩
 walk_at "sim"
 refine⟨c6V (by rw[c6Q];omega) (show 1000≤sizeLine by decide),?_⟩
 refine a0r.by (fun i e M'=>∃ x1 x2 x3 x4 x5 x6:Option D,e=[some (.vl (ns.map D.int)),x1,x2,x3,x4,x5,x6]) ⟨_,_,_,_,_,_,rfl⟩ (fun i e M' _ _=>by simp only[p6]) ?_ ?_
 ·rintro i dd e M' hd ⟨x1,x2,x3,x4,x5,x6,rfl⟩
  obtain⟨n,rfl⟩:∃ n:Int,dd = .int n:=by
   have hm:=c6S hd
   rcases c7h.mp hm with rfl|hm
   ·exact⟨0,rfl⟩
   ·obtain⟨n,_,rfl⟩:=c7q.mp hm
    exact⟨n,rfl⟩
  walk_at "sim"
  refine fun p M1 hp mk hP=>⟨hP,fun near bs0 far M2 hok hl7 ha s2=>⟨s2.pool,hok,fun y u M3 cd s3=>⟨s3.pool,⟨hok,hl7,cd⟩,fun bs M4 hw s4=>?_⟩⟩⟩
  have cL:=hw.cd (d8 near bs far).length
  rw[c7t]at cL
  have ray:=X6 cL cd
  have r1:=ray.t2.y
  have r2:=ray.t2.u
  have ty:=cd.t2.y
  have tu:=cd.t2.u
  have ol:=E3 (d8 near bs far) y u
  have t4:=CD.t4 cL
  have o1:(g7 (d8 near bs far) (y,u)).1=(tbQ (d8 near bs far)).1*y+(tbQ (d8 near bs far)).2.1*u:=ol.1
  have o2:(g7 (d8 near bs far) (y,u)).2=(tbQ (d8 near bs far)).2.2.1*y+(tbQ (d8 near bs far)).2.2.2*u:=ol.2
  have z3:sz (tbQ (d8 near bs far)).1≤230:=t4.a
  have z4:sz (tbQ (d8 near bs far)).2.1≤230:=t4.b
  have z5:sz (tbQ (d8 near bs far)).2.2.1≤230:=t4.c
  have z6:sz (tbQ (d8 near bs far)).2.2.2≤230:=t4.d
  have hNl:=a5J near far bs y u
  have hbl:=hw.len
  have hT:∀ z∈g9 near bs far,cl 59 z.1=true∧cl 59 z.2.1=true:=fun z hz=>a8z hz 58
  have sm1:sz (-1:Rat)=1:=by rw[RM.O6,RM.O5]
  have enok:∀ e∈(u6 near bs far y u).map (pE (tbQ (d8 near bs far))),a93 e:=fun e he=>by
   obtain⟨l,hl,rfl⟩:=c7q.mp he
   obtain⟨l0,h0,rfl⟩:=c7q.mp hl
   have hz:=(hw.line cd h0).2.2
   have zt:sz (trQ (tbQ (d8 near bs far)))≤231:=CD.tr cL
   exact c2h zt hz.1 hz.2
  refine⟨⟨hw,_,cd,by decide⟩,fun r0 h0=>⟨⟨hw,cd⟩,near,bs,far,_,rfl,.inl rfl,⟨⟨hw,_,cd,by decide⟩,by rw[c6Q];omega,enok⟩,?_⟩⟩
  have hE:=b7U h0
  have pn:=a8e hw hE
  generalize evD (G7 (g9 near bs far) (g9 near bs far).length) (tbQ (d8 near bs far)) (u6 near bs far y u) r0=told at *
  obtain⟨rt,et⟩:=O1 hE
  have w3:=D7 hE
  generalize hpb:a0Q (tbQ (d8 near bs far)) (u6 near bs far y u) ((u6 near bs far y u).map (pE (tbQ (d8 near bs far))))=pb at *
  generalize hw0:wS told=w at *
  subst et
  walk_at "sim"
  have epb:pb=decide (w=Str.ofString "never"):=by
   by_cases h:w=Str.ofString "never"
   ·rw[decide_eq_true h];exact pn.mpr h
   ·rw[decide_eq_false h]
    cases e:pb with
    | false=>rfl
    | true=>exact absurd (pn.mp e) h
  rw[epb]
  refine⟨fun h=>absurd h (by rw[beq_self_eq_true];decide),fun _=>⟨hw,?_⟩⟩
  unfold E7
  walk_at "sim"
  rw[← o1,← o2]
  refine⟨by omega,by omega,⟨hw,_,ray,by decide⟩,fun r1' h1=>?_⟩
  have hE1:=b7U h1
  generalize evD (G7 (g9 near bs far) (g9 near bs far).length) (tbQ (d8 near bs far)) (u6 near bs far (g7 (d8 near bs far) (y,u)).1 (g7 (d8 near bs far) (y,u)).2) r1'=later at *
  obtain⟨a1,a2,a3⟩:=b2c hw hE hE1
  refine⟨_,_,_,_,_,_,_,⟨⟨hE,hT⟩,⟨hE1,hT⟩,a1,a2,a3⟩,?_⟩
  have cm:CD 1001 (y * -1) 0 (u * -1) 0:=cd.by (c:=-1) (k:=1) (by omega)
  walk_at "sim"
  refine⟨⟨by omega,by omega⟩,⟨hw,_,cm,by decide⟩,fun r2' h2=>?_⟩
  have hE2:=b7U h2
  generalize evD (G7 (g9 near bs far) (g9 near bs far).length) (tbQ (d8 near bs far)) (u6 near bs far (y * -1) (u * -1)) r2'=other at *
  obtain⟨b1,b2⟩:=b4Z hw hE hE2
  refine⟨_,_,_,_,_,_,_,⟨⟨hE,hT⟩,⟨hE2,hT⟩,b1,b2⟩,?_⟩
  walk_at "sim"
  refine⟨s4.pool,[2,3,9],[1,2],fun q=>1≤e9 q∧sz q≤5,rfl,rfl,⟨by decide,by decide,by decide,?_⟩,fun q M5 hq s5=>?_⟩
  ·intro t ht b hb
   simp only[c7h,c7p,or_false]at ht hb
   rcases ht with rfl|rfl|rfl<;>rcases hb with rfl|rfl<;>exact⟨by decide +kernel,by decide +kernel⟩
  obtain⟨q1,q5⟩:=hq
  have cq:CD 1005 (y*q) 0 (u*q) 0:=cd.by q5
  refine⟨⟨by omega,by omega⟩,⟨hw,_,cq,by decide⟩,fun r3' h3=>?_⟩
  have hE3:=b7U h3
  generalize evD (G7 (g9 near bs far) (g9 near bs far).length) (tbQ (d8 near bs far)) (u6 near bs far (y*q) (u*q)) r3'=wider at *
  obtain⟨d1,d2⟩:=b4V hw q1 hE hE3
  refine⟨fun hs=>?_,fun hs=>⟨fun hl=>?_,fun hl=>⟨_,_,_,_,_,_,rfl⟩⟩⟩
  ·obtain⟨n1,j1,z1,e1,_⟩:=L3 hE (hw0.trans hs)
   injection e1 with e1
   injection e1 with _ e1
   subst e1
   obtain⟨k5,a5,b5,e5,k5n⟩:=d1 n1 (hw0.trans hs) rfl
   subst e5
   walk_at "sim"
   refine⟨fun h=>absurd h (by omega),fun _=>⟨fun hl=>?_,fun _=>⟨_,_,_,_,_,_,rfl⟩⟩⟩
   rw[hs]at hl;exact absurd hl (by decide)
  ·have nn:=d2 (hw0.trans hl)
   obtain⟨r5,e5⟩:=O1 hE3
   generalize wS wider=w5 at *
   subst e5
   walk_at "sim"
   exact⟨fun h=>absurd h nn,fun _=>⟨_,_,_,_,_,_,rfl⟩⟩
 ·rintro e M' ⟨x1,x2,x3,x4,x5,x6,rfl⟩
  walk_at "sim"
  exact k _
end
end K44
namespace K44
open PySem PySem.Spec L2 DL GM
theorem c00{P:Program}{w:World}{K:c6M}{mg:Str→Option Value}{fa:Addr}(T:Txt K mg)(hfa:mg "law" = some (.ref fa))(c6w:Df K mg "divisor" a1P ["one","other"])(c5A:Df K mg "is_whole" S2 ["thing"])(c6u:Df K mg "ratio" a2D ["top","bottom"])(c6D:Df K mg "over" a9e ["one","other"])(c6b:Df K mg "tops_over" W3 ["ratios","bottom"])(c5x:Df K mg "common_bottom" K1 ["ratios"])(c6A:Df K mg "swing" a58 ["t","x","later"])(c6l:Df K mg "reach_by" a0I ["t","x","later"])(c6y:Df K mg "plus" a6a ["one","other"])(c6E:Df K mg "t_of" a9b ["table"])(c6m:Df K mg "opposite" a0J ["one"])(c5w:Df K mg "rounds_to_self" I0 ["table"])(c6n:Df K mg "shown_by" a0G ["word","table","x","later"])(c6z:Df K mg "less" a6c ["one","other"])(c6o:Df K mg "unsigned" a0E ["one"])(c6c:Df K mg "kind_word" W7 ["table"])(c5N:Df K mg "next_state" R7 ["t","state"])(c5C:Df K mg "first_state" P6 ["t","x","later","r"])(c5D:Df K mg "stop_within" O9 ["t","numbers","watched","rounds"])(c5y:Df K mg "sheared_round" J9 ["t","x","later","r"])(c5z:Df K mg "first_sheared" K0 ["t","numbers","late"])(c5O:Df K mg "first_stop" S5 ["table","numbers","late"])(c6v:Df K mg "times" a2C ["one","other"])(c5P:Df K mg "shows_late" R6 ["word","t","x","later","r"])(c5Q:Df K mg "late_lines" R9 ["table","numbers"])(c6d:Df K mg "number_of" W6 ["p","q","ray"])(c6J:Df K mg "led" b3D ["table","ray"])(c6e:Df K mg "first_two" W8 ["table","ray","lines"])(c6B:Df K mg "minus" a6b ["one","other"])(c5E:Df K mg "led_by_part" P5 ["part","ray"])(c6p:Df K mg "lines_of" a0K ["bench"])(c5B:Df K mg "turned_bench" M0 ["bench"])(c5F:Df K mg "round_bench" P2 ["hall"])(c5R:Df K mg "hall_lines" S3 ["hall"])(c5S:Df K mg "by_columns" S6 ["first","second"])(c6q:Df K mg "table_of" a0F ["bench"])(c6r:Df K mg "round_of" a0H ["hall"])(c6F:Df K mg "ever" a9g ["hall","ray"])(c5G:Df K mg "_law_scaled" P8 ["ray","factor"])(c6f:Df K mg "_law_next" X0 ["pool","base"])(c5r:Df K mg "_law_ratio" K7 ["pool","tops","bottoms"])(c5T:Df K mg "_law_alike" T1 ["one","other"])(c5H:Df K mg "_law_sooner" P7 ["told","later"])(c6s:Df K mg "is_ratio" a0L ["thing"])(c5U:Df K mg "kept_right" S1 ["table","numbers","k"])(c6G:Df K mg "same" a9c ["one","other"])(c5I:Df K mg "reach_right" P3 ["table","numbers","s"])(c5J:Df K mg "round_right" P1 ["table","numbers","n"])(c5V:Df K mg "line_right" R8 ["table","numbers","shown"])(c5K:Df K mg "never_shown" P4 ["hall","ray","paper"])(c6C:Df K mg "reach" a59 ["hall","ray","p","q"])(c5W:Df K mg "floor_root" S4 ["number"])(c6H:Df K mg "root" a9d ["one"])(c6g:Df K mg "shrinking" W4 ["t"])(c6h:Df K mg "ray_along" W5 ["table"])(c6x:Df K mg "form_of" a1O ["table"])(c6I:Df K mg "kind" a9f ["hall"])(c5X:Df K mg "_law_paper" S9 ["hall","ray"])(c5s:Df K mg "_law_whole_root" G3 ["number"])(c5Y:Df K mg "_law_tight" S7 ["pool","hall","ray"])(c5Z:Df K mg "_law_along" T0 ["hall","other"])(c6t:Df K mg "_law_ray" a0M ["pool","hall"])(c6a:Df K mg "_law_stops" S8 ["pool","parts","count"])(c5L:Df K mg "_law_pieces" P9 ["pool","gap"])(c5t:Df K mg "_law_known_hall" G4 ["pool"])(c6i:Df K mg "_law_hall" X1 ["pool"])(c6j:Df K mg "_law_pool" W9 ["cell"])(c6K:DfL K mg "law" b3E ["script"]) :
  ∃ fd:FuncData,(∀(s:Shared) (u:Value),BindsTo s fd ⟨[u],[]⟩ [("script",u)])∧∀ base:Heap,V4 P w K mg base CX0 11 fa fd ["script"] (a7O K b0L):=by
 obtain⟨f,fd,F,hm,hb⟩:=c6K.ex
 have e:f=fa:=by rw[hm]at hfa;injection hfa with z;injection z
 subst e
 refine⟨fd,fun s u=>.of_eq (hb [u] rfl),fun base=>?_⟩
 have c4t:=a9F (P:=P) (w:=w) (base:=base) T c6w
 have c4m:=a8o (P:=P) (w:=w) (base:=base) T c5A
 have c4f:=b4p (P:=P) (w:=w) (base:=base) T c6u c4m c4t
 have c4D:=b7z (P:=P) (w:=w) (base:=base) T c6D c4f
 have c4u:=a6H (P:=P) (w:=w) (base:=base) T c6b
 have c4j:=a1V (P:=P) (w:=w) (base:=base) T c5x c4t
 have c5l:=b4n (P:=P) (w:=w) (base:=base) T c6A c4u c4j
 have c4o:=a8k (P:=P) (w:=w) (base:=base) T c6l c5l
 have c4q:=b7y (P:=P) (w:=w) (base:=base) T c6y c4f
 have c4h:=b7v (P:=P) (w:=w) (base:=base) T c6E c4q
 have c4n:=a8m (P:=P) (w:=w) (base:=base) T c6m
 have c4b:=a1r (P:=P) (w:=w) (base:=base) T c5w c4n c4h
 have c5p:=a8i (P:=P) (w:=w) (base:=base) T c6n c4D c4f c4o c4h c4b
 have c4w:=b7A (P:=P) (w:=w) (base:=base) T c6z
 have c4i:=a8f (P:=P) (w:=w) (base:=base) T c6o
 have c4g:=a6L (P:=P) (w:=w) (base:=base) T c6c c4w c4i c4h c4b
 have c4V:=a4v (P:=P) (w:=w) (base:=base) T c5N
 have c4R:=a3Q (P:=P) (w:=w) (base:=base) T c5C c4u c4j
 have c4r:=a3J (P:=P) (w:=w) (base:=base) T c5D c4V c4R
 have c4L:=a1T (P:=P) (w:=w) (base:=base) T c5y c4u c4j
 have c4M:=a1U (P:=P) (w:=w) (base:=base) T c5z c4L
 have c4Y:=a4B (P:=P) (w:=w) (base:=base) T c5O c4r c4M c4b c4g c4h c4w c4i
 have c4y:=a9D (P:=P) (w:=w) (base:=base) T c6z
 have c4d:=b4m (P:=P) (w:=w) (base:=base) T c6v c4f
 have c4W:=a4u (P:=P) (w:=w) (base:=base) T c5P c4w c4i c5l c4y c4o c4d
 have c4Z:=a4x (P:=P) (w:=w) (base:=base) T c5Q c4W c4h c4g
 have c4v:=a6K (P:=P) (w:=w) (base:=base) T c6d c4q c4d
 have c5g:=c0n (P:=P) (w:=w) (base:=base) T c6J c4q c4d
 have c4E:=a6M (P:=P) (w:=w) (base:=base) T c6e c4v c5g
 have c4l:=b4q (P:=P) (w:=w) (base:=base) T c6B c4q c4n
 have c4s:=a3O (P:=P) (w:=w) (base:=base) T c5E c4l c4d c4q
 have c5n:=a8n (P:=P) (w:=w) (base:=base) T c6p c4s
 have c4Q:=a2w (P:=P) (w:=w) (base:=base) T c5B
 have c4z:=a3L (P:=P) (w:=w) (base:=base) T c5F c4Q
 have c4k:=a4z (P:=P) (w:=w) (base:=base) T c5R c5n c4z
 have c4X:=a4C (P:=P) (w:=w) (base:=base) T c5S
 have c5o:=a8h (P:=P) (w:=w) (base:=base) T c6q c4X c4s
 have c4e:=a8j (P:=P) (w:=w) (base:=base) T c6r c5o c4z
 have c5v:=b7C (P:=P) (w:=w) (base:=base) T c6F c5p c4g c4Y c4Z c4E c4k c4e
 have c4p:=a3S (P:=P) (w:=w) (base:=base) T c5G c4d
 have c4a:=a6O (P:=P) (w:=w) (base:=base) T c6f
 have c4c:=a4F (P:=P) (w:=w) (base:=base) T c5r c4f c4a
 have c5d:=a4I (P:=P) (w:=w) (base:=base) T c5T
 have c4T:=a3R (P:=P) (w:=w) (base:=base) T c5H
 have c4I:=a8l (P:=P) (w:=w) (base:=base) T c6u c4t c4m
 have c5m:=a9C (P:=P) (w:=w) (base:=base) T c6y c4I
 have c4J:=a8g (P:=P) (w:=w) (base:=base) T c6v c4I
 have c4A:=a8p (P:=P) (w:=w) (base:=base) T c6s c4t c4m
 have c4F:=a4y (P:=P) (w:=w) (base:=base) T c5U c4w c4i c4d c5m c4J c4h c4A
 have c5M:=b7w (P:=P) (w:=w) (base:=base) T c6G
 have c4B:=a3M (P:=P) (w:=w) (base:=base) T c5I c4y c4d c5M c4o c4h c4g c4A
 have c4K:=a3P (P:=P) (w:=w) (base:=base) T c5A
 have c4C:=a3K (P:=P) (w:=w) (base:=base) T c5J c4r c4h c4b c4K
 have c5a:=a4w (P:=P) (w:=w) (base:=base) T c5V c4F c4B c4C
 have c4U:=a3N (P:=P) (w:=w) (base:=base) T c5K c4E c5a c4e c4k
 have c5b:=b4o (P:=P) (w:=w) (base:=base) T c6C c4f c4o c4v c5g c4h c4e
 have c4O:=a4A (P:=P) (w:=w) (base:=base) T c5W
 have c6k:=b7x (P:=P) (w:=w) (base:=base) T c6H c4O
 have c5h:=a6I (P:=P) (w:=w) (base:=base) T c6g c4D c4l c4w c4n c6k c4d
 have c5i:=a6J (P:=P) (w:=w) (base:=base) T c6h c4l c4D c4h
 have c5u:=a9E (P:=P) (w:=w) (base:=base) T c6x c4n c4l
 have c5c:=b7B (P:=P) (w:=w) (base:=base) T c6I c5h c4h c5i c5u c4b c4g c4e
 have c5e:=a4G (P:=P) (w:=w) (base:=base) T c5X c4k c5b c4D c4q c4d c5g c4e c5c
 have c4G:=a0R (P:=P) (w:=w) (base:=base) T c5s
 have c5f:=a4D (P:=P) (w:=w) (base:=base) T c5Y c4f c4a c4G c4k c4y c5b c5c
 have c4P:=a4H (P:=P) (w:=w) (base:=base) T c5Z c4l c4D c5c c4e
 have c4N:=a1W (P:=P) (w:=w) (base:=base) T c5r c4f c4a
 have c5q:=a8q (P:=P) (w:=w) (base:=base) T c6t c4p c4q c4a c4P c4N c4c
 have c4x:=a4E (P:=P) (w:=w) (base:=base) T c6a c4a c4c
 have c4S:=a3T (P:=P) (w:=w) (base:=base) T c5L c4l c4f c4a
 have c4H:=a0S (P:=P) (w:=w) (base:=base) T c5t c4f c4x c4S c4c c4a
 have c5j:=a6P (P:=P) (w:=w) (base:=base) T c6i c4c c4x c4a c4l c4H
 have c5k:=a6N (P:=P) (w:=w) (base:=base) T c6j
 exact c0o T F c5v c4p c4c c5d c4T c5g c4e c4U c5e c5f c5q c5j c5k
theorem c3m{l:PySem.W.OpenLaw}{q:Program}{loose:List Str}{XP:(Str→Option Value)→Heap→Prop}{YP:World→Heap→Prop}{d:DefRec}{K:Params→c6M}(hn:l.most=some 63)(hdf:d.params.defaults=[])
  (hY:∀(w:World) (h:Heap),YP w h→(K w.params).In h)
  (F:∀(w:World) (mg:Str→Option Value) (fa:Addr) (h:Heap),(K w.params).In h→h.Ns mainGlobals mg→mg d.name=some (.ref fa) →
   ∃ fd:FuncData,(∀(s:Shared) (u:Value),BindsTo s fd ⟨[u],[]⟩ [("script",u)])∧∀ base:Heap,V4 l.prog w (K w.params) mg base CX0 11 fa fd ["script"] (a7O (K w.params) b0L)) :
  PySem.W.WalkO q loose XP YP l.row.toRowW d [] (fun f vs=>PySem.call f vs) :=
 L2.b3l (n:=63) (k:=11) (x := "script") (CX:=CX0) (sp:=fun K=>a7O K b0L) hn (by decide) hdf ⟨rfl,by decide,by decide⟩ hY (fun w mg fa h a b c=>let ⟨fd,h1,h2⟩:=F w mg fa h a b c;⟨fd,h1,fun base _ _=>h2 base⟩)
  (fun K H a ns hl hO hS=>c0w hO hS ⟨ns,rfl,hl,fun _=>rfl⟩) fun _ _ _ _ z=>z
end K44
namespace PySem.W.Fast
theorem te10840135484889475922:True:=trivial
theorem tw953126779150998767:True:=⟨⟩
theorem tw2259915575026255987:True:=⟨⟩
theorem tw12524051792204683079:True:=⟨⟩
theorem tw11408745013207138775:True:=⟨⟩
theorem tw9337692281373255886:True:=⟨⟩
theorem tw311593803151357344:True:=⟨⟩
theorem tw7484017944396537878:True:=⟨⟩
theorem tw15837922686336037811:True:=⟨⟩
theorem tw3484238132323258778:True:=⟨⟩
theorem tw2651952935907789487:True:=⟨⟩
theorem tw16984870504670047656:True:=⟨⟩
theorem tw12663768671559225095:True:=⟨⟩
theorem tw15611799128065343958:True:=⟨⟩
theorem tw14323538372007757457:True:=⟨⟩
theorem tw17714819344162058855:True:=⟨⟩
theorem tw10924220066245914378:True:=⟨⟩
theorem tw13921923051990941528:True:=⟨⟩
theorem tw12987448085715955510:True:=⟨⟩
theorem tw3876856475955292570:True:=⟨⟩
theorem tw13076419696109676380:True:=⟨⟩
theorem tw7779421194255562476:True:=⟨⟩
theorem tw3146535194954257903:True:=⟨⟩
theorem tw11194792829095184699:True:=⟨⟩
theorem tw1103820820054438520:True:=⟨⟩
theorem tw10381329209151239183:True:=⟨⟩
theorem tw10038252757933154705:True:=⟨⟩
theorem tw3229730684342841369:True:=⟨⟩
theorem tw11435558550157437593:True:=⟨⟩
theorem tw18096124520876461900:True:=⟨⟩
theorem tw11176491158093138885:True:=⟨⟩
theorem tw16567026017195229748:True:=⟨⟩
theorem tw14828367141181262929:True:=⟨⟩
theorem tw10290407430619586818:True:=⟨⟩
theorem tw10483072669543814405:True:=⟨⟩
theorem tw11387536197674581495:True:=⟨⟩
theorem tw16832787301015420460:True:=⟨⟩
theorem tw8057454509806724058:True:=⟨⟩
theorem tw3605757936429680121:True:=⟨⟩
theorem tw4625146614043706465:True:=⟨⟩
theorem tw17700166570816184237:True:=⟨⟩
theorem tw1683552919911427318:True:=⟨⟩
theorem tw7875633222870266934:True:=⟨⟩
theorem tw17766587531946288632:True:=⟨⟩
theorem tw10601094735284062514:True:=⟨⟩
theorem tw3957326931175740688:True:=⟨⟩
theorem tw1022542184454922530:True:=⟨⟩
theorem tw21099584066821090:True:=⟨⟩
theorem tw6913488685187809239:True:=⟨⟩
theorem tw3705088424391494313:True:=⟨⟩
theorem tw7347195022599896564:True:=⟨⟩
theorem tw13246283483616878678:True:=⟨⟩
theorem tw13654317770431359186:True:=⟨⟩
theorem tw10805192311544798731:True:=⟨⟩
theorem tw17516554117434703546:True:=⟨⟩
theorem tw2222667501507149178:True:=⟨⟩
theorem tw1338474658733087495:True:=⟨⟩
theorem tw10885586284749325082:True:=⟨⟩
theorem tw11910240077097811029:True:=⟨⟩
theorem tw14669076529638370195:True:=⟨⟩
theorem tw14975506515446950099:True:=⟨⟩
theorem tw15195402465847519816:True:=⟨⟩
theorem tw18257015607968377575:True:=⟨⟩
theorem tw1114520492379093228:True:=⟨⟩
theorem tw2823960671467112966:True:=⟨⟩
theorem tw10657471408641287182:True:=⟨⟩
theorem tw17177935076964428412:True:=⟨⟩
theorem tw3293353693027320904:True:=⟨⟩
theorem tw17023596131607337740:True:=⟨⟩
theorem tw16722915846400774495:True:=⟨⟩
theorem tw17560664865011824661:True:=⟨⟩
theorem tw2056906277615911676:True:=⟨⟩
theorem tw5838205144697270453:True:=⟨⟩
theorem tw13387362849582756557:True:=⟨⟩
theorem tw10109285333389913223:True:=⟨⟩
theorem tw9763938231414608366:True:=⟨⟩
theorem tw14430791718641707145:True:=⟨⟩
theorem tw10706814943628732659:True:=⟨⟩
theorem tw4263250513184559649:True:=⟨⟩
theorem tw3383107080722108193:True:=⟨⟩
theorem tw18426250027072354873:True:=⟨⟩
theorem tw8859124275349092850:True:=⟨⟩
theorem tw4015314873055678318:True:=⟨⟩
theorem tw2415616278396005814:True:=⟨⟩
theorem tw15132516403271376150:True:=⟨⟩
theorem tw18361218886438806517:True:=⟨⟩
theorem tw1719560748236837936:True:=⟨⟩
theorem tw2136635169265468997:True:=⟨⟩
theorem tw5982860412680990068:True:=⟨⟩
theorem tw536858724839902418:True:=⟨⟩
theorem tw9245661942359381532:True:=⟨⟩
theorem tw363475924443089113:True:=⟨⟩
theorem tw5545609520667443074:True:=⟨⟩
theorem tw11149055675731438260:True:=⟨⟩
theorem tw15134520526314199750:True:=⟨⟩
theorem tw12721561179609215252:True:=⟨⟩
theorem tw9421341159119974245:True:=⟨⟩
theorem tw14222917598310768750:True:=⟨⟩
theorem tw16963447886344193271:True:=⟨⟩
theorem tw11970152500694553125:True:=⟨⟩
theorem tw16523243513884771215:True:=⟨⟩
theorem tw3224258199146995908:True:=⟨⟩
theorem tw14631215100296293750:True:=⟨⟩
theorem tw6252836700496914017:True:=⟨⟩
theorem tw3149454827778817512:True:=⟨⟩
theorem tw17961518269782953017:True:=⟨⟩
theorem tw13105448906575516647:True:=⟨⟩
theorem tw17102095985366847194:True:=⟨⟩
theorem tw13761092651331356194:True:=⟨⟩
theorem tw10114356367480513211:True:=⟨⟩
theorem tw294122907217736816:True:=⟨⟩
theorem tw11995202106392494227:True:=⟨⟩
theorem tw17722781326223352672:True:=⟨⟩
theorem tw2452092572352106434:True:=⟨⟩
theorem tw10308897317351660669:True:=⟨⟩
theorem tw5986952108270423663:True:=⟨⟩
theorem tw9104240123004887773:True:=⟨⟩
theorem tw13835896469113350006:True:=⟨⟩
theorem tw17169470017845946830:True:=⟨⟩
theorem tw12848427438827520536:True:=⟨⟩
theorem tw8831218128907813284:True:=⟨⟩
theorem tw16406523649284255708:True:=⟨⟩
theorem tw8252162756387917509:True:=⟨⟩
theorem tw17585829126359419213:True:=⟨⟩
theorem tw4368004575304949617:True:=⟨⟩
theorem tw6225611986622756521:True:=⟨⟩
theorem tw11278075715833968240:True:=⟨⟩
theorem tw874726292460249788:True:=⟨⟩
theorem tw9932336494771825366:True:=⟨⟩
theorem tw6821609214072987532:True:=⟨⟩
theorem tw5139191175988022474:True:=⟨⟩
theorem tw4636583849605718434:True:=⟨⟩
theorem tw14967158371574994607:True:=⟨⟩
theorem tw12308927634832561411:True:=⟨⟩
theorem tw9851899771336237644:True:=⟨⟩
theorem tw13842683832841601675:True:=⟨⟩
theorem tw4314400605387243532:True:=⟨⟩
theorem tw10559810887537902229:True:=⟨⟩
theorem tw10817221021423189614:True:=⟨⟩
theorem tw5647058586059066000:True:=⟨⟩
theorem tw16078694213581617084:True:=⟨⟩
theorem tw16683847131316067372:True:=⟨⟩
theorem tw15809760863119962150:True:=⟨⟩
theorem tw121662589259155015:True:=⟨⟩
theorem tw1486264231058140159:True:=⟨⟩
theorem tw16723140621302549842:True:=⟨⟩
theorem tw5201985659235595594:True:=⟨⟩
theorem tw15356413125931921116:True:=⟨⟩
theorem tw6257929545922436870:True:=⟨⟩
theorem tw3306613467799547071:True:=⟨⟩
theorem tw9612708920213502582:True:=⟨⟩
theorem tw11488654423966716635:True:=⟨⟩
theorem tw2309888059199775007:True:=⟨⟩
theorem tw12666428675057134223:True:=⟨⟩
end PySem.W.Fast
open PySem PySem.W PyProof.Rows
set_option maxRecDepth 100000 in
set_option maxHeartbeats 0 in
theorem PySem.Challenge.cw_roundglass_k44_whole_stops_are_just_one_holds : PySem.Challenge.rw_roundglass_k44_whole_stops_are_just_one.Holds := by
 w_on;o_law;k_head;(case hw=>w_witness2)
 k_fill
 refine K44.c3m (l:=PySem.Challenge.rw_roundglass_k44_whole_stops_are_just_one) rfl rfl (fun w h Y=>PySem.W.kIn_of Y) ?F
 case F =>
  intro w mg fa h KX G hmg
  refine' K44.c00 ⟨PySem.W.mg_none_of KX G ?z_abs,PySem.W.mg_none_of KX G ?z_all,PySem.W.mg_none_of KX G ?z_bool,PySem.W.mg_none_of KX G ?z_enumerate,PySem.W.mg_none_of KX G ?z_int,PySem.W.mg_none_of KX G ?z_isinstance,PySem.W.mg_none_of KX G ?z_len,PySem.W.mg_none_of KX G ?z_list,PySem.W.mg_none_of KX G ?z_max,PySem.W.mg_none_of KX G ?z_min,PySem.W.mg_none_of KX G ?z_range,PySem.W.mg_none_of KX G ?z_reversed,PySem.W.mg_none_of KX G ?z_tuple,PySem.W.mg_none_of KX G ?z_zip,DL.c1R _,DL.b4O KX G ?c0_AXIS_RAY ?c1_AXIS_RAY ?c2_AXIS_RAY ?c3_AXIS_RAY,DL.c0G KX G ?c0_FIRST_ROUNDS,DL.a2Q KX G ?c0_FOUR ?c1_FOUR,DL.b4O KX G ?c0_LEVEL_RAY ?c1_LEVEL_RAY ?c2_LEVEL_RAY ?c3_LEVEL_RAY,DL.a2Q KX G ?c0_NOUGHT ?c1_NOUGHT,DL.a2Q KX G ?c0_ONE ?c1_ONE,DL.c0F KX G ?c0_SELF ?c1_SELF ?c2_SELF ?c3_SELF ?c4_SELF ?c5_SELF,DL.a2Q KX G ?c0_TWO ?c1_TWO⟩ hmg (DL.j5 KX G ?n0 ?l0 ?c0 ?k0 ?b0) (DL.j5 KX G ?n1 ?l1 ?c1 ?k1 ?b1) (DL.c0O KX G ?n2 ?l2 ?c2 ?k2 ?b2) (DL.j5 KX G ?n3 ?l3 ?c3 ?k3 ?b3) (DL.j5 KX G ?n4 ?l4 ?c4 ?k4 ?b4) (DL.j5 KX G ?n5 ?l5 ?c5 ?k5 ?b5) (DL.j5 KX G ?n6 ?l6 ?c6 ?k6 ?b6) (DL.j5 KX G ?n7 ?l7 ?c7 ?k7 ?b7) (DL.j5 KX G ?n8 ?l8 ?c8 ?k8 ?b8) (DL.j5 KX G ?n9 ?l9 ?c9 ?k9 ?b9) (DL.j5 KX G ?n10 ?l10 ?c10 ?k10 ?b10) (DL.j5 KX G ?n11 ?l11 ?c11 ?k11 ?b11) (DL.j5 KX G ?n12 ?l12 ?c12 ?k12 ?b12) (DL.j5 KX G ?n13 ?l13 ?c13 ?k13 ?b13) (DL.j5 KX G ?n14 ?l14 ?c14 ?k14 ?b14) (DL.j5 KX G ?n15 ?l15 ?c15 ?k15 ?b15) (DL.j5 KX G ?n16 ?l16 ?c16 ?k16 ?b16) (DL.j5 KX G ?n17 ?l17 ?c17 ?k17 ?b17) (DL.j5 KX G ?n18 ?l18 ?c18 ?k18 ?b18) (DL.j5 KX G ?n19 ?l19 ?c19 ?k19 ?b19) (DL.j5 KX G ?n20 ?l20 ?c20 ?k20 ?b20) (DL.j5 KX G ?n21 ?l21 ?c21 ?k21 ?b21) (DL.j5 KX G ?n22 ?l22 ?c22 ?k22 ?b22) (DL.j5 KX G ?n23 ?l23 ?c23 ?k23 ?b23) (DL.j5 KX G ?n24 ?l24 ?c24 ?k24 ?b24) (DL.j5 KX G ?n25 ?l25 ?c25 ?k25 ?b25) (DL.j5 KX G ?n26 ?l26 ?c26 ?k26 ?b26) (DL.j5 KX G ?n27 ?l27 ?c27 ?k27 ?b27) (DL.j5 KX G ?n28 ?l28 ?c28 ?k28 ?b28) (DL.j5 KX G ?n29 ?l29 ?c29 ?k29 ?b29) (DL.j5 KX G ?n30 ?l30 ?c30 ?k30 ?b30) (DL.j5 KX G ?n31 ?l31 ?c31 ?k31 ?b31) (DL.j5 KX G ?n32 ?l32 ?c32 ?k32 ?b32) (DL.j5 KX G ?n33 ?l33 ?c33 ?k33 ?b33) (DL.j5 KX G ?n34 ?l34 ?c34 ?k34 ?b34) (DL.j5 KX G ?n35 ?l35 ?c35 ?k35 ?b35) (DL.j5 KX G ?n36 ?l36 ?c36 ?k36 ?b36) (DL.j5 KX G ?n37 ?l37 ?c37 ?k37 ?b37) (DL.j5 KX G ?n38 ?l38 ?c38 ?k38 ?b38) (DL.j5 KX G ?n39 ?l39 ?c39 ?k39 ?b39) (DL.j5 KX G ?n40 ?l40 ?c40 ?k40 ?b40) (DL.j5 KX G ?n41 ?l41 ?c41 ?k41 ?b41) (DL.j5 KX G ?n42 ?l42 ?c42 ?k42 ?b42) (DL.j5 KX G ?n43 ?l43 ?c43 ?k43 ?b43) (DL.j5 KX G ?n44 ?l44 ?c44 ?k44 ?b44) (DL.j5 KX G ?n45 ?l45 ?c45 ?k45 ?b45) (DL.j5 KX G ?n46 ?l46 ?c46 ?k46 ?b46) (DL.j5 KX G ?n47 ?l47 ?c47 ?k47 ?b47) (DL.j5 KX G ?n48 ?l48 ?c48 ?k48 ?b48) (DL.j5 KX G ?n49 ?l49 ?c49 ?k49 ?b49) (DL.j5 KX G ?n50 ?l50 ?c50 ?k50 ?b50) (DL.j5 KX G ?n51 ?l51 ?c51 ?k51 ?b51) (DL.j5 KX G ?n52 ?l52 ?c52 ?k52 ?b52) (DL.j5 KX G ?n53 ?l53 ?c53 ?k53 ?b53) (DL.j5 KX G ?n54 ?l54 ?c54 ?k54 ?b54) (DL.j5 KX G ?n55 ?l55 ?c55 ?k55 ?b55) (DL.j5 KX G ?n56 ?l56 ?c56 ?k56 ?b56) (DL.j5 KX G ?n57 ?l57 ?c57 ?k57 ?b57) (DL.j5 KX G ?n58 ?l58 ?c58 ?k58 ?b58) (DL.j5 KX G ?n59 ?l59 ?c59 ?k59 ?b59) (DL.j5 KX G ?n60 ?l60 ?c60 ?k60 ?b60) (DL.j5 KX G ?n61 ?l61 ?c61 ?k61 ?b61) (DL.j5 KX G ?n62 ?l62 ?c62 ?k62 ?b62) (DL.j5 KX G ?n63 ?l63 ?c63 ?k63 ?b63) (DL.j5 KX G ?n64 ?l64 ?c64 ?k64 ?b64) (DL.j5 KX G ?n65 ?l65 ?c65 ?k65 ?b65) (DL.j5 KX G ?n66 ?l66 ?c66 ?k66 ?b66) (DL.c0N KX G ?n67 ?l67 ?c67 ?k67 ?b67)
  (case n0=>k_is);(case l0=>k_is);(case c0=>k_is);(case k0=>k_is);(case b0=>(intro us hl;exact match us,hl with|[_,_],_=>rfl))
  (case n1=>k_is);(case l1=>k_is);(case c1=>k_is);(case k1=>k_is);(case b1=>(intro us hl;exact match us,hl with|[_],_=>rfl))
  (case n2=>k_is);(case l2=>k_is);(case c2=>k_is);(case k2=>k_is);(case b2=>(intro us hl S;exact match us,hl with|[_,_],_=>rfl))
  (case n3=>k_is);(case l3=>k_is);(case c3=>k_is);(case k3=>k_is);(case b3=>(intro us hl;exact match us,hl with|[_,_],_=>rfl))
  (case n4=>k_is);(case l4=>k_is);(case c4=>k_is);(case k4=>k_is);(case b4=>(intro us hl;exact match us,hl with|[_,_],_=>rfl))
  (case n5=>k_is);(case l5=>k_is);(case c5=>k_is);(case k5=>k_is);(case b5=>(intro us hl;exact match us,hl with|[_],_=>rfl))
  (case n6=>k_is);(case l6=>k_is);(case c6=>k_is);(case k6=>k_is);(case b6=>(intro us hl;exact match us,hl with|[_,_,_],_=>rfl))
  (case n7=>k_is);(case l7=>k_is);(case c7=>k_is);(case k7=>k_is);(case b7=>(intro us hl;exact match us,hl with|[_,_,_],_=>rfl))
  (case n8=>k_is);(case l8=>k_is);(case c8=>k_is);(case k8=>k_is);(case b8=>(intro us hl;exact match us,hl with|[_,_],_=>rfl))
  (case n9=>k_is);(case l9=>k_is);(case c9=>k_is);(case k9=>k_is);(case b9=>(intro us hl;exact match us,hl with|[_],_=>rfl))
  (case n10=>k_is);(case l10=>k_is);(case c10=>k_is);(case k10=>k_is);(case b10=>(intro us hl;exact match us,hl with|[_],_=>rfl))
  (case n11=>k_is);(case l11=>k_is);(case c11=>k_is);(case k11=>k_is);(case b11=>(intro us hl;exact match us,hl with|[_],_=>rfl))
  (case n12=>k_is);(case l12=>k_is);(case c12=>k_is);(case k12=>k_is);(case b12=>(intro us hl;exact match us,hl with|[_,_,_,_],_=>rfl))
  (case n13=>k_is);(case l13=>k_is);(case c13=>k_is);(case k13=>k_is);(case b13=>(intro us hl;exact match us,hl with|[_,_],_=>rfl))
  (case n14=>k_is);(case l14=>k_is);(case c14=>k_is);(case k14=>k_is);(case b14=>(intro us hl;exact match us,hl with|[_],_=>rfl))
  (case n15=>k_is);(case l15=>k_is);(case c15=>k_is);(case k15=>k_is);(case b15=>(intro us hl;exact match us,hl with|[_],_=>rfl))
  (case n16=>k_is);(case l16=>k_is);(case c16=>k_is);(case k16=>k_is);(case b16=>(intro us hl;exact match us,hl with|[_,_],_=>rfl))
  (case n17=>k_is);(case l17=>k_is);(case c17=>k_is);(case k17=>k_is);(case b17=>(intro us hl;exact match us,hl with|[_,_,_,_],_=>rfl))
  (case n18=>k_is);(case l18=>k_is);(case c18=>k_is);(case k18=>k_is);(case b18=>(intro us hl;exact match us,hl with|[_,_,_,_],_=>rfl))
  (case n19=>k_is);(case l19=>k_is);(case c19=>k_is);(case k19=>k_is);(case b19=>(intro us hl;exact match us,hl with|[_,_,_,_],_=>rfl))
  (case n20=>k_is);(case l20=>k_is);(case c20=>k_is);(case k20=>k_is);(case b20=>(intro us hl;exact match us,hl with|[_,_,_],_=>rfl))
  (case n21=>k_is);(case l21=>k_is);(case c21=>k_is);(case k21=>k_is);(case b21=>(intro us hl;exact match us,hl with|[_,_,_],_=>rfl))
  (case n22=>k_is);(case l22=>k_is);(case c22=>k_is);(case k22=>k_is);(case b22=>(intro us hl;exact match us,hl with|[_,_],_=>rfl))
  (case n23=>k_is);(case l23=>k_is);(case c23=>k_is);(case k23=>k_is);(case b23=>(intro us hl;exact match us,hl with|[_,_,_,_,_],_=>rfl))
  (case n24=>k_is);(case l24=>k_is);(case c24=>k_is);(case k24=>k_is);(case b24=>(intro us hl;exact match us,hl with|[_,_],_=>rfl))
  (case n25=>k_is);(case l25=>k_is);(case c25=>k_is);(case k25=>k_is);(case b25=>(intro us hl;exact match us,hl with|[_,_,_],_=>rfl))
  (case n26=>k_is);(case l26=>k_is);(case c26=>k_is);(case k26=>k_is);(case b26=>(intro us hl;exact match us,hl with|[_,_],_=>rfl))
  (case n27=>k_is);(case l27=>k_is);(case c27=>k_is);(case k27=>k_is);(case b27=>(intro us hl;exact match us,hl with|[_,_,_],_=>rfl))
  (case n28=>k_is);(case l28=>k_is);(case c28=>k_is);(case k28=>k_is);(case b28=>(intro us hl;exact match us,hl with|[_,_],_=>rfl))
  (case n29=>k_is);(case l29=>k_is);(case c29=>k_is);(case k29=>k_is);(case b29=>(intro us hl;exact match us,hl with|[_,_],_=>rfl))
  (case n30=>k_is);(case l30=>k_is);(case c30=>k_is);(case k30=>k_is);(case b30=>(intro us hl;exact match us,hl with|[_],_=>rfl))
  (case n31=>k_is);(case l31=>k_is);(case c31=>k_is);(case k31=>k_is);(case b31=>(intro us hl;exact match us,hl with|[_],_=>rfl))
  (case n32=>k_is);(case l32=>k_is);(case c32=>k_is);(case k32=>k_is);(case b32=>(intro us hl;exact match us,hl with|[_],_=>rfl))
  (case n33=>k_is);(case l33=>k_is);(case c33=>k_is);(case k33=>k_is);(case b33=>(intro us hl;exact match us,hl with|[_],_=>rfl))
  (case n34=>k_is);(case l34=>k_is);(case c34=>k_is);(case k34=>k_is);(case b34=>(intro us hl;exact match us,hl with|[_,_],_=>rfl))
  (case n35=>k_is);(case l35=>k_is);(case c35=>k_is);(case k35=>k_is);(case b35=>(intro us hl;exact match us,hl with|[_],_=>rfl))
  (case n36=>k_is);(case l36=>k_is);(case c36=>k_is);(case k36=>k_is);(case b36=>(intro us hl;exact match us,hl with|[_],_=>rfl))
  (case n37=>k_is);(case l37=>k_is);(case c37=>k_is);(case k37=>k_is);(case b37=>(intro us hl;exact match us,hl with|[_,_],_=>rfl))
  (case n38=>k_is);(case l38=>k_is);(case c38=>k_is);(case k38=>k_is);(case b38=>(intro us hl;exact match us,hl with|[_,_],_=>rfl))
  (case n39=>k_is);(case l39=>k_is);(case c39=>k_is);(case k39=>k_is);(case b39=>(intro us hl;exact match us,hl with|[_,_],_=>rfl))
  (case n40=>k_is);(case l40=>k_is);(case c40=>k_is);(case k40=>k_is);(case b40=>(intro us hl;exact match us,hl with|[_,_,_],_=>rfl))
  (case n41=>k_is);(case l41=>k_is);(case c41=>k_is);(case k41=>k_is);(case b41=>(intro us hl;exact match us,hl with|[_,_],_=>rfl))
  (case n42=>k_is);(case l42=>k_is);(case c42=>k_is);(case k42=>k_is);(case b42=>(intro us hl;exact match us,hl with|[_,_],_=>rfl))
  (case n43=>k_is);(case l43=>k_is);(case c43=>k_is);(case k43=>k_is);(case b43=>(intro us hl;exact match us,hl with|[_],_=>rfl))
  (case n44=>k_is);(case l44=>k_is);(case c44=>k_is);(case k44=>k_is);(case b44=>(intro us hl;exact match us,hl with|[_,_,_],_=>rfl))
  (case n45=>k_is);(case l45=>k_is);(case c45=>k_is);(case k45=>k_is);(case b45=>(intro us hl;exact match us,hl with|[_,_],_=>rfl))
  (case n46=>k_is);(case l46=>k_is);(case c46=>k_is);(case k46=>k_is);(case b46=>(intro us hl;exact match us,hl with|[_,_,_],_=>rfl))
  (case n47=>k_is);(case l47=>k_is);(case c47=>k_is);(case k47=>k_is);(case b47=>(intro us hl;exact match us,hl with|[_,_,_],_=>rfl))
  (case n48=>k_is);(case l48=>k_is);(case c48=>k_is);(case k48=>k_is);(case b48=>(intro us hl;exact match us,hl with|[_,_,_],_=>rfl))
  (case n49=>k_is);(case l49=>k_is);(case c49=>k_is);(case k49=>k_is);(case b49=>(intro us hl;exact match us,hl with|[_,_,_],_=>rfl))
  (case n50=>k_is);(case l50=>k_is);(case c50=>k_is);(case k50=>k_is);(case b50=>(intro us hl;exact match us,hl with|[_,_,_,_],_=>rfl))
  (case n51=>k_is);(case l51=>k_is);(case c51=>k_is);(case k51=>k_is);(case b51=>(intro us hl;exact match us,hl with|[_],_=>rfl))
  (case n52=>k_is);(case l52=>k_is);(case c52=>k_is);(case k52=>k_is);(case b52=>(intro us hl;exact match us,hl with|[_],_=>rfl))
  (case n53=>k_is);(case l53=>k_is);(case c53=>k_is);(case k53=>k_is);(case b53=>(intro us hl;exact match us,hl with|[_],_=>rfl))
  (case n54=>k_is);(case l54=>k_is);(case c54=>k_is);(case k54=>k_is);(case b54=>(intro us hl;exact match us,hl with|[_],_=>rfl))
  (case n55=>k_is);(case l55=>k_is);(case c55=>k_is);(case k55=>k_is);(case b55=>(intro us hl;exact match us,hl with|[_],_=>rfl))
  (case n56=>k_is);(case l56=>k_is);(case c56=>k_is);(case k56=>k_is);(case b56=>(intro us hl;exact match us,hl with|[_],_=>rfl))
  (case n57=>k_is);(case l57=>k_is);(case c57=>k_is);(case k57=>k_is);(case b57=>(intro us hl;exact match us,hl with|[_,_],_=>rfl))
  (case n58=>k_is);(case l58=>k_is);(case c58=>k_is);(case k58=>k_is);(case b58=>(intro us hl;exact match us,hl with|[_],_=>rfl))
  (case n59=>k_is);(case l59=>k_is);(case c59=>k_is);(case k59=>k_is);(case b59=>(intro us hl;exact match us,hl with|[_,_,_],_=>rfl))
  (case n60=>k_is);(case l60=>k_is);(case c60=>k_is);(case k60=>k_is);(case b60=>(intro us hl;exact match us,hl with|[_,_],_=>rfl))
  (case n61=>k_is);(case l61=>k_is);(case c61=>k_is);(case k61=>k_is);(case b61=>(intro us hl;exact match us,hl with|[_,_],_=>rfl))
  (case n62=>k_is);(case l62=>k_is);(case c62=>k_is);(case k62=>k_is);(case b62=>(intro us hl;exact match us,hl with|[_,_,_],_=>rfl))
  (case n63=>k_is);(case l63=>k_is);(case c63=>k_is);(case k63=>k_is);(case b63=>(intro us hl;exact match us,hl with|[_,_],_=>rfl))
  (case n64=>k_is);(case l64=>k_is);(case c64=>k_is);(case k64=>k_is);(case b64=>(intro us hl;exact match us,hl with|[_],_=>rfl))
  (case n65=>k_is);(case l65=>k_is);(case c65=>k_is);(case k65=>k_is);(case b65=>(intro us hl;exact match us,hl with|[_],_=>rfl))
  (case n66=>k_is);(case l66=>k_is);(case c66=>k_is);(case k66=>k_is);(case b66=>(intro us hl;exact match us,hl with|[_],_=>rfl))
  (case n67=>k_is);(case l67=>k_is);(case c67=>k_is);(case k67=>k_is);(case b67=>(intro us hl;exact match us,hl with|[_],_=>rfl))
  (case z_abs=>k_is);(case z_all=>k_is);(case z_bool=>k_is);(case z_enumerate=>k_is);(case z_int=>k_is);(case z_isinstance=>k_is);(case z_len=>k_is);(case z_list=>k_is);(case z_max=>k_is);(case z_min=>k_is);(case z_range=>k_is);(case z_reversed=>k_is);(case z_tuple=>k_is);(case z_zip=>k_is);(case c0_AXIS_RAY=>k_is);(case c1_AXIS_RAY=>k_is);(case c2_AXIS_RAY=>k_is);(case c3_AXIS_RAY=>k_is);(case c0_FIRST_ROUNDS=>k_is);(case c0_FOUR=>k_is);(case c1_FOUR=>k_is);(case c0_LEVEL_RAY=>k_is);(case c1_LEVEL_RAY=>k_is);(case c2_LEVEL_RAY=>k_is);(case c3_LEVEL_RAY=>k_is);(case c0_NOUGHT=>k_is);(case c1_NOUGHT=>k_is);(case c0_ONE=>k_is);(case c1_ONE=>k_is);(case c0_SELF=>k_is);(case c1_SELF=>k_is);(case c2_SELF=>k_is);(case c3_SELF=>k_is);(case c4_SELF=>k_is);(case c5_SELF=>k_is);(case c0_TWO=>k_is);(case c1_TWO=>k_is)
end
