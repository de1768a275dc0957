import PyProof.Rows.All
import Wide.All
import OpenK.AllK
import Wide.FinOn
import PyProof.EqAt
import PyProof.EqKinds
import PyProof.TupleCall
import PyProof.ZipIter
import PyProof.EnumMake
import PyProof.EnumFor
import PyProof.Rows.EnumRows
import PyProof.CompMap
import PyProof.CompUse
import KE.KRevSl
import KE.KRevIter
import PyProof.ListRange
import PyProof.AutoRange
import PyProof.FactsAll.range_2
import PyProof.MaxThree
import KE.RegKTryMore
import PyProof.Rows.SumAny
import KE.KMinBuiltin
import PyProof.Rows.CallKwBuiltin
import Lean
import PySem.Challenge.RW_roundglass_k45_whole_stops_one_by_one
noncomputable section
set_option compiler.extract_closed false
set_option Elab.async false
set_option linter.all false
set_option maxRecDepth 100000
section
namespace L2
open PySem PySem.Spec PyProof.Rows
abbrev Key:=Sum Int Str
def b5T:Key→Value→Bool
 | .inl k,v=>Value.isInt k v
 | .inr x,v=>Value.isStrOf x v
def c0C (w:World):Key→Int
 | .inl k=>hashInt k
 | .inr x=>hashStr w x
theorem u9:∀ {k:Key} {v:Value},b5T k v=true→(∃ i t,k=Sum.inl i∧v=Value.int i t)∨(∃ x t,k=Sum.inr x∧v=Value.str x t)
 | .inl i,v,h=>by
  obtain ⟨t,e⟩:=Value.isInt_shape (k:=i) (v:=v) h
  exact .inl ⟨i,t,rfl,e⟩
 | .inr x,v,h=>by
  obtain ⟨t,e⟩:=Value.isStrOf_shape (x:=x) (v:=v) h
  exact .inr ⟨x,t,rfl,e⟩
theorem b7o (a b:Int):decide ((Sum.inl a:Key)=Sum.inl b)=(a == b):=by
 by_cases e:a=b
 ·subst e; simp
 ·have h:¬ (Sum.inl a:Key)=Sum.inl b:=fun q=>e (Sum.inl.inj q)
  rw [decide_eq_false h]
  exact (beq_eq_false_iff_ne.mpr e).symm
theorem b7l (a b:Str):decide ((Sum.inr a:Key)=Sum.inr b)=decide (a=b):=by
 by_cases e:a=b
 ·subst e; simp
 ·have h:¬ (Sum.inr a:Key)=Sum.inr b:=fun q=>e (Sum.inr.inj q)
  rw [decide_eq_false h,decide_eq_false e]
theorem b7n (a:Int) (b:Str):decide ((Sum.inl a:Key)=Sum.inr b)=false:=decide_eq_false (fun q=>nomatch q)
theorem b7m (a:Str) (b:Int):decide ((Sum.inr a:Key)=Sum.inl b)=false:=decide_eq_false (fun q=>nomatch q)
def a8g (prog:Program) (w:World):PySem.KeyKind prog w Key where
 is:=b5T
 hash:=c0C w
 inj:=fun v a b ha hb=>by
  rcases u9 ha with ⟨i,t,rfl,rfl⟩ | ⟨x,t,rfl,rfl⟩
  ·rcases u9 hb with ⟨j,u,rfl,e⟩ | ⟨y,u,rfl,e⟩
   ·injection e with e1 _; rw [e1]
   ·exact nomatch e
  ·rcases u9 hb with ⟨j,u,rfl,e⟩ | ⟨y,u,rfl,e⟩
   ·exact nomatch e
   ·injection e with e1 _; rw [e1]
 byValue:=fun k v h=>by
  rcases u9 h with ⟨i,t,rfl,rfl⟩ | ⟨x,t,rfl,rfl⟩ <;> rfl
 pyHash:=fun hv h=>by
  rcases u9 hv with ⟨i,t,rfl,rfl⟩ | ⟨x,t,rfl,rfl⟩
  ·exact wpAny_pyHash_int h
  ·exact wpAny_pyHash_str h
 eqBool:=fun hu hv h=>by
  rcases u9 hu with ⟨i,t,rfl,rfl⟩ | ⟨x,t,rfl,rfl⟩
  ·rcases u9 hv with ⟨j,u,rfl,rfl⟩ | ⟨y,u,rfl,rfl⟩
   ·rw [b7o] at h; exact wpAny_eqBool_int h
   ·rw [b7n] at h; exact SeqAt.EqAt.int_str i t y u _ _ _ _ h
  ·rcases u9 hv with ⟨j,u,rfl,rfl⟩ | ⟨y,u,rfl,rfl⟩
   ·rw [b7m] at h; exact SeqAt.EqAt.str_int x t j u _ _ _ _ h
   ·rw [b7l] at h; exact wpAny_eqBool_str h
 «strs»:=fun k x t v h=>by
  rcases u9 h with ⟨i,u,rfl,e⟩ | ⟨y,u,rfl,e⟩
  ·exact nomatch e
  ·injection e with e1 _
   subst e1
   cases v <;> rfl
end L2
namespace L2
open PySem PySem.Spec PyProof.Rows
inductive V where
 | non | bl (b:Bool) | int (i:Int) | str (x:Str) | byt (b:Array UInt8) | flt (b:UInt64) | ref (a:Addr) | ty (n:String)
 deriving DecidableEq
def m9:V→Value→Prop
 | .non,u=>u=Value.none
 | .bl b,u=>u=Value.bool b
 | .int i,u=>∃ t,u=Value.int i t
 | .str x,u=>∃ t,u=Value.str x t
 | .byt b,u=>∃ t,u=Value.bytes b t
 | .flt b,u=>∃ t,u=Value.float b t
 | .ref a,u=>u=Value.ref a
 | .ty n,u=>u=Value.type n
abbrev j9:List V→List Value→Prop:=Paired m9
theorem j9.length {xs:List V} {us:List Value} (r:j9 xs us):xs.length=us.length:=Paired.length r
theorem j9.get:∀ {xs:List V} {us:List Value} {i:Nat} {x:V},j9 xs us→xs[i]? = some x→∃ u,us[i]? = some u∧m9 x u
 | _,_,_,_,.nil,e=>by simp at e
 | _,_,0,_,.cons r _,e=>by simp at e; subst e; exact ⟨_,rfl,r⟩
 | _,_,i+1,x,.cons _ t,e=>by
  obtain ⟨u,h1,h2⟩:=j9.get (i:=i) (x:=x) t (by simpa using e)
  exact ⟨u,by simpa using h1,h2⟩
theorem j9.set {x:V} {u:Value} (r:m9 x u):∀ {xs:List V} {us:List Value} (i:Nat),j9 xs us→j9 (xs.set i x) (us.set i u)
 | _,_,_,.nil=>.nil
 | _,_,0,.cons _ t=>.cons r t
 | _,_,i+1,.cons q t=>.cons q (j9.set r i t)
theorem j9.append:∀ {xs ys:List V} {us ws:List Value},j9 xs us→j9 ys ws→j9 (xs++ys) (us++ws)
 | _,_,_,_,.nil,s=>s
 | _,_,_,_,.cons r t,s=>.cons r (j9.append t s)
theorem j9.take:∀ {xs:List V} {us:List Value} (n:Nat),j9 xs us→j9 (xs.take n) (us.take n)
 | _,_,0,_=>.nil
 | _,_,_+1,.nil=>.nil
 | _,_,n+1,.cons r t=>.cons r (j9.take n t)
theorem j9.drop:∀ {xs:List V} {us:List Value} (n:Nat),j9 xs us→j9 (xs.drop n) (us.drop n)
 | _,_,0,r=>r
 | _,_,_+1,.nil=>.nil
 | _,_,n+1,.cons _ t=>j9.drop n t
def b8p:Option V→Option Value→Prop
 | some v,some u=>m9 v u
 | none,none=>True
 | _,_=>False
def KV {κ:Type}:List (κ × V)→List (κ × Value)→Prop:=Paired fun (p:κ × V) (q:κ × Value)=>p.1=q.1∧m9 p.2 q.2
def kV:Key→V
 | .inl i=>.int i
 | .inr x=>.str x
inductive HO where
 | lst (xs:List V)
 | tup (xs:List V)
 | dK (kvs:List (Key × V)) | dT (kvs:List (List Key × V))
 | set (S:Int→Bool) (n:Nat)
 | ins (C dx:Addr) (fs:List (Str × V))
 | own (x:Addr)
 | xd (fs:List (Str × V))
 | met (f x:Addr)
 | rng (lo hi:Int)
 | frz (o:Obj) (u:HO)
 | tbl (ps:Array Value)
 | ext (φ:Heap→Prop)
abbrev Hp:=Addr→Option HO
def upd (H:Hp) (a:Addr) (o:HO):Hp:=fun b=>if b=a then some o else H b
theorem j2 {H:Hp} {a:Addr} {o:HO}:upd H a o a=some o:=by unfold upd; rw [if_pos rfl]
theorem i7 {H:Hp} {a b:Addr} {o:HO} (h:b≠a):upd H a o b=H b:=by unfold upd; rw [if_neg h]
theorem Y2 {H:Hp} {a:Addr} {o u:HO}:upd (upd H a o) a u=upd H a u:=by
 funext b; unfold upd; split <;> rfl
theorem C5 {H:Hp} {a b:Addr} {o:HO} (h:H a=some o) (h':H b=none):a≠b:=by
 intro e; subst e; rw [h] at h'; cases h'
section
variable (P:Program) (w:World)
def B2 (H:Hp) (h:Heap) (a:Addr):HO→Prop
 | .lst xs=>xs.length≤sizeLine∧∃ (its:List Value) (n:Nat),j9 xs its∧h.get? a=some { cls:=.type "list",data:=.seq its.toArray n }
 | .tup xs=>xs.length≤sizeLine∧∃ its:List Value,j9 xs its∧IsTup h a its.toArray
 | .dK kvs=>kvs.length≤sizeLine∧(a == sysModules)=false∧∃ vs,KV kvs vs∧h.DictOf (a8g P w) a vs
 | .dT kvs=>kvs.length≤sizeLine∧(a == sysModules)=false∧∃ xs:List (List Key × Addr × Value),
   Paired (fun (p:List Key × V) (q:List Key × Addr × Value)=>p.1=q.1∧H q.2.1=some (.tup (p.1.map kV))∧m9 p.2 q.2.2) kvs xs ∧
   ∃ o es ep,h.get? a=some o∧o.ExactDict∧o.data = .dict es ep∧es.toList=xs.map (entryOfKey (tupleKind (a8g P w)))∧(xs.map (·.1)).Nodup
 | .set S n=>h.SetOf (intKind P w) a S n
 | .ins C dx fs=>H dx=some (.own a)∧fs.length≤1000∧dx≠a∧h.get? a=some (PySem.W.instObj C dx) ∧
   ∃ mA,h.Ns1 dx mA∧(∀ f,b8p (fs.lookup f) (mA f))∧PySem.Within mA (fs.map (·.1))
 | .own _=>∃ o,h.get? a=some o
 | .xd fs=>∃ mA,h.Ns1 a mA∧∀ f,b8p (fs.lookup f) (mA f)
 | .rng lo hi=>∃ t u v,h.get? a=some { cls:=.type "range",data:=.fields #[.int lo t,.int hi u,.int 1 v] }
 | .frz o u=>h.get? a=some o∧B2 H h a u
 | .tbl ps=>h.get? a=some { cls:=.none,data:=.fields ps }
 | .met f x=>h.get? a=some (PySem.W.methodObj (.ref f) (.ref x))
 | .ext φ=>φ h∧(∃ o,h.get? a=some o)∧∀ h1 h2:Heap,φ h1→(∀ o,h1.get? a=some o→h2.get? a=some o)→φ h2
def HOk (H:Hp) (h:Heap):Prop:=∀ a o,H a=some o→B2 P w H h a o
end
section
variable {P:Program} {w:World} {H H':Hp} {h h':Heap} {a:Addr} {o:HO}
theorem B2.lt (x:B2 P w H h a o):a<h.objs.size:=by
 cases o with
 | lst xs=>obtain ⟨_,_,_,_,e⟩:=x; exact Heap.lt_size e
 | tup xs=>obtain ⟨_,_,_,p⟩:=x; exact p.lt
 | dK kvs=>obtain ⟨_,_,_,_,o,_,_,e,_⟩:=x; exact Heap.lt_size e
 | dT kvs=>obtain ⟨_,_,_,_,o,_,_,e,_⟩:=x; exact Heap.lt_size e
 | set S n=>obtain ⟨o,_,_,_,e,_⟩:=x; exact Heap.lt_size e
 | ins C dx fs=>obtain ⟨_,_,_,e,_⟩:=x; exact Heap.lt_size e
 | own y=>obtain ⟨_,e⟩:=x; exact Heap.lt_size e
 | xd fs=>obtain ⟨_,⟨_,_,_,e,_⟩,_⟩:=x; exact Heap.lt_size e
 | rng lo hi=>obtain ⟨_,_,_,e⟩:=x; exact Heap.lt_size e
 | frz ob u=>obtain ⟨e,_⟩:=x; exact Heap.lt_size e
 | tbl ps=>exact Heap.lt_size (show h.get? a=some _ from x)
 | met f y=>exact Heap.lt_size (show h.get? a=some _ from x)
 | ext φ=>obtain ⟨_,⟨_,e⟩,_⟩:=x; exact Heap.lt_size e
theorem Paired.mapP {α β:Type} {F G:α→β→Prop}:∀ {l₁:List α} {l₂:List β},Paired F l₁ l₂→(∀ a b,F a b→G a b)→Paired G l₁ l₂
 | _,_,.nil,_=>.nil
 | _,_,.cons r t,f=>.cons (f _ _ r) (Paired.mapP t f)
theorem B2.stay (x:B2 P w H h a o) (k:∀ b u,(b=a∨H b=some (.own a))→h.get? b=some u→h'.get? b=some u)
  (ho:∀ b,H b=some (.own a)→H' b=some (.own a)) (ht:∀ b xs,H b=some (.tup xs)→H' b=some (.tup xs)):B2 P w H' h' a o:=by
 induction o with
 | lst xs=>obtain ⟨z,its,n,r,e⟩:=x; exact ⟨z,its,n,r,k _ _ (.inl rfl) e⟩
 | tup xs=>obtain ⟨z,its,r,ob,e,c⟩:=x; exact ⟨z,its,r,ob,k _ _ (.inl rfl) e,c⟩
 | dK kvs=>obtain ⟨z,y,vs,r,ob,es,ep,e,c⟩:=x; exact ⟨z,y,vs,r,ob,es,ep,k _ _ (.inl rfl) e,c⟩
 | dT kvs =>
  obtain ⟨z,y,xs,r,ob,es,ep,e,c⟩:=x
  exact ⟨z,y,xs,Paired.mapP r fun p q z=>⟨z.1,ht _ _ z.2.1,z.2.2⟩,ob,es,ep,k _ _ (.inl rfl) e,c⟩
 | set S n=>obtain ⟨ob,es,ep,t,e,c⟩:=x; exact ⟨ob,es,ep,t,k _ _ (.inl rfl) e,c⟩
 | ins C dx fs =>
  obtain ⟨d,z,ne,e,mA,⟨od,es,ep,e2,c⟩,r⟩:=x
  exact ⟨ho _ d,z,ne,k _ _ (.inl rfl) e,mA,⟨od,es,ep,k _ _ (.inr d) e2,c⟩,r⟩
 | own y=>obtain ⟨ob,e⟩:=x; exact ⟨ob,k _ _ (.inl rfl) e⟩
 | xd fs=>obtain ⟨mA,⟨od,es,ep,e,c⟩,r⟩:=x; exact ⟨mA,⟨od,es,ep,k _ _ (.inl rfl) e,c⟩,r⟩
 | rng lo hi=>obtain ⟨t,u,v,e⟩:=x; exact ⟨t,u,v,k _ _ (.inl rfl) e⟩
 | frz ob u ih=>obtain ⟨e,q⟩:=x; exact ⟨k _ _ (.inl rfl) e,ih q⟩
 | tbl ps =>
  have e:h.get? a=some { cls:=.none,data:=.fields ps }:=x
  show h'.get? a=some { cls:=.none,data:=.fields ps }
  exact k a _ (.inl rfl) e
 | met f y =>
  have e:h.get? a=some (PySem.W.methodObj (.ref f) (.ref y)):=x
  show h'.get? a=some (PySem.W.methodObj (.ref f) (.ref y))
  exact k a _ (.inl rfl) e
 | ext φ=>obtain ⟨p,⟨o,e⟩,st⟩:=x; exact ⟨st _ _ p fun o q=>k _ _ (.inl rfl) q,⟨o,k _ _ (.inl rfl) e⟩,st⟩
theorem HOk.lt (x:HOk P w H h) (e:H a=some o):a<h.objs.size:=(x a o e).lt
theorem HOk.fresh (x:HOk P w H h) (e:h.objs.size≤a):H a=none:=by
 cases q:H a with
 | none=>rfl
 | some u=>exact absurd (Nat.lt_of_lt_of_le (x.lt q) e) (Nat.lt_irrefl _)
theorem HOk.kept (x:HOk P w H h) (k:∀ b u,h.get? b=some u→h'.get? b=some u):HOk P w H h':=fun a o e =>
 (x a o e).stay (fun b u _ q=>k b u q) (fun _ q=>q) fun _ _ q=>q
theorem HOk.laid (x:HOk P w H h) (k:∀ b u,h.get? b=some u→h'.get? b=some u) (hp:h.objs.size≤a) (new:B2 P w (upd H a o) h' a o):HOk P w (upd H a o) h':=fun b u e=>by
 have hn:=x.fresh hp
 by_cases hb:b=a
 ·subst hb; rw [j2] at e; cases e; exact new
 ·rw [i7 hb] at e
  exact (x b u e).stay (fun c v _ q=>k c v q) (fun c q=>by rw [i7 (C5 q hn)]; exact q) fun c xs q=>by rw [i7 (C5 q hn)]; exact q
end
def Rd (H:Hp) (a:Addr) (u:HO):Prop:=H a=some u ∨ ∃ o,H a=some (.frz o u)
theorem Rd.of {H:Hp} {a:Addr} {u:HO} (h:H a=some u):Rd H a u:=.inl h
theorem Rd.ok {P:Program} {w:World} {H:Hp} {h:Heap} {a:Addr} {u:HO} (r:Rd H a u) (x:HOk P w H h):B2 P w H h a u:=by
 rcases r with r | ⟨o,r⟩
 ·exact x a u r
 ·obtain ⟨_,q⟩:=x a _ r
  exact q
def Mut:Option HO→Prop
 | some (.lst _)=>True
 | some (.dK _)=>True
 | some (.dT _)=>True
 | some (.set _ _)=>True
 | some (.ins _ _ _)=>True
 | some (.ext _)=>True
 | _=>False
section
variable {P:Program} {w:World} {H:Hp} {h h':Heap} {x e:Addr} {o':HO}
theorem HOk.write (ok:HOk P w H h) (mu:Mut (H x)) (he:e=x∨H e=some (.own x)) (k:∀ b u,b≠e→h.get? b=some u→h'.get? b=some u) (heo:∃ u,h'.get? e=some u)
  (new:B2 P w (upd H x o') h' x o'):HOk P w (upd H x o') h':=fun b u q=>by
 have nown:∀ c y,H c=some (.own y)→c≠x:=fun c y r z=>by subst z; rw [r] at mu; exact mu
 have ntup:∀ c xs,H c=some (.tup xs)→c≠x:=fun c xs r z=>by subst z; rw [r] at mu; exact mu
 by_cases hb:b=x
 ·subst hb; rw [j2] at q; cases q; exact new
 ·rw [i7 hb] at q
  by_cases hbe:b=e
  ·have q':H b=some (.own x):=by
    rcases he with z | z
    ·exact absurd (hbe.trans z) hb
    ·rw [hbe]; exact z
   rw [q] at q'; cases q'
   obtain ⟨v,hv⟩:=heo
   exact ⟨v,by rw [hbe]; exact hv⟩
  ·refine (ok b u q).stay (fun c v hc r=>k c v ?_ r) (fun c r=>by rw [i7 (nown c b r)]; exact r) fun c xs r=>by rw [i7 (ntup c xs r)]; exact r
   rcases hc with rfl | hc
   ·exact hbe
   ·rintro rfl
    rcases he with z | z
    ·exact nown c b hc z
    ·rw [hc] at z; cases z; exact hb rfl
end
structure Un (fs ex:List Addr) (H H':Hp) (h h':Heap):Prop where
 keep:∀ b o,h.get? b=some o→H b=none→b∉fs→b∉ex→h'.get? b=some o
 slot:∀ b o,h.get? b=some o→H b=none→b∈fs→b∉ex→∃ sl,h'.get? b=some { o with slots:=sl }
 free:∀ b o,h.get? b=some o→H b=none→b∉ex→H' b=none
 there:∀ b o,h.get? b=some o→b∉ex→∃ o',h'.get? b=some o'
 tups:∀ b xs,H b=some (.tup xs)→H' b=some (.tup xs)
 frzs:∀ b o u,H b=some (.frz o u)→H' b=some (.frz o u)
 tbls:∀ b ps,H b=some (.tbl ps)→∃ more,H' b=some (.tbl (ps++more))
section
variable {fs fs' ex ex':List Addr} {H H1 H2:Hp} {h h1 h2 h':Heap} {a x e:Addr} {o:HO}
theorem Un.any (u:Un fs ex H H1 h h1) {b:Addr} {ob:Obj} (q:h.get? b=some ob) (n:H b=none) (hx:b∉ex):∃ sl,h1.get? b=some { ob with slots:=sl }:=by
 by_cases hb:b∈fs
 ·exact u.slot b ob q n hb hx
 ·exact ⟨ob.slots,u.keep b ob q n hb hx⟩
theorem Un.trans (a:Un fs ex H H1 h h1) (b:Un fs ex H1 H2 h1 h2):Un fs ex H H2 h h2 where
 keep:=fun c ob q n hc hx=>b.keep c ob (a.keep c ob q n hc hx) (a.free c ob q n hx) hc hx
 slot:=fun c ob q n hc hx=>by
  obtain ⟨sl,e1⟩:=a.slot c ob q n hc hx
  obtain ⟨sl',e2⟩:=b.slot c _ e1 (a.free c ob q n hx) hc hx
  exact ⟨sl',e2⟩
 free:=fun c ob q n hx=>by
  obtain ⟨o',e1⟩:=a.there c ob q hx
  exact b.free c o' e1 (a.free c ob q n hx) hx
 there:=fun c ob q hx=>by
  obtain ⟨o',e1⟩:=a.there c ob q hx
  exact b.there c o' e1 hx
 tups:=fun c xs q=>b.tups c xs (a.tups c xs q)
 frzs:=fun c ob xs q=>b.frzs c ob xs (a.frzs c ob xs q)
 tbls:=fun c ps q=>by
  obtain ⟨m1,e1⟩:=a.tbls c ps q
  obtain ⟨m2,e2⟩:=b.tbls c _ e1
  exact ⟨m1++m2,by rw [e2,Array.append_assoc]⟩
theorem Un.kept (k:∀ b u,h.get? b=some u→h'.get? b=some u):Un fs ex H H h h' :=
 ⟨fun b ob q _ _ _=>k b ob q,fun b ob q _ _ _=>⟨ob.slots,k b ob q⟩,fun _ _ _ n _=>n,fun b ob q _=>⟨ob,k b ob q⟩,fun _ _ q=>q,fun _ _ _ q=>q,fun _ ps q=>⟨#[],by rw [q]; simp⟩⟩
theorem Un.refl:Un fs ex H H h h:=Un.kept fun _ _ q=>q
theorem Un.laid (k:∀ b u,h.get? b=some u→h'.get? b=some u) (hp:h.objs.size≤a) (hn:H a=none):Un fs ex H (upd H a o) h h' where
 keep:=fun b u q _ _ _=>k b u q
 slot:=fun b u q _ _ _=>⟨u.slots,k b u q⟩
 free:=fun b u q n _=>by rw [i7 (Nat.ne_of_lt (Nat.lt_of_lt_of_le (Heap.lt_size q) hp))]; exact n
 there:=fun b u q _=>⟨u,k b u q⟩
 tups:=fun b xs q=>by rw [i7 (C5 q hn)]; exact q
 frzs:=fun b u xs q=>by rw [i7 (C5 q hn)]; exact q
 tbls:=fun b ps q=>⟨#[],by rw [i7 (C5 q hn),q]; simp⟩
theorem Un.write (mu:Mut (H x)) (he:e=x∨H e=some (.own x)) (k:∀ b u,b≠e→h.get? b=some u→h'.get? b=some u) (heo:∃ u,h'.get? e=some u):Un fs ex H (upd H x o) h h':=by
 have hx:∀ b,H b=none→b≠x:=fun b n z=>by subst z; rw [n] at mu; exact mu
 have hb:∀ b,H b=none→b≠e:=fun b n z=>by
  subst z
  rcases he with r | r
  ·exact hx b n r
  ·rw [n] at r; cases r
 have hm:∀ b u,H b=some u→¬ Mut (some u)→b≠x:=fun b u q nm z=>by subst z; rw [q] at mu; exact nm mu
 refine ⟨fun b u q n _ _=>k b u (hb b n) q,fun b u q n _ _=>⟨u.slots,k b u (hb b n) q⟩,fun b u q n _=>by rw [i7 (hx b n)]; exact n,fun b u q _=>?_,
  fun b xs q=>by rw [i7 (hm b _ q fun z=>z)]; exact q,fun b u xs q=>by rw [i7 (hm b _ q fun z=>z)]; exact q,fun b ps q=>⟨#[],by rw [i7 (hm b _ q fun z=>z),q]; simp⟩⟩
 by_cases hbe:b=e
 ·subst hbe; exact heo
 ·exact ⟨u,k b u hbe q⟩
theorem Un.mono (u:Un fs ex H H1 h h1) (hs:∀ b∈fs,b∈fs') (hx:∀ b∈ex,b∈ex'):Un fs' ex' H H1 h h1 :=
 ⟨fun b ob q n hb he=>u.keep b ob q n (fun z=>hb (hs b z)) fun z=>he (hx b z),fun _ _ q n _ he=>u.any q n fun z=>he (hx _ z),fun b ob q n he=>u.free b ob q n fun z=>he (hx b z),fun b ob q he=>u.there b ob q fun z=>he (hx b z),u.tups,u.frzs,u.tbls⟩
end
def trk (h:Heap) (H:Hp):List Addr:=(List.range h.objs.size).filter fun a=>(H a).isSome
def a4s (h:Heap) (H:Hp):Heap:=PySem.W.hideAll h (trk h H)
theorem a9j (h:Heap) (H:Hp):(a4s h H).objs.size=h.objs.size:=PySem.W.hideAll_size _ _
theorem b1t {h:Heap} {H:Hp} {b:Addr} {o:Obj} (e:h.get? b=some o) (n:H b=none):(a4s h H).get? b=some o :=
 PySem.W.hideAll_get _ e fun hm=>by
  have q:(H b).isSome=true:=(List.mem_filter.mp hm).2
  rw [n] at q; simp at q
theorem b4l {h:Heap} {H:Hp} {b:Addr} {o:Obj} (e:(a4s h H).get? b=some o):h.get? b=some o∧H b=none:=by
 have e':h.get? b=some o:=PySem.W.of_hideAll (trk h H) e
 refine ⟨e',?_⟩
 cases q:H b with
 | none=>rfl
 | some x =>
  have hm:b∈trk h H:=List.mem_filter.mpr ⟨List.mem_range.mpr (Heap.lt_size e'),by simp [q]⟩
  have z:(a4s h H).get? b=none:=PySem.W.hideAll_none (trk h H) hm
  rw [z] at e; cases e
def b4Z (g h:Heap) (L:Addr):List (Addr × Obj):=(List.range h.objs.size).filterMap fun a=>if a=L∨(g.get? a).isSome=true then none else (h.get? a).map fun o=>(a,o)
def u5 (g h:Heap) (L d:Addr):List (Addr × Obj):=(b4Z g h L).filter fun p=>decide (p.1≠d)
end L2
namespace L2
open PySem PySem.Spec PyProof.Rows
structure Mod (K:PySem.W.Frag) (mg:Str→Option Value) (base:Heap):Prop where
 kin:K.In base
 glob:base.Ns mainGlobals mg
 blt:∃ mb,base.Ns builtinsNs mb∧∀ x:Str,x ≠ "__name__" → mb x=bootBuiltins x
 nolimit:base.NoLimit
structure Cx where
 prog:Program
 w:World
 K:PySem.W.Frag
 mg:Str→Option Value
 base:Heap
 A:Around
 N:List Str
 s₀:Shared
 H₀:Hp
 env:Env
 outer:List Env
 stack:List Env
 ex:List Addr
 fn:Str→Bool
 calm:Bool
 pn:List (Addr × Obj)
 xe:Value→Shared→Prop
def frs (l:List Env):List Addr:=l.filterMap (·.frame)
abbrev Cx.fs (X:Cx):List Addr:=frs X.outer
def Vis (sc:Scope) (x:Str):Prop:=sc.names.lookup x=some .local∨sc.names.lookup x=some .cell∨sc.names.lookup x=some .free
def Loc (sc:Scope) (x:Str):Prop:=sc.names.lookup x=some .local∨sc.names.lookup x=some .cell
def c0U (env:Env) (h:Heap) (m:Str→Option Value) (x:Str) (u:Value):Prop :=
 (env.kindOf x=some .local∧m x=some u)∨((env.kindOf x=some .cell∨env.kindOf x=some .free)∧∃ c,env.cells.lookup x=some c∧h.IsCell c (some u))
structure Cx.Ok (X:Cx):Prop where
 mod:Mod X.K X.mg X.base
 kind:X.env.scope.kind = .function
 glob:X.env.globals=mainGlobals
 blt:X.env.builtins=builtinsNs
 above:X.s₀.heap.objs.size≤X.env.locals
 inj:∀ x y c,X.env.cells.lookup x=some c→X.env.cells.lookup y=some c→x=y
 has:∀ x,(X.env.kindOf x=some .cell∨X.env.kindOf x=some .free)→∃ c,X.env.cells.lookup x=some c
 cab:∀ x c,X.fn x=true→X.env.cells.lookup x=some c→X.s₀.heap.objs.size≤c
 hd:X.calm=true→X.A.handled=none
 frames:X.A.frames=some X.stack
 stk:X.stack=X.outer∨(X.stack=X.env :: X.outer∧X.env.frame=some X.env.locals)
 exf:∀ b∈X.ex,b≠X.env.locals∧∀ x c,X.env.cells.lookup x=some c→c≠b
 bs:∀ b o,X.base.get? b=some o→X.s₀.heap.get? b=some o∧X.H₀ b=none
 bsz:X.base.objs.size≤X.s₀.heap.objs.size
 noex:∀ b o,X.base.get? b=some o→b∉X.ex
 exfs:∀ b∈X.ex,b∉X.fs
 funs:X.s₀.heap.FunFrames X.base X.outer
 frf:∀ b∈X.fs,X.H₀ b=none
structure Inv (X:Cx) (pins:List (Addr × Obj)) (σ:List (Option V)) (H:Hp) (s:Shared):Prop where
 ok:X.Ok
 os:s.os=X.s₀.os
 bare:AllBare s.gens
 base:Un X.fs X.ex X.H₀ H X.s₀.heap s.heap
 loc:∃ m,s.heap.Ns X.env.locals m∧∀ (i:Nat) (x:Str) (v:V),X.N[i]? = some x→σ[i]? = some (some v)→Vis X.env.scope x→∃ u,m9 v u∧c0U X.env s.heap m x u
 cell:∀ x c,X.env.cells.lookup x=some c→∃ v,s.heap.IsCell c v
 free:H X.env.locals=none
 freeC:∀ x c,X.env.cells.lookup x=some c→H c=none
 pin:∀ p∈X.pn++pins,s.heap.get? p.1=some p.2∧H p.1=none∧p.1≠X.env.locals∧p.1∉X.fs∧∀ v,p.2.data ≠ .cell v
 hok:HOk X.prog X.w H s.heap
 len:σ.length=X.N.length
section
variable {X:Cx} {pins:List (Addr × Obj)} {σ:List (Option V)} {H H':Hp} {s:Shared} {h':Heap}
theorem Cx.Ok.nofr (ok:X.Ok) {b:Addr} {o:Obj} (e:X.base.get? b=some o):b∉X.fs:=fun hb=>by
 have:=(ok.funs.mem hb).1
 rw [e] at this; cases this
theorem Inv.bs (I:Inv X pins σ H s):∀ b o,X.base.get? b=some o→s.heap.get? b=some o∧H b=none:=fun b o e =>
 ⟨I.base.keep b o (I.ok.bs b o e).1 (I.ok.bs b o e).2 (I.ok.nofr e) (I.ok.noex b o e),I.base.free b o (I.ok.bs b o e).1 (I.ok.bs b o e).2 (I.ok.noex b o e)⟩
theorem Inv.bk (I:Inv X pins σ H s):∀ b o,X.base.get? b=some o→s.heap.get? b=some o:=fun b o e=>(I.bs b o e).1
theorem Inv.mod (I:Inv X pins σ H s):Mod X.K X.mg X.base:=I.ok.mod
theorem Inv.kIn (I:Inv X pins σ H s):X.K.In s.heap:=I.ok.mod.kin.keeps I.bk
theorem Inv.nolimit (I:Inv X pins σ H s):s.heap.NoLimit:=I.ok.mod.nolimit.keeps I.bk
theorem Inv.fr (I:Inv X pins σ H s):∃ m,Fr X.base X.env.locals s.heap m :=
 let ⟨m,hn,_⟩:=I.loc
 ⟨m,hn,I.bk,Nat.le_trans I.ok.bsz I.ok.above⟩
theorem Inv.lt (I:Inv X pins σ H s):X.env.locals<s.heap.objs.size:=let ⟨_,hn,_⟩:=I.loc; hn.lt
theorem Inv.sz (I:Inv X pins σ H s):X.s₀.heap.objs.size≤s.heap.objs.size:=Nat.le_trans I.ok.above (Nat.le_of_lt I.lt)
theorem Inv.nofs (I:Inv X pins σ H s) {a:Addr} (h:s.heap.objs.size≤a):a∉X.fs:=fun hb=>by
 obtain ⟨_,o,ho,_⟩:=I.ok.funs.mem hb
 exact absurd (Nat.lt_of_lt_of_le (Heap.lt_size ho) (Nat.le_trans I.sz h)) (Nat.lt_irrefl _)
theorem Inv.cne (I:Inv X pins σ H s):∀ x c,X.env.cells.lookup x=some c→c≠X.env.locals:=fun x c e z=>by
 obtain ⟨v,o,ho,hd⟩:=I.cell x c e
 obtain ⟨m,⟨o',es,ep,ho',hd',_⟩,_⟩:=I.loc
 rw [z,ho'] at ho; cases ho; rw [hd'] at hd; cases hd
theorem Inv.funs (I:Inv X pins σ H s):s.heap.FunFrames X.base X.outer:=by
 have all:∀ (l:List Env),(∀ b∈frs l,b∈X.fs)→X.s₀.heap.FunFrames X.base l→s.heap.FunFrames X.base l:=by
  intro l
  induction l with
  | nil=>intro _ _; trivial
  | cons env r ih =>
   intro hs hl
   obtain ⟨hk,⟨L,o,hf,hn,ho,hd⟩,hr⟩:=hl
   have hL:L∈X.fs:=hs L (by unfold frs; rw [List.filterMap_cons,hf]; exact List.mem_cons_self)
   obtain ⟨sl,e⟩:=I.base.slot L o ho (I.ok.frf L hL) hL fun z=>I.ok.exfs L z hL
   exact ⟨hk,⟨L,_,hf,hn,e,hd⟩,ih (fun b hb=>hs b (by unfold frs; rw [List.filterMap_cons,hf]; exact List.mem_cons_of_mem _ hb)) hr⟩
 exact all X.outer (fun _ hb=>hb) I.ok.funs
theorem Inv.stack (I:Inv X pins σ H s):s.heap.FunFrames X.base X.stack:=by
 rcases I.ok.stk with e | ⟨e,hf⟩
 ·rw [e]; exact I.funs
 ·rw [e]
  obtain ⟨m,hn,_⟩:=I.loc
  refine .cons (by rw [I.ok.kind]; decide) hf hn ?_ I.funs
  exact Heap.get?_none_of_le (Nat.le_trans I.ok.bsz I.ok.above)
theorem Inv.stkSub (I:Inv X pins σ H s):∀ b∈frs X.stack,b∈X.env.locals :: X.fs:=fun b hb=>by
 rcases I.ok.stk with e | ⟨e,hf⟩
 ·rw [e] at hb; exact List.mem_cons_of_mem _ hb
 ·rw [e] at hb
  unfold frs at hb
  rw [List.filterMap_cons,hf] at hb
  exact hb
theorem Inv.stkFree (I:Inv X pins σ H s):∀ b∈frs X.stack,H b=none:=fun b hb=>by
 rcases List.mem_cons.mp (I.stkSub b hb) with e | hb
 ·rw [e]; exact I.free
 ·obtain ⟨_,o,ho,_⟩:=I.ok.funs.mem hb
  exact I.base.free b o ho (I.ok.frf b hb) fun z=>I.ok.exfs b z hb
theorem Inv.step {g':Array GenState} {t':Nat} {d':Drawn} {ch:List Addr} (I:Inv X pins σ H s)
  (hch:∀ b∈ch,(b∈X.ex∨X.s₀.heap.objs.size≤b)∧b≠X.env.locals∧(∀ x c,X.env.cells.lookup x=some c→c≠b)∧∀ p∈X.pn++pins,p.1≠b)
  (keep:∀ b o,b≠X.env.locals→b∉X.fs→b∉ch→s.heap.get? b=some o→H b=none→h'.get? b=some o)
  (slot:∀ b o,b≠X.env.locals→b∈X.fs→b∉ch→s.heap.get? b=some o→H b=none→∃ sl,h'.get? b=some { o with slots:=sl }) (free:∀ b o,b∉ch→s.heap.get? b=some o→H b=none→H' b=none)
  (there:∀ b o,b∉ch→s.heap.get? b=some o→∃ o',h'.get? b=some o')
  (tups:∀ b xs,H b=some (.tup xs)→H' b=some (.tup xs)) (frzs:∀ b o u,H b=some (.frz o u)→H' b=some (.frz o u)) (tbls:∀ b ps,H b=some (.tbl ps)→∃ more,H' b=some (.tbl (ps++more)))
  (ns:∀ m,s.heap.Ns X.env.locals m→h'.Ns X.env.locals m) (hok:HOk X.prog X.w H' h') (hg:AllBare g') :
  Inv X pins σ H' { s with heap:=h',gens:=g',drawn:=d',toks:=t' }:=by
 have neL:∀ b o,X.s₀.heap.get? b=some o→b≠X.env.locals:=fun b o e=>Nat.ne_of_lt (Nat.lt_of_lt_of_le (Heap.lt_size e) I.ok.above)
 have neC:∀ b o,X.s₀.heap.get? b=some o→b∉X.ex→b∉ch:=fun b o e hx hb=>by
  rcases (hch b hb).1 with z | z
  ·exact hx z
  ·exact absurd (Nat.lt_of_lt_of_le (Heap.lt_size e) z) (Nat.lt_irrefl _)
 have cellK:∀ x c,X.env.cells.lookup x=some c→∀ v,s.heap.IsCell c v→h'.IsCell c v:=fun x c e v zz=>by
  obtain ⟨o,ho,hd⟩:=zz
  have nch:c∉ch:=fun z=>(hch c z).2.2.1 x c e rfl
  by_cases hc:c∈X.fs
  ·obtain ⟨sl,q⟩:=slot c o (I.cne x c e) hc nch ho (I.freeC x c e)
   exact ⟨_,q,hd⟩
  ·exact ⟨o,keep c o (I.cne x c e) hc nch ho (I.freeC x c e),hd⟩
 refine ⟨I.ok,I.os,hg,⟨fun b o e n hb hx=>?_,fun b o e n hb hx=>?_,fun b o e n hx=>?_,fun b o e hx=>?_,fun b xs e=>tups b xs (I.base.tups b xs e),fun b o xs e=>frzs b o xs (I.base.frzs b o xs e),fun b ps e=>?_⟩,?_,fun x c e=>?_,?_,fun x c e=>?_,fun p hp=>?_,hok,I.len⟩
 ·exact keep b o (neL b o e) hb (neC b o e hx) (I.base.keep b o e n hb hx) (I.base.free b o e n hx)
 ·obtain ⟨sl,e1⟩:=I.base.slot b o e n hb hx
  obtain ⟨sl',e2⟩:=slot b _ (neL b o e) hb (neC b o e hx) e1 (I.base.free b o e n hx)
  exact ⟨sl',e2⟩
 ·obtain ⟨o',e1⟩:=I.base.there b o e hx
  exact free b o' (neC b o e hx) e1 (I.base.free b o e n hx)
 ·obtain ⟨o',e1⟩:=I.base.there b o e hx
  exact there b o' (neC b o e hx) e1
 ·obtain ⟨m1,e1⟩:=I.base.tbls b ps e
  obtain ⟨m2,e2⟩:=tbls b _ e1
  exact ⟨m1++m2,by rw [e2,Array.append_assoc]⟩
 ·obtain ⟨m,hn,hl⟩:=I.loc
  refine ⟨m,ns m hn,fun i x v e1 e2 e3=>?_⟩
  obtain ⟨u,r,l⟩:=hl i x v e1 e2 e3
  refine ⟨u,r,?_⟩
  rcases l with l | ⟨k,c,e,z⟩
  ·exact .inl l
  ·exact .inr ⟨k,c,e,cellK x c e _ z⟩
 ·obtain ⟨v,z⟩:=I.cell x c e
  exact ⟨v,cellK x c e v z⟩
 ·obtain ⟨m,⟨o,_,_,ho,_⟩,_⟩:=I.loc
  exact free _ o (fun z=>(hch _ z).2.1 rfl) ho I.free
 ·obtain ⟨v,o,ho,hd⟩:=I.cell x c e
  exact free c o (fun z=>(hch c z).2.2.1 x c e rfl) ho (I.freeC x c e)
 ·obtain ⟨e,n,ne,nf,d⟩:=I.pin p hp
  have nch:p.1∉ch:=fun z=>(hch p.1 z).2.2.2 p hp rfl
  exact ⟨keep p.1 p.2 ne nf nch e n,free p.1 p.2 nch e n,ne,nf,d⟩
theorem Inv.un {t':Nat} (I:Inv X pins σ H s) (u:Un X.fs [] H H' s.heap h') (hok:HOk X.prog X.w H' h'):Inv X pins σ H' { s with heap:=h',toks:=t' }:=by
 obtain ⟨m,⟨o,es,ep,ho,r⟩,_⟩:=id I.loc
 obtain ⟨sl,hL⟩:=u.any ho I.free (by simp)
 exact I.step (g':=s.gens) (d':=s.drawn) (ch:=[]) (fun _ z=>nomatch z) (fun b o _ hb _ e n=>u.keep b o e n hb (by simp)) (fun b o _ hb _ e n=>u.slot b o e n hb (by simp)) (fun b o _ e n=>u.free b o e n (by simp)) (fun b o _ e=>u.there b o e (by simp)) u.tups u.frzs u.tbls (fun m' hm=>by
  obtain ⟨o',es',ep',ho',r'⟩:=hm
  rw [ho] at ho'; cases ho'
  exact ⟨_,es',ep',hL,r'⟩) hok I.bare
theorem Inv.call {g':Array GenState} {t':Nat} {d':Drawn} {ch:List Addr} (I:Inv X pins σ H s) (u:Un (frs X.stack) ch H H' s.heap h') (hok:HOk X.prog X.w H' h') (hg:AllBare g')
  (hch:∀ b∈ch,(b∈X.ex∨X.s₀.heap.objs.size≤b)∧b≠X.env.locals∧(∀ x c,X.env.cells.lookup x=some c→c≠b)∧∀ p∈X.pn++pins,p.1≠b) :
  Inv X pins σ H' { s with heap:=h',gens:=g',drawn:=d',toks:=t' }:=by
 obtain ⟨m,⟨o,es,ep,ho,r⟩,_⟩:=id I.loc
 obtain ⟨sl,hL⟩:=u.any ho I.free fun z=>(hch _ z).2.1 rfl
 exact I.step (ch:=ch) hch (fun b o hL hb hc e n=>u.keep b o e n (fun z=>(List.mem_cons.mp (I.stkSub b z)).elim hL hb) hc) (fun b o _ _ hc e n=>u.any e n hc) (fun b o hc e n=>u.free b o e n hc) (fun b o hc e=>u.there b o e hc) u.tups u.frzs u.tbls (fun m' hm=>by
  obtain ⟨o',es',ep',ho',r'⟩:=hm
  rw [ho] at ho'; cases ho'
  exact ⟨_,es',ep',hL,r'⟩) hok hg
theorem Inv.turned {t':Nat} {it:Addr} (I:Inv X pins σ H s) (k:∀ b o,b≠it→s.heap.get? b=some o→h'.get? b=some o) (hn:H it=none) (hL:it≠X.env.locals)
  (h1:it∈X.ex∨X.s₀.heap.objs.size≤it) (h2:∀ x c,X.env.cells.lookup x=some c→c≠it) (h3:∀ p∈X.pn++pins,p.1≠it):Inv X pins σ H { s with heap:=h',toks:=t' }:=by
 have nit:∀ b u,H b=some u→b≠it:=fun b u e z=>by rw [z,hn] at e; cases e
 refine I.step (g':=s.gens) (d':=s.drawn) (ch:=[it]) (fun b hb=>?_) (fun b o _ _ hc e _=>k b o (fun z=>hc (by simp [z])) e) (fun b o _ _ hc e _=>⟨o.slots,k b o (fun z=>hc (by simp [z])) e⟩) (fun _ _ _ _ n=>n)
  (fun b o hc e=>⟨o,k b o (fun z=>hc (by simp [z])) e⟩) (fun _ _ e=>e) (fun _ _ _ e=>e) (fun b ps e=>⟨#[],by rw [e]; simp⟩) (fun m hm=>?_) (fun b u e=>?_) I.bare
 ·have e:b=it:=by simpa using hb
  subst e
  exact ⟨h1,hL,h2,h3⟩
 ·obtain ⟨o,es,ep,ho,r⟩:=hm
  exact ⟨o,es,ep,k _ o (Ne.symm hL) ho,r⟩
 ·refine (I.hok b u e).stay (fun c v hc q=>k c v ?_ q) (fun _ q=>q) fun _ _ q=>q
  rcases hc with z | z
  ·rw [z]; exact nit b u e
  ·exact nit c _ z
theorem Inv.tok (I:Inv X pins σ H s) (t:Nat):Inv X pins σ H { s with toks:=t }:=I.un (h':=s.heap) (t':=t) Un.refl I.hok
theorem Inv.kept {t':Nat} (I:Inv X pins σ H s) (k:∀ b u,s.heap.get? b=some u→h'.get? b=some u):Inv X pins σ H { s with heap:=h',toks:=t' }:=I.un (Un.kept k) (I.hok.kept k)
theorem Inv.laid {a:Addr} {o:HO} {t':Nat} (I:Inv X pins σ H s) (k:∀ b u,s.heap.get? b=some u→h'.get? b=some u) (hp:s.heap.objs.size≤a) (new:B2 X.prog X.w (upd H a o) h' a o) :
  Inv X pins σ (upd H a o) { s with heap:=h',toks:=t' }:=I.un (Un.laid k hp (I.hok.fresh hp)) (I.hok.laid k hp new)
theorem Inv.write {x e:Addr} {o:HO} {t':Nat} (I:Inv X pins σ H s) (mu:Mut (H x)) (he:e=x∨H e=some (.own x)) (k:∀ b u,b≠e→s.heap.get? b=some u→h'.get? b=some u) (heo:∃ u,h'.get? e=some u)
  (new:B2 X.prog X.w (upd H x o) h' x o):Inv X pins σ (upd H x o) { s with heap:=h',toks:=t' }:=I.un (Un.write mu he k heo) (I.hok.write mu he k heo new)
theorem Inv.pins_of {pins':List (Addr × Obj)} (I:Inv X pins σ H s) (h:∀ p∈pins',s.heap.get? p.1=some p.2∧H p.1=none∧p.1≠X.env.locals∧p.1∉X.fs∧∀ v,p.2.data ≠ .cell v):Inv X pins' σ H s :=
 ⟨I.ok,I.os,I.bare,I.base,I.loc,I.cell,I.free,I.freeC,fun p hp=>(List.mem_append.mp hp).elim (fun z=>I.pin p (List.mem_append_left _ z)) (h p),I.hok,I.len⟩
theorem a5M {N:List Str} (hN:N.Nodup) {i j:Nat} {x:Str} (a:N[i]? = some x) (b:N[j]? = some x):i=j:=by
 obtain ⟨h1,e1⟩:=List.getElem?_eq_some_iff.mp a
 obtain ⟨h2,e2⟩:=List.getElem?_eq_some_iff.mp b
 exact (List.getElem_inj hN).mp (e1.trans e2.symm)
theorem a3g {M:Model} {A:Around} {E:Value→Shared→Prop} {i:Nat} {x:Str} {v:V} {u:Value} {Q:Unit→Shared→Prop} (I:Inv X pins σ H s) (hN:X.N.Nodup) (hi:X.N[i]? = some x) (hx:Loc X.env.scope x) (r:m9 v u)
  (h:∀ s',Inv X pins (σ.set i (some v)) H s'→(∃ a,Heap.SameBut a s.heap s'.heap∧(a=X.env.locals∨X.env.cells.lookup x=some a))→Q () s') (hf:X.fn x=true∨X.env.scope.names.lookup x=some .local:=by first | exact .inl rfl | exact .inr rfl | assumption):wpAny M A (storeName X.env x u) Q E s:=by
 obtain ⟨m,hn,hl⟩:=id I.loc
 have hcls:(X.env.scope.kind == .class || (X.env.scope.kind == .module && X.env.locals != X.env.globals))=false:=by rw [I.ok.kind]; rfl
 have hiσ:i<σ.length:=by rw [I.len]; exact (List.getElem?_eq_some_iff.mp hi).1
 have cne:=I.cne
 have tracked:∀ {a:Addr} {h':Heap},(∃ o,s.heap.get? a=some o∧H a=none)→Heap.SameBut a s.heap h'→HOk X.prog X.w H h':=fun {a h'} ha hs b ob e=>by
  obtain ⟨_,_,hfree⟩:=ha
  refine (I.hok b ob e).stay (fun c w' hc q=>(hs.2 c ?_).trans q) (fun _ q=>q) fun _ _ q=>q
  rintro rfl
  rcases hc with rfl | hc
  ·rw [hfree] at e; cases e
  ·rw [hfree] at hc; cases hc
 rcases hx with hk | hk
 ·refine wpAny_storeName_local hk hn (fun h' hn' hs=>?_) hcls
  obtain ⟨oL,_,_,hoL,_⟩:=id hn
  refine h _ ⟨I.ok,I.os,I.bare,⟨fun b o e n hb hx=>?_,fun b o e n hb hx=>?_,I.base.free,fun b o e hx=>?_,I.base.tups,I.base.frzs,I.base.tbls⟩,⟨_,hn',fun j y v' e1 e2 e3=>?_⟩,fun y c e=>?_,I.free,I.freeC,fun p hp=>?_,tracked ⟨oL,hoL,I.free⟩ hs,by simpa using I.len⟩ ⟨_,hs,.inl rfl⟩
  ·exact (hs.2 b (Nat.ne_of_lt (Nat.lt_of_lt_of_le (Heap.lt_size e) I.ok.above))).trans (I.base.keep b o e n hb hx)
  ·obtain ⟨sl,e1⟩:=I.base.slot b o e n hb hx
   exact ⟨sl,(hs.2 b (Nat.ne_of_lt (Nat.lt_of_lt_of_le (Heap.lt_size e) I.ok.above))).trans e1⟩
  ·obtain ⟨o',e1⟩:=I.base.there b o e hx
   exact ⟨o',(hs.2 b (Nat.ne_of_lt (Nat.lt_of_lt_of_le (Heap.lt_size e) I.ok.above))).trans e1⟩
  ·by_cases hj:j=i
   ·subst hj
    rw [hi] at e1; cases e1
    rw [List.getElem?_set_self hiσ] at e2
    cases e2
    exact ⟨u,r,.inl ⟨hk,by simp⟩⟩
   ·rw [List.getElem?_set_ne (Ne.symm hj)] at e2
    obtain ⟨u',r',q⟩:=hl j y v' e1 e2 e3
    refine ⟨u',r',?_⟩
    rcases q with ⟨k,e⟩ | ⟨k,c,e,z⟩
    ·refine .inl ⟨k,?_⟩
     have:y≠x:=fun e=>hj (a5M hN e1 (e▸hi))
     simp [this,e]
    ·exact .inr ⟨k,c,e,z.sameBut hs (cne y c e)⟩
  ·obtain ⟨w',z⟩:=I.cell y c e
   exact ⟨w',z.sameBut hs (cne y c e)⟩
  ·obtain ⟨e,n,ne,nf,d⟩:=I.pin p hp
   exact ⟨(hs.2 p.1 ne).trans e,n,ne,nf,d⟩
 ·have hfn:X.fn x=true:=by
   rcases hf with z | z
   ·exact z
   ·rw [z] at hk; cases hk
  obtain ⟨c,hc⟩:=I.ok.has x (.inl hk)
  obtain ⟨w',z⟩:=I.cell x c hc
  refine wpAny_storeName_cell I.ok.kind hk hc z (fun h' hc' hs=>?_)
  obtain ⟨oc,hoc,hocd⟩:=id z
  refine h { s with heap:=h' } ⟨I.ok,I.os,I.bare,⟨fun b o e n hb hx=>?_,fun b o e n hb hx=>?_,I.base.free,fun b o e hx=>?_,I.base.tups,I.base.frzs,I.base.tbls⟩,⟨m,hn.sameBut hs (Ne.symm (cne x c hc)),fun j y v' e1 e2 e3=>?_⟩,fun y c' e=>?_,I.free,I.freeC,fun p hp=>?_,tracked ⟨oc,hoc,I.freeC x c hc⟩ hs,by simpa using I.len⟩ ⟨c,hs,.inr hc⟩
  ·exact (hs.2 b (Nat.ne_of_lt (Nat.lt_of_lt_of_le (Heap.lt_size e) (I.ok.cab x c hfn hc)))).trans (I.base.keep b o e n hb hx)
  ·obtain ⟨sl,e1⟩:=I.base.slot b o e n hb hx
   exact ⟨sl,(hs.2 b (Nat.ne_of_lt (Nat.lt_of_lt_of_le (Heap.lt_size e) (I.ok.cab x c hfn hc)))).trans e1⟩
  ·obtain ⟨o',e1⟩:=I.base.there b o e hx
   exact ⟨o',(hs.2 b (Nat.ne_of_lt (Nat.lt_of_lt_of_le (Heap.lt_size e) (I.ok.cab x c hfn hc)))).trans e1⟩
  ·by_cases hj:j=i
   ·subst hj
    rw [hi] at e1; cases e1
    rw [List.getElem?_set_self hiσ] at e2
    cases e2
    exact ⟨u,r,.inr ⟨.inl hk,c,hc,hc'⟩⟩
   ·rw [List.getElem?_set_ne (Ne.symm hj)] at e2
    obtain ⟨u',r',q⟩:=hl j y v' e1 e2 e3
    refine ⟨u',r',?_⟩
    rcases q with q | ⟨k,c',e,z'⟩
    ·exact .inl q
    ·refine .inr ⟨k,c',e,z'.sameBut hs ?_⟩
     rintro rfl
     exact hj (a5M hN e1 (I.ok.inj _ _ _ e hc▸hi))
  ·by_cases hcc:c'=c
   ·subst hcc; exact ⟨_,hc'⟩
   ·obtain ⟨w2,z2⟩:=I.cell y c' e
    exact ⟨w2,z2.sameBut hs hcc⟩
  ·obtain ⟨e,n,ne,nf,d⟩:=I.pin p hp
   refine ⟨(hs.2 p.1 ?_).trans e,n,ne,nf,d⟩
   intro q
   rw [q,hoc] at e
   have q':oc=p.2:=Option.some.inj e
   exact d w' (by rw [← q']; exact hocd)
theorem Y4 {M:Model} {A:Around} {E:Value→Shared→Prop} {i:Nat} {x:Str} {v:V} {u:Value} {Q:Unit→Shared→Prop} (I:Inv X pins σ H s) (hN:X.N.Nodup) (hi:X.N[i]? = some x) (hx:Loc X.env.scope x) (r:m9 v u)
  (h:∀ s',Inv X pins (σ.set i (some v)) H s'→Q () s') (hf:X.fn x=true∨X.env.scope.names.lookup x=some .local:=by first | exact .inl rfl | exact .inr rfl | assumption):wpAny M A (storeName X.env x u) Q E s :=
 a3g I hN hi hx r (fun s' I' _=>h s' I') hf
theorem Inv.call' {s':Shared} {ch:List Addr} (I:Inv X pins σ H s) (ho:s'.os=s.os) (u:Un (frs X.stack) ch H H' s.heap s'.heap) (hok:HOk X.prog X.w H' s'.heap) (hg:AllBare s'.gens)
  (hch:∀ b∈ch,(b∈X.ex∨X.s₀.heap.objs.size≤b)∧b≠X.env.locals∧(∀ x c,X.env.cells.lookup x=some c→c≠b)∧∀ p∈X.pn++pins,p.1≠b):Inv X pins σ H' s':=by
 obtain ⟨h',g',d',t',o'⟩:=s'
 have e:o'=s.os:=ho
 subst e
 exact I.call (g':=g') (t':=t') (d':=d') u hok hg hch
end
abbrev XK:=Value→Option Addr→Hp→Prop
abbrev St:=List (Option V)
abbrev VK:=V→Hp→Prop
abbrev TE:=St→Hp→VK→Prop
abbrev TT:=St→Hp→(Bool→Hp→Prop)→Prop
abbrev TA:=St→Hp→(List V→Hp→Prop)→Prop
structure a6k where
 nx:St→Hp→Prop
 rt:VK
 bk:St→Hp→Prop:=fun _ _=>False
 ct:St→Hp→Prop:=fun _ _=>False
abbrev TS:=a6k→St→Hp→Prop
def EP (X:Cx) (pins:List (Addr × Obj)) (σ:St) (Q:VK) (u:Value) (s':Shared):Prop:=∃ v H',Inv X pins σ H' s'∧m9 v u∧Q v H'
def TP (X:Cx) (pins:List (Addr × Obj)) (σ:St) (Q:Bool→Hp→Prop) (b:Bool) (s':Shared):Prop:=∃ H',Inv X pins σ H' s'∧Q b H'
def AP (X:Cx) (pins:List (Addr × Obj)) (σ:St) (Q:List V→Hp→Prop) (us:List Value) (s':Shared):Prop:=∃ vs H',Inv X pins σ H' s'∧j9 vs us∧Q vs H'
def SP (X:Cx) (pins:List (Addr × Obj)) (D:a6k) (f:Flow) (s':Shared):Prop :=
 match f with
 | .next=>∃ σ' H',Inv X pins σ' H' s'∧D.nx σ' H'
 | .brk=>∃ σ' H',Inv X pins σ' H' s'∧D.bk σ' H'
 | .cont=>∃ σ' H',Inv X pins σ' H' s'∧D.ct σ' H'
 | .ret u=>∃ v σ' H',Inv X pins σ' H' s'∧m9 v u∧D.rt v H'
def PE (X:Cx) (e:Expr) (t:TE):Prop :=
 ∀ (pins:List (Addr × Obj)) (s:Shared) (σ:St) (H:Hp) (Q:VK),Inv X pins σ H s→t σ H Q→wpAny (model X.prog X.w) X.A (eval e X.env) (EP X pins σ Q) X.xe s
def PT (X:Cx) (e:Expr) (t:TT):Prop :=
 ∀ (pins:List (Addr × Obj)) (s:Shared) (σ:St) (H:Hp) (Q:Bool→Hp→Prop),Inv X pins σ H s→t σ H Q→wpAny (model X.prog X.w) X.A (isTrue e X.env (eval e X.env)) (TP X pins σ Q) X.xe s
def PW (X:Cx) (e:Expr) (t:TT):Prop :=
 ∀ (whole:Sem Value) (pins:List (Addr × Obj)) (s:Shared) (σ:St) (H:Hp) (Q:Bool→Hp→Prop),Inv X pins σ H s→t σ H Q→wpAny (model X.prog X.w) X.A (isTrue e X.env whole) (TP X pins σ Q) X.xe s
theorem PW.pt {X:Cx} {e:Expr} {t:TT} (h:PW X e t):PT X e t:=h _
def PA (X:Cx) (es:List Expr) (t:TA):Prop :=
 ∀ (pos:Pos) (pins:List (Addr × Obj)) (s:Shared) (σ:St) (H:Hp) (Q:List V→Hp→Prop),Inv X pins σ H s→t σ H Q→wpAny (model X.prog X.w) X.A (spliced (backTo pos (starEach es X.env))) (AP X pins σ Q) X.xe s
def PS (X:Cx) (st:Stmt) (t:TS):Prop :=
 ∀ (pins:List (Addr × Obj)) (s:Shared) (σ:St) (H:Hp) (D:a6k),Inv X pins σ H s→t D σ H→wpAny (model X.prog X.w) X.A (exec st X.env) (SP X pins D) X.xe s
def PSs (X:Cx) (st:List Stmt) (t:TS):Prop :=
 ∀ (pins:List (Addr × Obj)) (s:Shared) (σ:St) (H:Hp) (D:a6k),Inv X pins σ H s→t D σ H→wpAny (model X.prog X.w) X.A (execs st X.env) (SP X pins D) X.xe s
theorem thn {α:Type} {t:Sem α} {Q Q':α→Shared→Prop} {M:Model} {A:Around} {E:Value→Shared→Prop} {s:Shared} (h:wpAny M A t Q E s) (hQ:∀ a s,Q a s→Q' a s):wpAny M A t Q' E s:=wpAny_mono h hQ fun _ _ x=>x
end L2
namespace L2
open PySem PySem.Spec PyProof.Rows
section
variable {X:Cx}
def b80 (i:Nat):TE:=fun σ H Q=>∃ v,σ[i]? = some (some v)∧Q v H
def tC (v:V):TE:=fun _ H Q=>Q v H
theorem b0X {i:Nat} {x:Str} {pos:Pos} (hN:X.N[i]? = some x) (hv:Vis X.env.scope x) (hd:(x == ("__debug__" : Str))=false:=by decide) (hcd:(x == ("__classdict__" : Str))=false:=by decide):PE X (.Name x pos) (b80 i):=by
 intro pins s σ H Q I h
 obtain ⟨v,e,h⟩:=h
 obtain ⟨m,hn,hl⟩:=I.loc
 obtain ⟨u,r,l⟩:=hl i x v hN e hv
 have fin:EP X pins σ Q u s:=⟨v,H,I,r,h⟩
 rcases l with ⟨hk,hm⟩ | ⟨hk,c,hc,hcell⟩
 ·exact wpAny_Name (wpAny_loadName_local I.ok.kind hk hn hm fin) hd
 ·rcases hk with hk | hk
  ·exact wpAny_Name (wpAny_loadName_cell I.ok.kind hk hc hcell fin) hd
  ·exact wpAny_Name (wpAny_loadName_free I.ok.kind hk hc hcell fin hcd) hd
theorem b62 {i j pos}:PE X (.Constant (.int i) j pos) (tC (.int i)):=fun _ _ _ H _ I h=>wpAny_Constant_int ⟨.int i,H,I.tok _,⟨_,rfl⟩,h⟩
theorem b9m {b j pos}:PE X (.Constant (.bool b) j pos) (tC (.bl b)):=fun _ _ _ H _ I h=>Constant_bool ⟨.bl b,H,I,rfl,h⟩
theorem b61 {j pos}:PE X (.Constant .none j pos) (tC .non):=fun _ _ _ H _ I h=>Constant_none ⟨.non,H,I,rfl,h⟩
theorem b6Y {x j pos}:PE X (.Constant (.str x) j pos) (tC (.str x)):=fun _ _ _ H _ I h=>Calls.Constant_str ⟨.str x,H,I.tok _,⟨_,rfl⟩,h⟩
def Gl (X:Cx) (x:Str):Prop:=X.env.kindOf x=some .globalImplicit
theorem a8j {E:Value→Shared→Prop} {pins:List (Addr × Obj)} {s:Shared} {σ:St} {H:Hp} {x:Str} {u:Value} {pos:Pos} {Q:Value→Shared→Prop} (I:Inv X pins σ H s) (hg:Gl X x) (hm:X.mg x=some u) (h:Q u s)
  (hd:(x == ("__debug__" : Str))=false:=by decide):wpAny (model X.prog X.w) X.A (eval (.Name x pos) X.env) Q E s :=
 Calls.Name_function_global I.ok.kind hg (Calls.loadGlobal_global (by rw [I.ok.glob]; exact I.mod.glob.keeps I.bk) hm h) hd
theorem K0 {E:Value→Shared→Prop} {pins:List (Addr × Obj)} {s:Shared} {σ:St} {H:Hp} {x:Str} {u:Value} {pos:Pos} {Q:Value→Shared→Prop} (I:Inv X pins σ H s) (hg:Gl X x) (hm:X.mg x=none) (hv:bootBuiltins x=some u) (h:Q u s)
  (hn:x ≠ "__name__" := by decide) (hd:(x == ("__debug__" : Str))=false:=by decide):wpAny (model X.prog X.w) X.A (eval (.Name x pos) X.env) Q E s:=by
 obtain ⟨mb,h1,h2⟩:=I.mod.blt
 exact Calls.Name_function_global I.ok.kind hg (Calls.loadGlobal_builtin (by rw [I.ok.glob]; exact I.mod.glob.keeps I.bk) hm (by rw [I.ok.blt]; exact h1.keeps I.bk) ((h2 x hn).trans hv) h) hd
theorem b3U {x:Str} {v:V} {u:Value} {pos:Pos} (hg:Gl X x) (hm:X.mg x=some u) (r:m9 v u) (hd:(x == ("__debug__" : Str))=false:=by decide):PE X (.Name x pos) (tC v) :=
 fun _ _ _ H _ I h=>a8j I hg hm ⟨v,H,I,r,h⟩ hd
theorem b3X {x:Str} {v:V} {u:Value} {pos:Pos} (hg:Gl X x) (hm:X.mg x=none) (hv:bootBuiltins x=some u) (r:m9 v u) (hn:x ≠ "__name__" := by decide) (hd:(x == ("__debug__" : Str))=false:=by decide):PE X (.Name x pos) (tC v) :=
 fun _ _ _ H _ I h=>K0 I hg hm hv ⟨v,H,I,r,h⟩ hn hd
variable {a b:Expr} {ta tb:TE} {pos:Pos}
theorem m9.none_iff {x:V} {v:Value} (r:m9 x v):(v == Value.none)=decide (x = .non):=by
 cases x with
 | non=>cases r; rfl
 | bl _=>cases r; rfl
 | int _=>obtain ⟨t,rfl⟩:=r; rfl
 | str _=>obtain ⟨t,rfl⟩:=r; rfl
 | byt _=>obtain ⟨t,rfl⟩:=r; rfl
 | flt _=>obtain ⟨t,rfl⟩:=r; rfl
 | ref _=>cases r; rfl
 | ty _=>cases r; rfl
def tB (t:TE):TT:=fun σ H Q=>t σ H fun x H1=>∃ c,x = .bl c∧Q c H1
theorem b6M {e:Expr} {t:TE} (h:PE X e t) (he:∀ whole,isTrue e X.env whole=(do let v ← whole; standAt e.pos; holding [v] (truthy v)):=by intro _; rfl):PT X e (tB t):=by
 intro pins s σ H Q I hw
 refine isTrue_plain (thn (h pins s σ H _ I hw) fun v s1 ⟨x,H1,I1,r1,q1⟩=>?_) (he _)
 obtain ⟨d,rfl,q⟩:=q1
 cases r1
 exact wpAny_truthy_bool ⟨H1,I1,q⟩
variable {tA tB':TT} {u5:List Expr}
def c0t (t u:TT):TT:=fun σ H Q=>t σ H fun c H1=>if c=true then u σ H1 Q else Q false H1
def tOr (t u:TT):TT:=fun σ H Q=>t σ H fun c H1=>if c=true then Q true H1 else u σ H1 Q
def c0n (t:TT):TT:=fun σ H Q=>t σ H fun c H1=>Q (!c) H1
theorem b3I (ha:PT X a tA):PW X (.BoolOp .And [a] pos) tA:=by
 intro wh pins s σ H Q I h
 refine isTrue_and (thn (ha pins s σ H Q I h) fun c s1 e=>?_)
 cases c with
 | true=>exact isTrue_and_nil e
 | false=>exact e
theorem b6J (ha:PT X a tA):PW X (.BoolOp .Or [a] pos) tA:=by
 intro wh pins s σ H Q I h
 refine isTrue_or (thn (ha pins s σ H Q I h) fun c s1 e=>?_)
 cases c with
 | false=>exact isTrue_or_nil e
 | true=>exact e
theorem b6K (ha:PT X a tA) (hb:PW X (.BoolOp .And (b :: u5) pos) tB'):PW X (.BoolOp .And (a :: b :: u5) pos) (c0t tA tB'):=by
 intro wh pins s σ H Q I h
 refine isTrue_and (thn (ha pins s σ H _ I h) fun c s1 zz=>?_)
 obtain ⟨H1,I1,q1⟩:=zz
 cases c with
 | true=>exact hb wh pins s1 σ H1 Q I1 q1
 | false=>exact ⟨H1,I1,q1⟩
theorem b9g (ha:PT X a tA) (hb:PW X (.BoolOp .Or (b :: u5) pos) tB'):PW X (.BoolOp .Or (a :: b :: u5) pos) (tOr tA tB'):=by
 intro wh pins s σ H Q I h
 refine isTrue_or (thn (ha pins s σ H _ I h) fun c s1 zz=>?_)
 obtain ⟨H1,I1,q1⟩:=zz
 cases c with
 | true=>exact ⟨H1,I1,q1⟩
 | false=>exact hb wh pins s1 σ H1 Q I1 q1
theorem b6N (ha:PT X a tA):PT X (.UnaryOp .Not a pos) (c0n tA):=by
 intro pins s σ H Q I h
 exact isTrue_not (ha pins s σ H (fun c H1=>Q (!c) H1) I h)
def b88 (ta tb:TE):TE:=fun σ H Q=>ta σ H fun x H1=>∃ c,x = .bl c∧if c=true then tb σ H1 Q else Q (.bl false) H1
def c0m (ta tb:TE):TE:=fun σ H Q=>ta σ H fun x H1=>∃ c,x = .bl c∧if c=true then Q (.bl true) H1 else tb σ H1 Q
def b82 (ta:TE):TE:=fun σ H Q=>ta σ H fun x H1=>∃ c,x = .bl c∧Q (.bl (!c)) H1
theorem b6Z {op} {t:TE} (h:PE X a t):PE X (.BoolOp op [a] pos) t:=fun pins s σ H Q I hw=>BoolOp_one (h pins s σ H Q I hw)
theorem b64 (ha:PE X a ta) (hb:PE X (.BoolOp .And (b :: u5) pos) tb):PE X (.BoolOp .And (a :: b :: u5) pos) (b88 ta tb):=by
 intro pins s σ H Q I h
 refine BoolOp_and (thn (ha pins s σ H _ I h) fun v s1 zz=>?_)
 obtain ⟨x,H1,I1,r1,q1⟩:=zz
 obtain ⟨c,rfl,q1⟩:=q1
 cases r1
 refine wpAny_truthy_bool ?_
 cases c with
 | true=>exact hb pins s1 σ H1 Q I1 q1
 | false=>exact ⟨.bl false,H1,I1,rfl,q1⟩
theorem b9j (ha:PE X a ta) (hb:PE X (.BoolOp .Or (b :: u5) pos) tb):PE X (.BoolOp .Or (a :: b :: u5) pos) (c0m ta tb):=by
 intro pins s σ H Q I h
 refine BoolOp_or (thn (ha pins s σ H _ I h) fun v s1 zz=>?_)
 obtain ⟨x,H1,I1,r1,q1⟩:=zz
 obtain ⟨c,rfl,q1⟩:=q1
 cases r1
 refine wpAny_truthy_bool ?_
 cases c with
 | false=>exact hb pins s1 σ H1 Q I1 q1
 | true=>exact ⟨.bl true,H1,I1,rfl,q1⟩
theorem b60 (ha:PE X a ta):PE X (.UnaryOp .Not a pos) (b82 ta):=by
 intro pins s σ H Q I h
 refine UnaryOp_ (thn (ha pins s σ H _ I h) fun v s1 zz=>?_)
 obtain ⟨x,H1,I1,r1,q1⟩:=zz
 obtain ⟨c,rfl,q1⟩:=q1
 cases r1
 exact not_of (wpAny_truthy_bool ⟨.bl (!c),H1,I1,rfl,q1⟩)
def tIf (t:TT) (ta tb:TE):TE:=fun σ H Q=>t σ H fun c H1=>if c=true then ta σ H1 Q else tb σ H1 Q
theorem b0Z {c:Expr} (hc:PT X c tA) (ha:PE X a ta) (hb:PE X b tb):PE X (.IfExp c a b pos) (tIf tA ta tb):=by
 intro pins s σ H Q I h
 refine wpAny_IfExp (thn (hc pins s σ H _ I h) fun d s1 zz=>?_)
 obtain ⟨H1,I1,q1⟩:=zz
 cases d with
 | true=>exact ha pins s1 σ H1 Q I1 q1
 | false=>exact hb pins s1 σ H1 Q I1 q1
end
end L2
namespace L2
open PySem PySem.Spec PyProof.Rows
def SqL (K:PySem.W.Frag) (H:Hp) (a:Addr) (xs:List V):Prop :=
 Rd H a (.lst xs) ∨
  ∃ (o:Obj) (its:Array Value) (n:Nat),K.lookup a=some o∧o.cls = .type "list" ∧ o.dict=none∧o.data = .seq its n∧its.size≤sizeLine∧j9 xs its.toList
def SqT (K:PySem.W.Frag) (H:Hp) (a:Addr) (xs:List V):Prop :=
 Rd H a (.tup xs) ∨
  ∃ (o:Obj) (its:Array Value) (n:Nat),K.lookup a=some o∧o.cls = .type "tuple" ∧ o.data = .seq its n∧its.size≤sizeLine∧j9 xs its.toList
def c0T:Value→Option V
 | .none=>some .non
 | .bool b=>some (.bl b)
 | .int i _=>some (.int i)
 | .str x _=>some (.str x)
 | .bytes b _=>some (.byt b)
 | .float b _=>some (.flt b)
 | .ref a=>some (.ref a)
 | .type n=>some (.ty n)
 | _=>none
theorem m9.abs {x:V} {u:Value} (r:m9 x u):c0T u=some x:=by
 cases x with
 | non=>cases r; rfl
 | bl _=>cases r; rfl
 | int _=>obtain ⟨t,rfl⟩:=r; rfl
 | str _=>obtain ⟨t,rfl⟩:=r; rfl
 | byt _=>obtain ⟨t,rfl⟩:=r; rfl
 | flt _=>obtain ⟨t,rfl⟩:=r; rfl
 | ref _=>cases r; rfl
 | ty _=>cases r; rfl
theorem m9.inj {x y:V} {u:Value} (r:m9 x u) (q:m9 y u):x=y:=Option.some.inj (r.abs.symm.trans q.abs)
theorem j9.inj:∀ {xs ys:List V} {us:List Value},j9 xs us→j9 ys us→xs=ys
 | _,_,_,.nil,.nil=>rfl
 | _,_,_,.cons r t,.cons r' t'=>by rw [r.inj r',j9.inj t t']
section
variable {X:Cx} {pins:List (Addr × Obj)} {σ:St} {H:Hp} {s:Shared} {a:Addr} {xs ys:List V}
theorem SqL.of {K:PySem.W.Frag} (h:H a=some (.lst xs)):SqL K H a xs:=.inl (.inl h)
theorem SqT.of {K:PySem.W.Frag} (h:H a=some (.tup xs)):SqT K H a xs:=.inl (.inl h)
theorem Inv.list (I:Inv X pins σ H s) (h:SqL X.K H a xs):∃ its:List Value,j9 xs its∧PlainL s.heap a its.toArray∧xs.length≤sizeLine:=by
 rcases h with h | ⟨o,its,n,hk,hc,hd,hs,hz,r⟩
 ·obtain ⟨z,its,n,r,e⟩:=h.ok I.hok
  exact ⟨its,r,⟨_,n,e,rfl,rfl,rfl⟩,z⟩
 ·refine ⟨its.toList,r,⟨o,n,I.kIn a o hk,hc,hd,by simpa using hs⟩,?_⟩
  have e:=r.length
  simp only [Array.length_toList] at e
  omega
theorem Inv.tuple (I:Inv X pins σ H s) (h:SqT X.K H a xs):∃ its:List Value,j9 xs its∧IsTup s.heap a its.toArray∧xs.length≤sizeLine:=by
 rcases h with h | ⟨o,its,n,hk,hc,hs,hz,r⟩
 ·obtain ⟨z,its,r,p⟩:=h.ok I.hok
  exact ⟨its,r,p,z⟩
 ·refine ⟨its.toList,r,⟨o,I.kIn a o hk,hc,n,by simpa using hs⟩,?_⟩
  have e:=r.length
  simp only [Array.length_toList] at e
  omega
theorem Inv.list_inj (I:Inv X pins σ H s) (h:SqL X.K H a xs) (h':SqL X.K H a ys):xs=ys:=by
 obtain ⟨its,r,⟨o,n,e,_,_,d⟩,_⟩:=I.list h
 obtain ⟨its',r',⟨o',n',e',_,_,d'⟩,_⟩:=I.list h'
 rw [e] at e'; cases e'
 rw [d] at d'
 injection d' with d1 _
 have:its=its':=by simpa using congrArg Array.toList d1
 subst this
 exact r.inj r'
theorem Inv.tuple_inj (I:Inv X pins σ H s) (h:SqT X.K H a xs) (h':SqT X.K H a ys):xs=ys:=by
 obtain ⟨its,r,⟨o,e,_,n,d⟩,_⟩:=I.tuple h
 obtain ⟨its',r',⟨o',e',_,n',d'⟩,_⟩:=I.tuple h'
 rw [e] at e'; cases e'
 rw [d] at d'
 injection d' with d1 _
 have:its=its':=by simpa using congrArg Array.toList d1
 subst this
 exact r.inj r'
end
abbrev Cx.wish (X:Cx) (E:Value→Shared→Prop):Cx:={ X with xe:=E }
abbrev Cx.nox (X:Cx):Cx:=X.wish fun _ _=>False
theorem Cx.Ok.wish {X:Cx} (ok:X.Ok) (E:Value→Shared→Prop):(X.wish E).Ok :=
 ⟨ok.mod,ok.kind,ok.glob,ok.blt,ok.above,ok.inj,ok.has,ok.cab,ok.hd,ok.frames,ok.stk,ok.exf,ok.bs,ok.bsz,ok.noex,ok.exfs,ok.funs,ok.frf⟩
theorem Cx.Ok.unwish {X:Cx} {E:Value→Shared→Prop} (ok:(X.wish E).Ok):X.Ok :=
 ⟨ok.mod,ok.kind,ok.glob,ok.blt,ok.above,ok.inj,ok.has,ok.cab,ok.hd,ok.frames,ok.stk,ok.exf,ok.bs,ok.bsz,ok.noex,ok.exfs,ok.funs,ok.frf⟩
section
variable {X:Cx} {pins:List (Addr × Obj)} {σ:St} {H:Hp} {s:Shared} {E:Value→Shared→Prop}
theorem Inv.wish (I:Inv X pins σ H s) (E:Value→Shared→Prop):Inv (X.wish E) pins σ H s:=⟨I.ok.wish E,I.os,I.bare,I.base,I.loc,I.cell,I.free,I.freeC,I.pin,I.hok,I.len⟩
theorem Inv.unwish (I:Inv (X.wish E) pins σ H s):Inv X pins σ H s:=⟨I.ok.unwish,I.os,I.bare,I.base,I.loc,I.cell,I.free,I.freeC,I.pin,I.hok,I.len⟩
theorem SP.unwish {D:a6k} {f:Flow} {s':Shared} (h:SP (X.wish E) pins D f s'):SP X pins D f s':=by
 cases f with
 | next=>obtain ⟨σ',H',I,q⟩:=h; exact ⟨σ',H',I.unwish,q⟩
 | brk=>obtain ⟨σ',H',I,q⟩:=h; exact ⟨σ',H',I.unwish,q⟩
 | cont=>obtain ⟨σ',H',I,q⟩:=h; exact ⟨σ',H',I.unwish,q⟩
 | ret u=>obtain ⟨v,σ',H',I,r,q⟩:=h; exact ⟨v,σ',H',I.unwish,r,q⟩
theorem PE.nox {e:Expr} {t:TE} (h:PE X.nox e t):PE X e t:=fun pins s σ H Q I hw =>
 wpAny_mono (h pins s σ H Q (I.wish _) hw) (fun _ _ ⟨v,H',I',r,q⟩=>⟨v,H',I'.unwish,r,q⟩) fun _ _ z=>False.elim z
theorem PT.nox {e:Expr} {t:TT} (h:PT X.nox e t):PT X e t:=fun pins s σ H Q I hw =>
 wpAny_mono (h pins s σ H Q (I.wish _) hw) (fun _ _ ⟨H',I',q⟩=>⟨H',I'.unwish,q⟩) fun _ _ z=>False.elim z
theorem PSs.nox {st:List Stmt} {t:TS} (h:PSs X.nox st t):PSs X st t:=fun pins s σ H D I hw =>
 wpAny_mono (h pins s σ H D (I.wish _) hw) (fun _ _ q=>q.unwish) fun _ _ z=>False.elim z
end
section
variable {X:Cx} {st:Stmt} {u5:List Stmt} {t u:TS} {e:Expr} {te:TE} {pos:Pos}
def b83:TS:=fun D σ H=>D.nx σ H
def c0j (t u:TS):TS:=fun D σ H=>t { D with nx:=u D } σ H
theorem b3L:PSs X [] b83:=fun _ _ σ H _ I h=>wpAny_execs_nil ⟨σ,H,I,h⟩
theorem a5y (h1:PS X st t) (h2:PSs X u5 u):PSs X (st :: u5) (c0j t u):=by
 intro pins s σ H D I h
 refine wpAny_execs_cons (thn (h1 pins s σ H { D with nx:=u D } I h) fun f s1 q=>?_)
 cases f with
 | next =>
  obtain ⟨σ',H',I',q⟩:=q
  exact h2 pins s1 σ' H' D I' q
 | ret v=>exact q
 | brk=>exact q
 | cont=>exact q
theorem b3K (h1:PS X st t):PSs X [st] t:=by
 intro pins s σ H D I h
 refine wpAny_execs_cons (thn (h1 pins s σ H D I h) fun f s1 q=>?_)
 cases f with
 | next=>exact wpAny_execs_nil q
 | ret v=>exact q
 | brk=>exact q
 | cont=>exact q
theorem Inv.quiet {pins:List (Addr × Obj)} {σ:St} {H:Hp} {s:Shared} (I:Inv X pins σ H s):interactive X.env=false:=by simp [interactive,I.ok.kind]
def b85 (te:TE):TS:=fun D σ H=>te σ H fun _ H1=>D.nx σ H1
theorem b3M (he:PE X e te) (hs:swapsWith e none pos.line X.env=pure false:=by rfl):PS X (.Expr e pos) (b85 te):=by
 intro pins s σ H D I h
 exact wpAny_Expr_any (thn (he pins s σ H _ I h) fun v s1 ⟨x,H1,I1,r1,q1⟩=>⟨σ,H1,I1,q1⟩) I.quiet hs
def c0k (te:TE):TS:=fun D σ H=>te σ H D.rt
theorem b6P (he:PE X e te):PS X (.Return (some e) pos) (c0k te):=by
 intro pins s σ H D I h
 exact wpAny_Return_some (thn (he pins s σ H _ I h) fun v s1 ⟨x,H1,I1,r1,q1⟩=>⟨x,σ,H1,I1,r1,q1⟩)
def c0q (c:TT) (t u:TS):TS:=fun D σ H=>c σ H fun b H1=>if b=true then t D σ H1 else u D σ H1
theorem b9h {c:Expr} {a b:List Stmt} {tc:TT} (hc:PT X c tc) (ha:PSs X a t) (hb:PSs X b u):PS X (.If c a b pos) (c0q tc t u):=by
 intro pins s σ H D I h
 refine wpAny_If (thn (hc pins s σ H _ I h) fun d s1 zz=>?_)
 obtain ⟨H1,I1,q1⟩:=zz
 cases d with
 | true=>exact ha pins s1 σ H1 D I1 q1
 | false=>exact hb pins s1 σ H1 D I1 q1
def b6r:TS:=fun _ _ _=>False
theorem b0S:PS X st b6r:=fun _ _ _ _ _ _ h=>h.elim
end
abbrev TG:=V→St→Hp→(St→Hp→Prop)→Prop
abbrev TGs:=List V→St→Hp→(St→Hp→Prop)→Prop
def PG (X:Cx) (target:Expr) (t:TG):Prop :=
 ∀ (pins:List (Addr × Obj)) (s:Shared) (σ:St) (H:Hp) (v:V) (u:Value) (Q:St→Hp→Prop),Inv X pins σ H s→m9 v u→t v σ H Q →
  wpAny (model X.prog X.w) X.A (assign target X.env u) (fun _ s'=>∃ σ' H',Inv X pins σ' H' s'∧Q σ' H') X.xe s
def PGs (X:Cx) (ts:List Expr) (t:TGs):Prop :=
 ∀ (pins:List (Addr × Obj)) (s:Shared) (σ:St) (H:Hp) (vs:List V) (us:List Value) (Q:St→Hp→Prop),Inv X pins σ H s→j9 vs us→t vs σ H Q →
  wpAny (model X.prog X.w) X.A (assignInOrder ((assignEach ts X.env).map (·.2)) us) (fun _ s'=>∃ σ' H',Inv X pins σ' H' s'∧Q σ' H') X.xe s
abbrev b8n:=V→V→V→Hp→(Hp→Prop)→Prop
def c0a (X:Cx) (t:b8n):Prop :=
 ∀ (pins:List (Addr × Obj)) (s:Shared) (σ:St) (H:Hp) (o i v:V) (ov iv u:Value) (Q:Hp→Prop),Inv X pins σ H s→m9 o ov→m9 i iv→m9 v u→t o i v H Q →
  wpAny (model X.prog X.w) X.A (setItem ov iv u) (fun _ s'=>∃ H',Inv X pins σ H' s'∧Q H') X.xe s
section
variable {X:Cx} {pos:Pos}
def b1y (i:Nat):TG:=fun v σ H Q=>Q (σ.set i (some v)) H
theorem b3S {i:Nat} {x:Str} (hN:X.N.Nodup) (hi:X.N[i]? = some x) (hx:Loc X.env.scope x) (hf:X.fn x=true∨X.env.scope.names.lookup x=some .local:=by first | exact .inl rfl | exact .inr rfl | assumption):PG X (.Name x pos) (b1y i):=by
 intro pins s σ H v u Q I r h
 exact wpAny_assign_Name (Y4 I hN hi hx r (fun s' I'=>⟨_,H,I',h⟩) hf)
def c0J:TGs:=fun vs σ H Q=>vs=[]∧Q σ H
def b9G (t:TG) (u:TGs):TGs:=fun vs σ H Q=>∃ v r,vs=v :: r∧t v σ H fun σ' H'=>u r σ' H' Q
theorem b3Q:PGs X [] c0J:=by
 intro pins s σ H vs us Q I r h
 obtain ⟨e,h⟩:=h
 subst e
 cases r
 exact assignInOrder_nil ⟨σ,H,I,h⟩
theorem b0W {e:Expr} {es:List Expr} {t:TG} {u:TGs} (h1:PG X e t) (h2:PGs X es u)
  (hs:(assignEach (e :: es) X.env).map (·.2)=assign e X.env :: (assignEach es X.env).map (·.2):=by rfl):PGs X (e :: es) (b9G t u):=by
 intro pins s σ H vs us Q I r h
 obtain ⟨v,vr,e1,h⟩:=h
 subst e1
 cases r with
 | cons r rr =>
  rw [hs]
  refine assignInOrder_cons (thn (h1 pins s σ H _ _ _ I r h) fun _ s1 zz=>?_)
  obtain ⟨σ1,H1,I1,q1⟩:=zz
  exact h2 pins s1 σ1 H1 _ _ Q I1 rr q1
def c0H (K:PySem.W.Frag) (n:Nat) (t:TGs):TG:=fun v σ H Q=>∃ a xs,v = .ref a∧SqT K H a xs∧xs.length=n∧t xs σ H Q
theorem b6V {es:List Expr} {k:Nat} {t:TGs} {n:Nat} (hc:X.calm=true) (h:PGs X es t)
  (hn:(assignEach es X.env).length=n:=by rfl) (hst:(assignEach es X.env).findIdx? (·.1)=none:=by rfl):PG X (.Tuple es k pos) (c0H X.K n t):=by
 intro pins s σ H v u Q I r hw
 obtain ⟨a,xs,e1,hq,hl,hw⟩:=hw
 subst e1
 cases r
 obtain ⟨its,rv,ht,hz⟩:=I.tuple hq
 refine assign_Tuple_tuple (I.ok.hd hc) ht (by simp [hn,← hl,rv.length]) hst fun h' hx=>?_
 have I1:Inv X pins σ H { s with heap:=h' }:=I.kept (t':=s.toks) fun b o e=>hx b o (Nat.ne_of_lt (Heap.lt_size e)) e
 exact h pins _ σ H xs _ Q I1 (by simpa using rv) hw
def c0I (to ti:TE) (t:b8n):TG:=fun v σ H Q=>to σ H fun o H1=>ti σ H1 fun i H2=>t o i v H2 fun H3=>Q σ H3
theorem b6W {o i:Expr} {to ti:TE} {t:b8n} (ho:PE X o to) (hi:PE X i ti) (hs:c0a X t)
  (ha:∀ v,assign (.Subscript o i pos) X.env v=(do
   let ov ← holding [v] (eval o X.env)
   let iv ← holding [v,ov] (eval i X.env)
   standAt pos
   holding [v,ov,iv] (setItem ov iv v)
   release [v,ov,iv] []):=by intro _; rfl):PG X (.Subscript o i pos) (c0I to ti t):=by
 intro pins s σ H v u Q I r h
 rw [ha]
 refine wpAny_bind (wpAny_holding (thn (ho pins s σ H _ I h) fun ov s1 zz=>?_))
 obtain ⟨x,H1,I1,r1,q1⟩:=zz
 refine wpAny_bind (wpAny_holding (thn (hi pins s1 σ H1 _ I1 q1) fun iv s2 zz=>?_))
 obtain ⟨y,H2,I2,r2,q2⟩:=zz
 refine wpAny_bind (wpAny_standAt (wpAny_bind (wpAny_holding (thn (hs pins s2 σ H2 x y v ov iv u _ I2 r1 r2 r q2) fun _ s3 zz=>?_))))
 obtain ⟨H3,I3,q3⟩:=zz
 exact wpAny_release ⟨σ,H3,I3,q3⟩
def b6s (te:TE) (g:TG):TS:=fun D σ H=>te σ H fun x H1=>g x σ H1 D.nx
theorem b6S {tg e:Expr} {te:TE} {g:TG} (he:PE X e te) (hg:PG X tg g) (hs:swapsWithSole [tg] e pos.line X.env=pure false:=by rfl) (hw:swappedStores [tg] e X.env=pure none:=by rfl)
  (h1:(assignEach [tg] X.env).map (·.2)=[assign tg X.env]:=by rfl):PS X (.Assign [tg] e pos) (b6s te g):=by
 intro pins s σ H D I h
 refine wpAny_Assign_stores (thn (he pins s σ H _ I h) fun v s1 ⟨x,H1,I1,r1,q1⟩=>?_) hs hw
 rw [h1]
 exact thn (hg pins s1 σ H1 x v _ I1 r1 q1) fun _ s2 q=>q
theorem b6O {i:Nat} {x:Str} {e:Expr} {te:TE} {pos':Pos} (hN:X.N.Nodup) (hi:X.N[i]? = some x) (hx:Loc X.env.scope x) (he:PE X e te) (hs:swapsWith e (some (.Name x pos')) pos.line X.env=pure false:=by rfl) (hf:X.fn x=true∨X.env.scope.names.lookup x=some .local:=by first | exact .inl rfl | exact .inr rfl | assumption) :
  PS X (.Assign [.Name x pos'] e pos) (b6s te (b1y i)):=by
 intro pins s σ H D I h
 refine wpAny_Assign_Name (thn (he pins s σ H _ I h) fun v s1 ⟨y,H1,I1,r1,q1⟩=>?_) hs
 exact Y4 I1 hN hi hx r1 (fun s2 I2=>⟨_,H1,I2,q1⟩) hf
def c0l (i j:Nat) (ta:TA):TS:=fun D σ H=>ta σ H fun vs H1=>∃ v w,vs=[v,w]∧D.nx ((σ.set i (some v)).set j (some w)) H1
theorem b6Q {i j:Nat} {x y:Str} {a b:Expr} {ta:TA} {px py pt:Pos} {kt k2 pt2} (hc:X.calm=true) (hN:X.N.Nodup) (hi:X.N[i]? = some x) (hj:X.N[j]? = some y) (hij:i≠j)
  (hx:X.env.scope.names.lookup x=some .local) (hy:X.env.scope.names.lookup y=some .local) (ha:PA X [a,b] ta)
  (hw:swappedStores [.Tuple [.Name x px,.Name y py] kt pt] (.Tuple [a,b] k2 pt2) X.env=pure (some [x,y]))
  (hs:swapsWithSole [.Tuple [.Name x px,.Name y py] kt pt] (.Tuple [a,b] k2 pt2) pos.line X.env=pure false:=by rfl) :
  PS X (.Assign [.Tuple [.Name x px,.Name y py] kt pt] (.Tuple [a,b] k2 pt2) pos) (c0l i j ta):=by
 intro pins s σ H D I h
 rw [exec_Assign_arm]
 refine wpAny_bind (wpAny_standAt ?_)
 rw [hs]
 refine wpAny_bind (wpAny_pure ?_)
 rw [if_neg (by decide)]
 refine wpAny_bind (Tuple_ (thn (ha _ pins s σ H _ I h) fun us s1 zz=>?_))
 obtain ⟨vs,H1,I1,r1,q1⟩:=zz
 obtain ⟨v,w,e1,q1⟩:=q1
 subst e1
 obtain ⟨u1,u2,rfl,rv,rw'⟩:∃ u1 u2,us=[u1,u2]∧m9 v u1∧m9 w u2:=by
  cases r1 with
  | cons p q =>
   cases q with
   | cons p' q' =>
    cases q'
    exact ⟨_,_,rfl,p,p'⟩
 refine wpAny_newObj_type ?_ (by show 2≤sizeLine; decide)
 have I2:Inv X pins σ H1 { s1 with heap:=s1.heap.push { cls:=.type "tuple",data:=.seq [u1,u2].toArray } }:=I1.kept (t':=s1.toks) fun b o e=>Heap.get?_push_of_some _ e
 rw [hw]
 refine wpAny_bind (wpAny_pure ?_)
 show wpAny (model X.prog X.w) X.A (do rule "assign.swapped-stores"; let items ← unpackItems (.ref s1.heap.objs.size) 2 none; assignInOrder [fun v=>bindName X.env y v,fun v=>bindName X.env x v] items.reverse; pure Flow.next) _ _ _
 refine wpAny_bind (wpAny_rule (wpAny_bind (unpackItems_tuple (items:=#[u1,u2]) (I.ok.hd hc) (IsTup.new s1.heap _) fun h' hx'=>?_)))
 have I3:=I2.kept (h':=h') (t':=s1.toks) fun b o e=>hx' b o (Nat.ne_of_lt (Heap.lt_size e)) e
 show wpAny _ _ (assignInOrder [fun v=>bindName X.env y v,fun v=>bindName X.env x v] [u2,u1] >>= fun _=>pure Flow.next) _ _ _
 refine wpAny_bind (assignInOrder_cons (wpAny_bindName (Y4 I3 hN hj (.inl hy) rw' (fun s2 I4=>?_) (.inr hy))))
 refine assignInOrder_cons (wpAny_bindName (Y4 I4 hN hi (.inl hx) rv (fun s3 I5=>assignInOrder_nil (wpAny_pure ?_)) (.inr hx)))
 rw [List.set_comm _ _ (Ne.symm hij)] at I5
 exact ⟨_,H1,I5,q1⟩
end
section
variable {X:Cx} {pos:Pos}
def b6q (c:TT) (tb:TS):TS:=fun D σ H=>∃ W:Nat→St→Hp→Prop,(∃ m,W m σ H)∧∀ m σ H,W m σ H →
 c σ H fun b H1=>if b=true then ∃ N:St→Hp→Prop,(∀ σ' H',N σ' H'→∃ m',m'<m∧W m' σ' H')∧tb { D with nx:=N,ct:=N,bk:=D.nx } σ H1 else D.nx σ H1
theorem b0R {c:Expr} {body:List Stmt} {tc:TT} {tb:TS} (hp:PassesOwn (model X.prog X.w) X.A X.env X.xe) (hc:PT X c tc) (hb:PSs X body tb):PS X (.While c body [] pos) (b6q tc tb):=by
 intro pins s σ H D I h
 obtain ⟨W,⟨m0,w0⟩,turn⟩:=h
 refine wpAny_While (codeAny_whileLoop (fun n s'=>∃ σ' H',Inv X pins σ' H' s'∧W n σ' H') ?_ m0 ⟨σ,H,I,w0⟩)
 rintro n s1 ⟨σ1,H1,I1,w1⟩
 refine wpAny_passesOwn hp (thn (hc pins s1 σ1 H1 _ I1 (turn n σ1 H1 w1)) fun b s2 zz=>?_)
 obtain ⟨H2,I2,q2⟩:=zz
 cases b with
 | true =>
  obtain ⟨N,hN,q2⟩:=q2
  rw [if_pos rfl]
  refine wpAny_passesOwn hp (thn (hb pins s2 σ1 H2 _ I2 q2) fun f s3 q3=>?_)
  cases f with
  | next =>
   obtain ⟨σ3,H3,I3,n3⟩:=q3
   obtain ⟨m',hm,w3⟩:=hN σ3 H3 n3
   exact ⟨m',hm,σ3,H3,I3,w3⟩
  | cont =>
   obtain ⟨σ3,H3,I3,n3⟩:=q3
   obtain ⟨m',hm,w3⟩:=hN σ3 H3 n3
   exact ⟨m',hm,σ3,H3,I3,w3⟩
  | brk=>exact q3
  | ret v=>exact q3
 | false =>
  rw [if_neg Bool.false_ne_true]
  exact wpAny_execs_nil ⟨σ1,H2,I2,q2⟩
end
structure It where
 go:Nat→Hp→Prop
 yld:Nat→Hp→V→Hp→Prop
 stop:Nat→Hp→Prop
def X5 (X:Cx) (pins:List (Addr × Obj)) (H:Hp) (b:Addr):Prop :=
 H b=none∧b≠X.env.locals∧b∉X.fs∧(b∈X.ex∨X.s₀.heap.objs.size≤b)∧(∀ x c,X.env.cells.lookup x=some c→c≠b)∧∀ p∈X.pn++pins,p.1≠b
theorem Inv.fpOk {X:Cx} {pins:List (Addr × Obj)} {σ:St} {H H':Hp} {s:Shared} {b:Addr} (I:Inv X pins σ H s) (hb:s.heap.objs.size≤b) (hn:H' b=none):X5 X pins H' b:=by
 refine ⟨hn,Nat.ne_of_gt (Nat.lt_of_lt_of_le I.lt hb),I.nofs hb,.inr (Nat.le_trans I.sz hb),fun x c e z=>?_,fun p hp z=>?_⟩
 ·obtain ⟨v,q⟩:=I.cell x c e
  exact absurd (Nat.lt_of_lt_of_le q.lt (by rw [z]; exact hb)) (Nat.lt_irrefl _)
 ·exact absurd (Nat.lt_of_lt_of_le (Heap.lt_size (I.pin p hp).1) (by rw [z]; exact hb)) (Nat.lt_irrefl _)
structure a6f (P:Program) (w:World) (K:PySem.W.Frag) (tg:Expr) (J:It) (fp:List Addr) (it:Addr) (tn:Nat→Heap→Prop):Prop where
 mem:it∈fp
 obj:∀ i h,tn i h→∀ b∈fp,∃ o,h.get? b=some o∧∀ v,o.data ≠ .cell v
 keep:∀ i h h',tn i h→(∀ b∈fp,∀ o,h.get? b=some o→h'.get? b=some o)→tn i h'
 item:∀ (X:Cx),X.prog=P→X.w=w→X.K=K→X.calm=true→∀ (i:Nat) (pins:List (Addr × Obj)) (s:Shared) (σ:St) (H:Hp) (E:Value→Shared→Prop),Inv X pins σ H s→(∀ b∈fp,X5 X pins H b)→tn i s.heap→J.go i H →
  wpAny (model P w) X.A (pyNext (.ref it)) (fun r s1=>∃ u,r=some u ∧
   wpAny (model P w) X.A (letOwnedTupleGo tg (.ref it) u) (fun _ s2=>∃ x H',Inv X pins σ H' s2∧m9 x u∧J.yld i H x H'∧tn (i+1) s2.heap∧∀ b∈fp,H' b=none) E s1) E s
 done:∀ (X:Cx),X.prog=P→X.w=w→X.K=K→X.calm=true→∀ (i:Nat) (pins:List (Addr × Obj)) (s:Shared) (σ:St) (H:Hp) (E:Value→Shared→Prop),Inv X pins σ H s→(∀ b∈fp,X5 X pins H b)→tn i s.heap→J.stop i H →
  wpAny (model P w) X.A (pyNext (.ref it)) (fun r s1=>r=none∧Inv X pins σ H s1) E s
 self:∀ (A:Around) (i:Nat) (s:Shared) (Q:Value→Shared→Prop) (E:Value→Shared→Prop),tn i s.heap→Q (.ref it) s→wpAny (model P w) A (pyIter (.ref it)) Q E s
abbrev TI:=St→Hp→(It→Hp→Prop)→Prop
def PIE (X:Cx) (pins:List (Addr × Obj)) (σ:St) (tg:Expr) (R:It→Hp→Prop) (itv:Value) (s2:Shared):Prop :=
 ∃ (it:Addr) (fp:List Addr) (tn:Nat→Heap→Prop) (J:It) (H':Hp),itv = .ref it∧Inv X pins σ H' s2∧a6f X.prog X.w X.K tg J fp it tn∧tn 0 s2.heap∧(∀ b∈fp,X5 X pins H' b)∧R J H'
def PI (X:Cx) (tg iter:Expr) (wi:TI):Prop :=
 ∀ (pins:List (Addr × Obj)) (s:Shared) (σ:St) (H:Hp) (R:It→Hp→Prop),Inv X pins σ H s→wi σ H R →
  wpAny (model X.prog X.w) X.A (eval iter X.env) (fun v s1=>wpAny (model X.prog X.w) X.A (pyIter v) (PIE X pins σ tg R) X.xe s1) X.xe s
theorem a8v {M:Model} {A:Around} {E:Value→Shared→Prop} {s:Shared} {tg:Expr} {it:Addr} {u:Value} {o:Obj} {n:String} {vs:Array Value} {Q:Unit→Shared→Prop} (ho:s.heap.get? it=some o) (hc:o.cls = .type n) (hd:o.data = .fields vs)
  (hn:["enumerate", "zip", "dict_itemiterator", "dict_reverseitemiterator", "odict_iterator", "itertools.zip_longest", "itertools.pairwise"].contains n=false) (hQ:Q () s):wpAny M A (letOwnedTupleGo tg (.ref it) u) Q E s:=by
 unfold letOwnedTupleGo
 cases tg <;> first
  | exact wpAny_pure hQ
  | (cases u <;> first
    | exact wpAny_pure hQ
    | (refine wpAny_bind (wpAny_load ho ?_); rw [hc,hd]; show wpAny M A (if (["enumerate", "zip", "dict_itemiterator", "dict_reverseitemiterator", "odict_iterator", "itertools.zip_longest", "itertools.pairwise"].contains n && vs[0]? == some (rawInt _))=true then _ else _) Q E s; rw [if_neg (by intro h; rw [hn,Bool.false_and] at h; cases h)]; exact wpAny_pure hQ))
def Itl (K:PySem.W.Frag) (a:Addr):It :=
 ⟨fun i H=>∃ xs x,SqL K H a xs∧xs[i]? = some x,fun i H x H'=>H'=H∧∀ xs,SqL K H a xs→xs[i]? = some x,fun i H=>∃ xs,SqL K H a xs∧xs.length≤i⟩
def Itt (K:PySem.W.Frag) (a:Addr):It :=
 ⟨fun i H=>∃ xs x,SqT K H a xs∧xs[i]? = some x,fun i H x H'=>H'=H∧∀ xs,SqT K H a xs→xs[i]? = some x,fun i H=>∃ xs,SqT K H a xs∧xs.length≤i⟩
def Itr (lo:Int) (n:Nat):It:=⟨fun i _=>i<n,fun i H x H'=>H'=H∧x = .int (lo+i),fun i _=>n≤i⟩
theorem a8U {P:Program} {w:World} {K:PySem.W.Frag} {tg:Expr} (a it:Addr):a6f P w K tg (Itl K a) [it] it (fun i h=>h.IsListIter it a i) where
 mem:=by simp
 obj:=fun i h st b hb=>by
  have e:b=it:=by simpa using hb
  subst e
  obtain ⟨o,e,c,d⟩:=st
  exact ⟨o,e,fun v z=>by rw [d] at z; cases z⟩
 keep:=fun i h h' st k=>st.at fun o e=>k it (by simp) o e
 item:=by
  intro X hP hw hK hc i pins s σ H E I hf st hg
  subst hP hw hK
  obtain ⟨xs,x,hq,hx⟩:=hg
  obtain ⟨its,rv,p,hz⟩:=I.list hq
  obtain ⟨u,hu,ru⟩:=rv.get hx
  obtain ⟨f0,f1,f2,f3,f4,f5⟩:=hf it (by simp)
  refine wpAny_pyNext_list_item st p.isList (x:=u) (by simpa using hu) fun h' st' sb=>?_
  have I1:Inv X pins σ H { s with heap:=h' }:=I.turned (t':=s.toks) (fun b o hb e=>(sb.2 b hb).trans e) f0 f1 f3 f4 f5
  obtain ⟨o,e,c,d⟩:=id st'
  exact ⟨u,rfl,a8v (s:={ s with heap:=h' }) e c d (by decide) ⟨x,H,I1,ru,⟨rfl,fun ys hy=>by rw [I.list_inj hy hq]; exact hx⟩,st',fun b hb=>(hf b hb).1⟩⟩
 done:=by
  intro X hP hw hK hc i pins s σ H E I hf st hg
  subst hP hw hK
  obtain ⟨xs,hq,hx⟩:=hg
  obtain ⟨its,rv,p,hz⟩:=I.list hq
  obtain ⟨f0,f1,f2,f3,f4,f5⟩:=hf it (by simp)
  have hl:=rv.length
  exact wpAny_pyNext_list_end (I.ok.hd hc) st p.isList (by simp; omega) fun h' eb=>⟨rfl,I.turned (t':=s.toks) (fun b o hb e=>eb b o hb e) f0 f1 f3 f4 f5⟩
 self:=fun _ _ _ _ _ st h=>wpAny_pyIter_listiter st h
theorem a6n {P:Program} {w:World} {K:PySem.W.Frag} {tg:Expr} (a it:Addr):a6f P w K tg (Itt K a) [it] it (fun i h=>h.IsTupleIter it a i) where
 mem:=by simp
 obj:=fun i h st b hb=>by
  have e:b=it:=by simpa using hb
  subst e
  obtain ⟨o,e,c,d⟩:=st
  exact ⟨o,e,fun v z=>by rw [d] at z; cases z⟩
 keep:=fun i h h' st k=>st.at fun o e=>k it (by simp) o e
 item:=by
  intro X hP hw hK hc i pins s σ H E I hf st hg
  subst hP hw hK
  obtain ⟨xs,x,hq,hx⟩:=hg
  obtain ⟨its,rv,p,hz⟩:=I.tuple hq
  obtain ⟨u,hu,ru⟩:=rv.get hx
  obtain ⟨f0,f1,f2,f3,f4,f5⟩:=hf it (by simp)
  refine wpAny_pyNext_tuple_item st (show s.heap.IsTuple a its.toArray from p) (x:=u) (by simpa using hu) fun h' st' sb=>?_
  have I1:Inv X pins σ H { s with heap:=h' }:=I.turned (t':=s.toks) (fun b o hb e=>(sb.2 b hb).trans e) f0 f1 f3 f4 f5
  obtain ⟨o,e,c,d⟩:=id st'
  exact ⟨u,rfl,a8v (s:={ s with heap:=h' }) e c d (by decide) ⟨x,H,I1,ru,⟨rfl,fun ys hy=>by rw [I.tuple_inj hy hq]; exact hx⟩,st',fun b hb=>(hf b hb).1⟩⟩
 done:=by
  intro X hP hw hK hc i pins s σ H E I hf st hg
  subst hP hw hK
  obtain ⟨xs,hq,hx⟩:=hg
  obtain ⟨its,rv,p,hz⟩:=I.tuple hq
  obtain ⟨f0,f1,f2,f3,f4,f5⟩:=hf it (by simp)
  have hl:=rv.length
  exact wpAny_pyNext_tuple_end (I.ok.hd hc) st (show s.heap.IsTuple a its.toArray from p) (by simp; omega) fun h' eb=>⟨rfl,I.turned (t':=s.toks) (fun b o hb e=>eb b o hb e) f0 f1 f3 f4 f5⟩
 self:=fun _ _ _ _ _ st h=>wpAny_pyIter_tupleiter st h
theorem a6p {P:Program} {w:World} {K:PySem.W.Frag} {tg:Expr} (it:Addr) (lo:Int) (n:Nat):a6f P w K tg (Itr lo n) [it] it (fun i h=>IsRangeIter h it (lo+(i:Nat)*1) ((n:Int) - (i:Nat)) 1) where
 mem:=by simp
 obj:=fun i h st b hb=>by
  have e:b=it:=by simpa using hb
  subst e
  exact ⟨_,st,fun v z=>by
   have z':Data.fields _=Data.cell v:=z
   cases z'⟩
 keep:=fun i h h' st k=>k it (by simp) _ st
 item:=by
  intro X hP hw hK hc i pins s σ H E I hf st hg
  subst hP hw hK
  obtain ⟨f0,f1,f2,f3,f4,f5⟩:=hf it (by simp)
  have W:=Walks.range (prog:=X.prog) (w:=X.w) (I.ok.hd hc) it lo 1 n
  refine W.item i s _ _ hg st fun v h' tk hv st' kk=>?_
  obtain ⟨t,rfl⟩:=hv
  have I1:Inv X pins σ H { s with heap:=h',toks:=tk }:=I.turned (fun b o hb e=>kk b o (by simpa using hb) e) f0 f1 f3 f4 f5
  refine ⟨_,rfl,a8v (s:={ s with heap:=h',toks:=tk }) (n := "range_iterator") st' rfl rfl (by decide) ⟨.int (lo+i),H,I1,⟨t,?_⟩,⟨rfl,rfl⟩,st',fun b hb=>(hf b hb).1⟩⟩
  rw [Int.mul_one]
 done:=by
  intro X hP hw hK hc i pins s σ H E I hf st hg
  subst hP hw hK
  obtain ⟨f0,f1,f2,f3,f4,f5⟩:=hf it (by simp)
  exact wpAny_pyNext_range_end (I.ok.hd hc) st (by have:n≤i:=hg; omega) fun h' eb=>⟨rfl,I.turned (t':=s.toks) (fun b o hb e=>eb b o hb e) f0 f1 f3 f4 f5⟩
 self:=fun _ _ _ _ _ st h=>wpAny_pyIter_rangeiter st h
end L2
namespace L2
open PySem PySem.Spec PyProof.Rows
section
variable {X:Cx} {tg:Expr}
theorem b0P {pins:List (Addr × Obj)} {σ:St} {H:Hp} {s:Shared} {R:It→Hp→Prop} {E:Value→Shared→Prop} {lo hi:Int} {t u v:Tok} {tk:Nat} (I:Inv X pins σ H s) (h1:-(2 ^ 62)≤lo) (h2:lo<2 ^ 62) (h3:-(2 ^ 62)≤hi) (h4:hi<2 ^ 62)
  (q:R (Itr lo (hi - lo).toNat) H):wpAny (model X.prog X.w) X.A (pyIter (.ref s.heap.objs.size)) (PIE X pins σ tg R) E { s with heap:=s.heap.push { cls:=.type "range",data:=.fields #[.int lo t,.int hi u,.int 1 v] },toks:=tk }:=by
 refine wpAny_pyIter_range (IsRange.new ..) (small_one h1 h2 h3 h4) ?_
 have I1:Inv X pins σ H { s with heap:=s.heap.push { cls:=.type "range",data:=.fields #[.int lo t,.int hi u,.int 1 v] },toks:=tk }:=I.kept fun b o e=>Heap.get?_push_of_some _ e
 refine ⟨(s.heap.push { cls:=.type "range",data:=.fields #[.int lo t,.int hi u,.int 1 v] }).objs.size,[(s.heap.push { cls:=.type "range",data:=.fields #[.int lo t,.int hi u,.int 1 v] }).objs.size],_,_,H,rfl,
  I1.kept (t':=tk) fun b o e=>Heap.get?_push_of_some _ e,a6p _ lo (hi - lo).toNat,?_,fun b hb=>?_,q⟩
 ·have e1:lo+((0:Nat):Int)*1=lo:=by simp
  have e2:(((hi - lo).toNat:Nat):Int) - ((0:Nat):Int)=Builtin.Range.rangeSize lo hi 1:=by rw [rangeSize_one]; split <;> omega
  show IsRangeIter _ _ (lo+((0:Nat):Int)*1) ((((hi - lo).toNat:Nat):Int) - ((0:Nat):Int)) 1
  rw [e1,e2]
  exact Heap.get?_push_size _ rfl
 ·have e:b=(s.heap.push { cls:=.type "range",data:=.fields #[.int lo t,.int hi u,.int 1 v] }).objs.size:=by simpa using hb
  subst e
  exact I1.fpOk (Nat.le_refl _) (I1.hok.fresh (Nat.le_refl _))
def b9A (ta:TA):TI:=fun σ H R=>ta σ H fun vs H1=>∃ j:Int,vs=[.int j]∧-(2 ^ 62)≤j∧j<2 ^ 62∧R (Itr 0 j.toNat) H1
theorem a89 {a:Expr} {ta:TA} {p pos:Pos} (hg:Gl X "range") (hm:X.mg "range" = none) (ha:PA X [a] ta) (hs:starEach [a] X.env=[(false,eval a X.env)]:=by rfl):PI X tg (.Call (.Name "range" p) [a] [] pos) (b9A ta):=by
 intro pins s σ H R I h
 refine Call_ (K0 I hg hm boot_range (PyProof.Rows.callWith_type1 (thn (ha pos pins s σ H _ I h) fun us s1 ⟨vs,H1,I1,r1,q1⟩=>?_) hs rfl))
 obtain ⟨j,e,q1,q2,q⟩:=q1
 subst e
 cases r1 with
 | cons r rr =>
  cases rr
  obtain ⟨t,rfl⟩:=r
  exact call_range_1 (b0P I1 (by omega) (by omega) q1 q2 (by simpa using q))
def c0r (wi:TI) (g:TG) (tb:TS):TS:=fun D σ H=>wi σ H fun J H1=>∃ W:Nat→Nat→St→Hp→Prop,(∃ m,W 0 m σ H1)∧∀ i m σ H,W i m σ H →
 (J.stop i H∧D.nx σ H)∨(J.go i H∧∃ N:St→Hp→Prop,(∀ σ' H',N σ' H'→∃ m',m'<m∧W (i+1) m' σ' H')∧∀ x H',J.yld i H x H'→g x σ H' fun σ2 H2=>tb { D with nx:=N,ct:=N,bk:=D.nx } σ2 H2)
def a4a (fp:List Addr) (h:Heap):List (Addr × Obj):=fp.filterMap fun b=>(h.get? b).map fun o=>(b,o)
theorem C6 {fp:List Addr} {h:Heap} {b:Addr} {o:Obj} (hb:b∈fp) (e:h.get? b=some o):(b,o)∈a4a fp h:=List.mem_filterMap.mpr ⟨b,hb,by rw [e]; rfl⟩
theorem a9a {fp:List Addr} {h:Heap} {p:Addr × Obj} (hp:p∈a4a fp h):p.1∈fp∧h.get? p.1=some p.2:=by
 obtain ⟨b,hb,e⟩:=List.mem_filterMap.mp hp
 cases q:h.get? b with
 | none=>rw [q] at e; cases e
 | some o =>
  rw [q] at e
  have e':(b,o)=p:=Option.some.inj e
  subst e'
  exact ⟨hb,q⟩
theorem Inv.pinned {pins:List (Addr × Obj)} {σ:St} {H:Hp} {s:Shared} {fp:List Addr} (I:Inv X pins σ H s) (hf:∀ b∈fp,X5 X pins H b) (ho:∀ b∈fp,∃ o,s.heap.get? b=some o∧∀ v,o.data ≠ .cell v):Inv X (pins++a4a fp s.heap) σ H s :=
 I.pins_of fun p hp=>(List.mem_append.mp hp).elim (fun z=>I.pin p (List.mem_append_right _ z)) fun z=>by
  obtain ⟨hb,e⟩:=a9a z
  obtain ⟨f0,f1,f2,_⟩:=hf p.1 hb
  obtain ⟨o,e',d⟩:=ho p.1 hb
  rw [e] at e'; cases e'
  exact ⟨e,f0,f1,f2,d⟩
theorem Inv.unpinned {pins pl:List (Addr × Obj)} {σ:St} {H:Hp} {s:Shared} (I:Inv X (pins++pl) σ H s):Inv X pins σ H s:=I.pins_of fun p hp=>I.pin p (List.mem_append_right _ (List.mem_append_left _ hp))
theorem b6R {iter:Expr} {body:List Stmt} {wi:TI} {g:TG} {tb:TS} {pos:Pos} (hp:PassesOwn (model X.prog X.w) X.A X.env X.xe) (hc:X.calm=true) (hi:PI X tg iter wi) (hg:PG X tg g) (hb:PSs X body tb)
  (hs:∀ x,foldedSetIterable iter X.env x=pure x:=by intro _; rfl):PS X (.For tg iter body [] pos) (c0r wi g tb):=by
 intro pins s σ H D I h
 refine wpAny_For (thn (hi pins s σ H _ I h) fun v s1 h1=>thn h1 fun itv s2 h2=>?_) hs
 obtain ⟨it,fp,tn,J,H2,e,I2,T,st2,f2,W,⟨m0,w0⟩,turn⟩:=h2
 subst e
 have stat:∀ {H':Hp},(∀ b∈fp,H' b=none)→∀ b∈fp,X5 X pins H' b:=fun hn b hb=>⟨hn b hb,(f2 b hb).2⟩
 refine codeAny_forLoop_any (fun n s'=>∃ i σ' H',Inv X pins σ' H' s'∧tn i s'.heap∧(∀ b∈fp,H' b=none)∧W i n σ' H') ?_ m0 ⟨0,σ,H2,I2,st2,fun b hb=>(f2 b hb).1,w0⟩
 rintro n s3 ⟨i,σ3,H3,I3,st3,fr3,w3⟩
 rcases turn i n σ3 H3 w3 with ⟨stop,qn⟩ | ⟨go,N,hN,step⟩
 ·refine wpAny_passesOwn hp (thn (T.done X rfl rfl rfl hc i pins s3 σ3 H3 X.xe I3 (stat fr3) st3 stop) fun r s4 zz=>?_)
  obtain ⟨hr,I4⟩:=zz
  subst hr
  exact wpAny_execs_nil ⟨σ3,H3,I4,qn⟩
 ·refine wpAny_passesOwn hp (thn (T.item X rfl rfl rfl hc i pins s3 σ3 H3 X.xe I3 (stat fr3) st3 go) fun r s4 zz=>?_)
  obtain ⟨u,hr,h4⟩:=zz
  subst hr
  refine wpAny_passesOwn hp (thn h4 fun _ s5 zz=>?_)
  obtain ⟨x,H5,I5,r5,y5,st5,fr5⟩:=zz
  have I5':=I5.pinned (stat fr5) (T.obj _ _ st5)
  refine wpAny_passesOwn hp (thn (hg _ s5 σ3 H5 x u _ I5' r5 (step x H5 y5)) fun _ s6 zz=>?_)
  obtain ⟨σ6,H6,I6,q6⟩:=zz
  refine wpAny_passesOwn hp (thn (hb _ s6 σ6 H6 _ I6 q6) fun f s7 q7=>?_)
  have again:∀ {σ7:St} {H7:Hp},Inv X (pins++a4a fp s5.heap) σ7 H7 s7→N σ7 H7→∃ m,m<n∧∃ i σ' H',Inv X pins σ' H' s7∧tn i s7.heap∧(∀ b∈fp,H' b=none)∧W i m σ' H':=fun {σ7 H7} I7 n7=>by
   obtain ⟨m',hm,w7⟩:=hN σ7 H7 n7
   refine ⟨m',hm,i+1,σ7,H7,I7.unpinned,T.keep _ _ _ st5 fun b hb o e=>(I7.pin (b,o) (List.mem_append_right _ (List.mem_append_right _ (C6 hb e)))).1,fun b hb=>?_,w7⟩
   obtain ⟨o,e,d⟩:=T.obj _ _ st5 b hb
   exact (I7.pin (b,o) (List.mem_append_right _ (List.mem_append_right _ (C6 hb e)))).2.1
  cases f with
  | next=>obtain ⟨σ7,H7,I7,n7⟩:=q7; exact again I7 n7
  | cont=>obtain ⟨σ7,H7,I7,n7⟩:=q7; exact again I7 n7
  | brk=>obtain ⟨σ7,H7,I7,q7⟩:=q7; exact ⟨σ7,H7,I7.unpinned,q7⟩
  | ret v=>obtain ⟨x7,σ7,H7,I7,r7,q7⟩:=q7; exact ⟨x7,σ7,H7,I7.unpinned,r7,q7⟩
end
end L2
namespace L2
open PySem PySem.Spec PyProof.Rows
abbrev R2:=V→V→Hp→VK→Prop
def OpR (X:Cx) (f:Value→Value→Sem Value) (r:R2):Prop :=
 ∀ (pins:List (Addr × Obj)) (s:Shared) (σ:St) (H:Hp) (x y:V) (v u:Value) (Q:VK),Inv X pins σ H s→m9 x v→m9 y u→r x y H Q →
  wpAny (model X.prog X.w) X.A (f v u) (EP X pins σ Q) X.xe s
def UnR (X:Cx) (f:Value→Sem Value) (r:V→Hp→VK→Prop):Prop :=
 ∀ (pins:List (Addr × Obj)) (s:Shared) (σ:St) (H:Hp) (x:V) (v:Value) (Q:VK),Inv X pins σ H s→m9 x v→r x H Q →
  wpAny (model X.prog X.w) X.A (f v) (EP X pins σ Q) X.xe s
def A7 (X:Cx) (f:Value) (r:List V→Hp→VK→Prop):Prop :=
 ∀ (pins:List (Addr × Obj)) (s:Shared) (σ:St) (H:Hp) (xs:List V) (us:List Value) (Q:VK),Inv X pins σ H s→j9 xs us→r xs H Q →
  wpAny (model X.prog X.w) X.A (call f us) (EP X pins σ Q) X.xe s
def tOp (r:R2) (ta tb:TE):TE:=fun σ H Q=>ta σ H fun x H1=>tb σ H1 fun y H2=>r x y H2 Q
def tUn (r:V→Hp→VK→Prop) (ta:TE):TE:=fun σ H Q=>ta σ H fun x H1=>r x H1 Q
def rI (C:Int→Int→Prop) (g:Int→Int→V):R2:=fun x y H Q=>∃ i j,x = .int i∧y = .int j∧C i j∧Q (g i j) H
def rI0 (g:Int→Int→V):R2:=fun x y H Q=>∃ i j,x = .int i∧y = .int j∧Q (g i j) H
def rU (g:Int→V):V→Hp→VK→Prop:=fun x H Q=>∃ i,x = .int i∧Q (g i) H
section
variable {X:Cx} {a b c:Expr} {ta tb tc:TE} {pos:Pos}
theorem b8j (ha:PE X a ta) (hb:PE X b tb) {pins:List (Addr × Obj)} {s:Shared} {σ:St} {H:Hp} {R:V→V→Hp→Prop} (I:Inv X pins σ H s)
  (h:ta σ H fun x H1=>tb σ H1 fun y H2=>R x y H2) {Q:Value→Shared→Prop} {f:Value→Value→Sem Value}
  (hf:∀ v u s2 x y H2,Inv X pins σ H2 s2→m9 x v→m9 y u→R x y H2→wpAny (model X.prog X.w) X.A (f v u) Q X.xe s2) :
  wpAny (model X.prog X.w) X.A (eval a X.env) (fun v s₁=>wpAny (model X.prog X.w) X.A (eval b X.env) (fun u s₂=>wpAny (model X.prog X.w) X.A (f v u) Q X.xe s₂) X.xe s₁) X.xe s:=by
 refine thn (ha pins s σ H _ I h) fun v s1 zz=>?_
 obtain ⟨x,H1,I1,r1,q1⟩:=zz
 refine thn (hb pins s1 σ H1 _ I1 q1) fun u s2 zz=>?_
 obtain ⟨y,H2,I2,r2,q2⟩:=zz
 exact hf v u s2 x y H2 I2 r1 r2 q2
theorem b5P {op:Operator} {r:R2} (ho:OpR X (binaryOp op) r) (ha:PE X a ta) (hb:PE X b tb):PE X (.BinOp a op b pos) (tOp r ta tb):=by
 intro pins s σ H Q I h
 exact wpAny_BinOp (b8j ha hb I h fun v u s2 x y H2 I2 rx ry q=>ho pins s2 σ H2 x y v u Q I2 rx ry q)
theorem b9i {op:UnaryOp} {r:V→Hp→VK→Prop} (ho:UnR X (unaryOp op) r) (ha:PE X a ta):PE X (.UnaryOp op a pos) (tUn r ta):=by
 intro pins s σ H Q I h
 exact UnaryOp_ (thn (ha pins s σ H _ I h) fun v s1 ⟨x,H1,I1,r1,q1⟩=>ho pins s1 σ H1 x v Q I1 r1 q1)
theorem opI {f:Value→Value→Sem Value} {C:Int→Int→Prop} {g:Int→Int→Int}
  (rule:∀ (i j:Int) (t u:Tok) (s:Shared) (Q:Value→Shared→Prop) (E:Value→Shared→Prop),C i j→Q (.int (g i j) s.toks) { s with toks:=s.toks+1 }→wpAny (model X.prog X.w) X.A (f (.int i t) (.int j u)) Q E s) :
  OpR X f (rI C fun i j=>.int (g i j)):=by
 intro pins s σ H x y v u Q I rx ry h
 obtain ⟨i,j,rfl,rfl,hc,q⟩:=h
 obtain ⟨t,rfl⟩:=rx
 obtain ⟨t',rfl⟩:=ry
 exact rule i j t t' s _ _ hc ⟨.int (g i j),H,I.tok _,⟨_,rfl⟩,q⟩
theorem b9q {f:Value→Value→Sem Value} {g:Int→Int→Int}
  (rule:∀ (i j:Int) (t u:Tok) (s:Shared) (Q:Value→Shared→Prop) (E:Value→Shared→Prop),Q (.int (g i j) s.toks) { s with toks:=s.toks+1 }→wpAny (model X.prog X.w) X.A (f (.int i t) (.int j u)) Q E s) :
  OpR X f (rI0 fun i j=>.int (g i j)):=by
 intro pins s σ H x y v u Q I rx ry h
 obtain ⟨i,j,rfl,rfl,q⟩:=h
 obtain ⟨t,rfl⟩:=rx
 obtain ⟨t',rfl⟩:=ry
 exact rule i j t t' s _ _ ⟨.int (g i j),H,I.tok _,⟨_,rfl⟩,q⟩
theorem b9r {f:Value→Value→Sem Value} {g:Int→Int→Bool}
  (rule:∀ (i j:Int) (t u:Tok) (s:Shared) (Q:Value→Shared→Prop) (E:Value→Shared→Prop),Q (.bool (g i j)) s→wpAny (model X.prog X.w) X.A (f (.int i t) (.int j u)) Q E s) :
  OpR X f (rI0 fun i j=>.bl (g i j)):=by
 intro pins s σ H x y v u Q I rx ry h
 obtain ⟨i,j,rfl,rfl,q⟩:=h
 obtain ⟨t,rfl⟩:=rx
 obtain ⟨t',rfl⟩:=ry
 exact rule i j t t' s _ _ ⟨.bl (g i j),H,I,rfl,q⟩
def a9A (i j:Int):Prop:=0≤j∧j≤1000000∧i.natAbs<2 ^ 64
theorem b7b:OpR X (binaryOp .Add) (rI0 fun i j=>.int (i+j)):=b9q fun _ _ _ _ _ _ _ q=>add_int q
theorem b68:OpR X (binaryOp .Sub) (rI0 fun i j=>.int (i - j)):=b9q fun _ _ _ _ _ _ _ q=>sub_int q
theorem b7a:OpR X (binaryOp .Mod) (rI (fun _ j=>0<j) fun i j=>.int (i % j)):=opI fun i j _ _ _ _ _ hc q=>by
 have h1:(0:Int)<j:=hc
 exact mod_int' (by omega) (by rw [Int.fmod_eq_emod_of_nonneg i (by omega)]; exact q)
theorem b69:OpR X (binaryOp .Pow) (rI a9A fun i j=>.int (i ^ j.toNat)):=opI fun _ _ _ _ _ _ _ hc q=>pow_int_small hc.1 hc.2.1 hc.2.2 q
theorem unI {f:Value→Sem Value} {g:Int→Int}
  (rule:∀ (i:Int) (t:Tok) (s:Shared) (Q:Value→Shared→Prop) (E:Value→Shared→Prop),Q (.int (g i) s.toks) { s with toks:=s.toks+1 }→wpAny (model X.prog X.w) X.A (f (.int i t)) Q E s) :
  UnR X f (rU fun i=>.int (g i)):=by
 intro pins s σ H x v Q I rx h
 obtain ⟨i,rfl,q⟩:=h
 obtain ⟨t,rfl⟩:=rx
 exact rule i t s _ _ ⟨.int (g i),H,I.tok _,⟨_,rfl⟩,q⟩
theorem b6o:UnR X (unaryOp .USub) (rU fun i=>.int (-i)):=unI fun _ _ _ _ _ q=>neg_int q
end
def b9b:V→V→Bool
 | .non,.non=>true | .non,.int _=>true | .int _,.non=>true | .non,.bl _=>true | .bl _,.non=>true | .non,.str _=>true | .str _,.non=>true
 | .int _,.int _=>true | .bl _,.bl _=>true | .str _,.str _=>true | .byt _,.byt _=>true
 | .int _,.str _=>true | .str _,.int _=>true | .bl _,.str _=>true | .str _,.bl _=>true
 | _,_=>false
def rEq:R2:=fun x y H Q=>b9b x y=true∧Q (.bl (decide (x=y))) H
def rNe:R2:=fun x y H Q=>b9b x y=true∧Q (.bl (!decide (x=y))) H
theorem a8E {i j:Int}:decide (V.int i=V.int j)=(i == j):=by
 rw [Bool.eq_iff_iff]
 simp
theorem a7g {i j:Bool}:decide (V.bl i=V.bl j)=(i == j):=by
 rw [Bool.eq_iff_iff]
 simp
theorem a8D {i j:Str}:decide (V.str i=V.str j)=(i == j):=by
 rw [Bool.eq_iff_iff]
 simp
theorem a8F {i j:Array UInt8}:decide (V.byt i=V.byt j)=(i.toList == j.toList):=by
 rw [Bool.eq_iff_iff]
 cases i
 cases j
 simp
section
variable {X:Cx} {a b c:Expr} {ta tb tc:TE} {pos:Pos}
theorem o9 {pins:List (Addr × Obj)} {σ:St} {H:Hp} {s:Shared} {Q:VK} {k k':Bool} (I:Inv X pins σ H s) (q:Q (.bl k) H) (e:k=k'):EP X pins σ Q (.bool k') s:=by
 subst e
 exact ⟨.bl k,H,I,rfl,q⟩
theorem b5R:OpR X (compareOp .Eq) rEq:=by
 intro pins s σ H x y v u Q I rx ry h
 obtain ⟨hs,q⟩:=h
 cases x with
 | non =>
  cases rx
  cases y with
  | non=>cases ry; exact PySem.EqNone.eq_none_none (o9 I q (by simp))
  | bl j=>cases ry; exact PySem.EqNone.eq_none_bool (o9 I q (by simp))
  | int j=>obtain ⟨t',rfl⟩:=ry; exact PySem.EqNone.eq_none_int (o9 I q (by simp))
  | str j=>obtain ⟨t',rfl⟩:=ry; exact PySem.EqNone.eq_none_str (o9 I q (by simp))
  | _=>exact absurd (show false=true from hs) Bool.false_ne_true
 | bl i =>
  cases rx
  cases y with
  | non=>cases ry; exact PySem.EqNone.eq_bool_none (o9 I q (by simp))
  | bl j=>cases ry; exact eq_bool (o9 I q a7g)
  | str j=>obtain ⟨t',rfl⟩:=ry; exact PySem.EqMixed.eq_bool_str (o9 I q (by simp))
  | _=>exact absurd (show false=true from hs) Bool.false_ne_true
 | int i =>
  obtain ⟨t,rfl⟩:=rx
  cases y with
  | non=>cases ry; exact PySem.EqNone.eq_int_none (o9 I q (by simp))
  | int j=>obtain ⟨t',rfl⟩:=ry; exact eq_int (o9 I q a8E)
  | str j=>obtain ⟨t',rfl⟩:=ry; exact PySem.EqMixed.eq_int_str (o9 I q (by simp))
  | _=>exact absurd (show false=true from hs) Bool.false_ne_true
 | str i =>
  obtain ⟨t,rfl⟩:=rx
  cases y with
  | non=>cases ry; exact PySem.EqNone.eq_str_none (o9 I q (by simp))
  | bl j=>cases ry; exact PySem.EqMixed.eq_str_bool (o9 I q (by simp))
  | int j=>obtain ⟨t',rfl⟩:=ry; exact PySem.EqMixed.eq_str_int (o9 I q (by simp))
  | str j=>obtain ⟨t',rfl⟩:=ry; exact eq_str (o9 I q a8D)
  | _=>exact absurd (show false=true from hs) Bool.false_ne_true
 | byt i =>
  obtain ⟨t,rfl⟩:=rx
  cases y with
  | byt j=>obtain ⟨t',rfl⟩:=ry; exact PySem.W.eq_bytes (o9 I q a8F)
  | _=>exact absurd (show false=true from hs) Bool.false_ne_true
 | _=>cases y <;> exact absurd (show false=true from hs) Bool.false_ne_true
theorem b5Q:OpR X (compareOp .NotEq) rNe:=by
 intro pins s σ H x y v u Q I rx ry h
 obtain ⟨hs,q⟩:=h
 cases x with
 | non =>
  cases rx
  cases y with
  | non=>cases ry; exact PySem.EqNone.ne_none_none (o9 I q (by simp))
  | bl j=>cases ry; exact PySem.EqNone.ne_none_bool (o9 I q (by simp))
  | int j=>obtain ⟨t',rfl⟩:=ry; exact PySem.EqNone.ne_none_int (o9 I q (by simp))
  | str j=>obtain ⟨t',rfl⟩:=ry; exact PySem.EqNone.ne_none_str (o9 I q (by simp))
  | _=>exact absurd (show false=true from hs) Bool.false_ne_true
 | bl i =>
  cases rx
  cases y with
  | non=>cases ry; exact PySem.EqNone.ne_bool_none (o9 I q (by simp))
  | bl j=>cases ry; exact ne_bool (o9 I q (congrArg not a7g))
  | str j=>obtain ⟨t',rfl⟩:=ry; exact PySem.EqMixed.ne_bool_str (o9 I q (by simp))
  | _=>exact absurd (show false=true from hs) Bool.false_ne_true
 | int i =>
  obtain ⟨t,rfl⟩:=rx
  cases y with
  | non=>cases ry; exact PySem.EqNone.ne_int_none (o9 I q (by simp))
  | int j=>obtain ⟨t',rfl⟩:=ry; exact ne_int (o9 I q (congrArg not a8E))
  | str j=>obtain ⟨t',rfl⟩:=ry; exact PySem.EqMixed.ne_int_str (o9 I q (by simp))
  | _=>exact absurd (show false=true from hs) Bool.false_ne_true
 | str i =>
  obtain ⟨t,rfl⟩:=rx
  cases y with
  | non=>cases ry; exact PySem.EqNone.ne_str_none (o9 I q (by simp))
  | bl j=>cases ry; exact PySem.EqMixed.ne_str_bool (o9 I q (by simp))
  | int j=>obtain ⟨t',rfl⟩:=ry; exact PySem.EqMixed.ne_str_int (o9 I q (by simp))
  | str j=>obtain ⟨t',rfl⟩:=ry; exact ne_str (o9 I q (congrArg not a8D))
  | _=>exact absurd (show false=true from hs) Bool.false_ne_true
 | byt i =>
  obtain ⟨t,rfl⟩:=rx
  cases y with
  | byt j=>obtain ⟨t',rfl⟩:=ry; exact PySem.W.ne_bytes (o9 I q (congrArg not a8F))
  | _=>exact absurd (show false=true from hs) Bool.false_ne_true
 | _=>cases y <;> exact absurd (show false=true from hs) Bool.false_ne_true
theorem b9o:OpR X (compareOp .Lt) (rI0 fun i j=>.bl (decide (i<j))):=b9r fun _ _ _ _ _ _ _ q=>lt_int q
theorem b9p:OpR X (compareOp .Gt) (rI0 fun i j=>.bl (decide (j<i))):=b9r fun _ _ _ _ _ _ _ q=>gt_int q
theorem OpR.or {f:Value→Value→Sem Value} {r r':R2} (h:OpR X f r) (h':OpR X f r'):OpR X f (fun x y H Q=>r x y H Q∨r' x y H Q):=by
 intro pins s σ H x y v u Q I rx ry q
 rcases q with q | q
 ·exact h pins s σ H x y v u Q I rx ry q
 ·exact h' pins s σ H x y v u Q I rx ry q
theorem b1b (b:Expr) {op:CmpOp} (h:op ≠ .In:=by decide) (h2:op ≠ .NotIn:=by decide):behindInMarks op b=false:=by
 have e1:(op == CmpOp.In)=false:=by cases op <;> first | rfl | exact absurd rfl h
 have e2:(op == CmpOp.NotIn)=false:=by cases op <;> first | rfl | exact absurd rfl h2
 cases b <;> simp [behindInMarks,e1,e2]
theorem b3V {op:CmpOp} {r:R2} (ho:OpR X (compareOp op) r) (ha:PE X a ta) (hb:PE X b tb) (hm:behindInMarks op b=false):PE X (.Compare a [op] [b] pos) (tOp r ta tb):=by
 intro pins s σ H Q I h
 exact wpAny_Compare1 (b8j ha hb I h fun v u s2 x y H2 I2 rx ry q=>ho pins s2 σ H2 x y v u Q I2 rx ry q) hm
def b81 (t:TE):TT:=fun σ H Q=>t σ H fun x H'=>∃ k,x = .bl k∧Q k H'
theorem b3J {op:CmpOp} {r:R2} (ho:OpR X (compareOp op) r) (ha:PE X a ta) (hb:PE X b tb) (hm:behindInMarks op b=false):PT X (.Compare a [op] [b] pos) (b81 (tOp r ta tb)):=by
 intro pins s σ H Q I h
 refine wpAny_isTrue_Compare1 (thn (ha pins s σ H _ I h) fun v s1 ⟨x,H1,I1,r1,q1⟩=>thn (hb pins s1 σ H1 _ I1 q1) fun u s2 ⟨y,H2,I2,r2,q2⟩ =>
  thn (ho pins s2 σ H2 x y v u _ I2 r1 r2 q2) fun c s3 ⟨z,H3,I3,r3,k,e,q3⟩=>?_) hm
 subst e
 cases r3
 exact wpAny_truthy_bool ⟨H3,I3,q3⟩
theorem a4o:(sizeLine:Nat)<2 ^ 63:=by rw [sizeLine_eq]; decide
theorem Y1 {x:V} {us:List Value} (r:j9 [x] us):∃ u,us=[u]∧m9 x u:=by
 cases r with
 | cons r1 r2=>cases r2; exact ⟨_,rfl,r1⟩
theorem b0o {x y:V} {us:List Value} (r:j9 [x,y] us):∃ u w',us=[u,w']∧m9 x u∧m9 y w':=by
 cases r with
 | cons r1 r2 =>
  cases r2 with
  | cons r3 r4=>cases r4; exact ⟨_,_,rfl,r1,r3⟩
theorem b2e:A7 X (.builtin "abs") (fun xs H Q=>∃ i,xs=[.int i]∧Q (.int (if i<0 then -i else i)) H):=by
 intro pins s σ H xs us Q I r h
 obtain ⟨i,rfl,q⟩:=h
 obtain ⟨u,rfl,t,rfl⟩:=Y1 r
 exact call_abs_int fun u tk=>⟨.int (if i<0 then -i else i),H,I.tok _,⟨_,rfl⟩,q⟩
theorem a9t (hc:X.calm=true):A7 X (.builtin "max") (fun xs H Q=>∃ i j,xs=[.int i,.int j]∧Q (.int (if j > i then j else i)) H):=by
 intro pins s σ H xs us Q I r h
 obtain ⟨i,j,rfl,q⟩:=h
 obtain ⟨u,w',rfl,⟨t,rfl⟩,⟨t',rfl⟩⟩:=b0o r
 refine max_two_ints (I.ok.hd hc) fun h' tk k=>⟨_,H,I.kept k,?_,q⟩
 by_cases hj:j > i
 ·rw [if_pos hj,if_pos hj]; exact ⟨_,rfl⟩
 ·rw [if_neg hj,if_neg hj]; exact ⟨_,rfl⟩
end
end L2
namespace L2
open PySem PySem.Spec PyProof.Rows
structure b8q (h:Heap) (x dx C:Addr) (mA:Str→Option Value):Prop where
 obj:h.get? x=some (PySem.W.instObj C dx)
 ns:h.Ns1 dx mA
 ne:dx≠x
theorem a9f {h:Heap} {dx:Addr} {mA:Str→Option Value} (n:h.Ns1 dx mA):∃ od,h.get? dx=some od∧∀ name,PySem.W.lookIn name od=some (mA name):=by
 obtain ⟨o,es,ep,ho,hd,hk,_,hm⟩:=n
 refine ⟨o,ho,fun name=>?_⟩
 have e:=hm name
 unfold nsFind findBy at e
 rw [← Array.find?_toList] at e
 unfold PySem.W.lookIn
 rw [hd]
 dsimp only
 split
 ·rename_i y q
  rw [q] at e
  exact congrArg some e
 ·rename_i q
  rw [q] at e
  have a:es.toList.any (·.refKey)=false:=by
   rw [List.any_eq_false]
   intro y hy
   obtain ⟨z,t,hkey⟩:=hk y (Array.mem_toList_iff.mp hy)
   simp [DictEntry.refKey,hkey]
  have a':¬ es.toList.any (·.refKey)=true:=by rw [a]; exact Bool.false_ne_true
  rw [if_neg a']
  exact congrArg some e
theorem b8q.look {h:Heap} {x dx C:Addr} {mA:Str→Option Value} (I:b8q h x dx C mA):∃ od,PySem.W.InstAt h x (PySem.W.instObj C dx) C (some od)∧∀ name,PySem.W.lookIn name od=some (mA name) :=
 let ⟨od,ho,hl⟩:=a9f I.ns
 ⟨od,⟨I.obj,rfl,rfl,ho⟩,hl⟩
section
variable {prog:Program} {w:World} {A:Around} {E:Value→Shared→Prop} {s:Shared} {K:PySem.W.Frag} {x dx C f:Addr} {mA:Str→Option Value} {name:Str} {v:Value}
end
section
variable {P:Program} {w:World} {H H':Hp} {h h':Heap} {a C dx:Addr} {fs fs':List (Str × V)}
theorem b4x (hok:HOk P w H h) (e:H a=some (.ins C dx fs)):∃ mA,b8q h a dx C mA∧(∀ f,b8p (fs.lookup f) (mA f))∧PySem.Within mA (fs.map (·.1))∧fs.length≤1000∧H dx=some (.own a):=by
 obtain ⟨d,z,ne,ob,mA,n,r,q⟩:=(show B2 P w H h a (.ins C dx fs) from hok a _ e)
 exact ⟨mA,⟨ob,n,ne⟩,r,q,z,d⟩
end
structure Cls (K:PySem.W.Frag) (C:Addr):Prop where
 pg:PySem.W.plainGet K C Str.empty=true
 hd:PySem.W.hasDictIn K C=true
 po:PySem.W.plainOver K C=true
 sa:PySem.W.findIn K (.ref C) "__setattr__" = some (some (.builtin "object.__setattr__"))
theorem Cls.get {K:PySem.W.Frag} {C:Addr} (c:Cls K C) (f:Str):PySem.W.plainGet K C f=true:=c.pg
section
variable {X:Cx} {pins:List (Addr × Obj)} {σ:St} {H:Hp} {s:Shared} {a C dx:Addr} {fs:List (Str × V)} {f:Str} {v:V} {A:Around} {E:Value→Shared→Prop}
end
section
variable {X:Cx} {o e value:Expr} {f:Str} {pos pos' tpos:Pos} {ta tv:TE}
end
section
variable {X:Cx} {pins:List (Addr × Obj)} {σ:St} {H:Hp} {s:Shared} {A:Around} {E:Value→Shared→Prop} {Q:Value→Shared→Prop} {c:Value} {b:Bool}
inductive a0Y (K:PySem.W.Frag) (H:Hp):V→Value→Prop where
 | non:a0Y K H .non (.type "NoneType")
 | bl (x:Bool):a0Y K H (.bl x) (.type "bool")
 | int (i:Int):a0Y K H (.int i) (.type "int")
 | str (x:Str):a0Y K H (.str x) (.type "str")
 | flt (x:UInt64):a0Y K H (.flt x) (.type "float")
 | lst {a:Addr} {xs:List V} (e:H a=some (.lst xs)):a0Y K H (.ref a) (.type "list")
 | frz {a:Addr} {o:Obj} {xs:List V} (e:H a=some (.frz o (.lst xs))):a0Y K H (.ref a) (.type "list")
 | tup {a:Addr} {xs:List V} (e:H a=some (.tup xs)):a0Y K H (.ref a) (.type "tuple")
 | dK {a:Addr} {kvs:List (Key × V)} (e:H a=some (.dK kvs)):a0Y K H (.ref a) (.type "dict")
 | dT {a:Addr} {kvs:List (List Key × V)} (e:H a=some (.dT kvs)):a0Y K H (.ref a) (.type "dict")
 | ins {a C dx:Addr} {fs:List (Str × V)} (e:H a=some (.ins C dx fs)) (cl:Cls K C) (ha:PySem.W.findIn K (.ref C) "__class__" = some (some (.builtin "object.__class__")))
   (hn:PySem.W.specialIn K (.builtin "object.__class__") "__get__" = some (some (.builtin "getset_descriptor.__get__"))) (htk:PySem.W.takesIn K (.builtin "object.__class__")=some true)
   (hm:PySem.W.mroIn K C (.type "object")=some true):a0Y K H (.ref a) (.ref C)
theorem K6 {x:V} {u t:Value} (I:Inv X pins σ H s) (rx:m9 x u) (ty:a0Y X.K H x t) (e:PySem.W.kitOne X.K t c=some b) (h:∀ tk,Q (.bool b) { s with toks:=tk }) :
  wpAny (model X.prog X.w) A (call (.builtin "isinstance") [u,c]) Q E s:=by
 cases ty with
 | non=>cases (show u=Value.none from rx); exact PySem.W.kia_one PySem.W.kitx_none I.kIn True.intro e (fun z=>nomatch z) h
 | bl y=>cases (show u=Value.bool y from rx); exact PySem.W.kia_one PySem.W.kitx_bool I.kIn True.intro e (fun z=>nomatch z) h
 | int i=>obtain ⟨t,q⟩:=(show ∃ t,u=Value.int i t from rx); cases q; exact PySem.W.kia_one PySem.W.kitx_int I.kIn True.intro e (fun z=>nomatch z) h
 | str y=>obtain ⟨t,q⟩:=(show ∃ t,u=Value.str y t from rx); cases q; exact PySem.W.kia_one PySem.W.kitx_str I.kIn True.intro e (fun z=>nomatch z) h
 | flt y=>obtain ⟨t,q⟩:=(show ∃ t,u=Value.float y t from rx); cases q; exact PySem.W.kia_one PySem.W.kitx_float I.kIn True.intro e (fun z=>nomatch z) h
 | @lst a xs ea =>
  cases (show u=Value.ref a from rx)
  obtain ⟨_,_,n,_,h1⟩:=(show B2 X.prog X.w H s.heap a (.lst xs) from I.hok a _ ea)
  exact PySem.W.kia_one PySem.W.kitx_list I.kIn ⟨_,h1,rfl⟩ e (fun z=>nomatch z) h
 | @frz a ob xs ea =>
  cases (show u=Value.ref a from rx)
  obtain ⟨_,_,_,n,_,h1⟩:=(show B2 X.prog X.w H s.heap a (.frz ob (.lst xs)) from I.hok a _ ea)
  exact PySem.W.kia_one PySem.W.kitx_list I.kIn ⟨_,h1,rfl⟩ e (fun z=>nomatch z) h
 | @tup a xs ea =>
  cases (show u=Value.ref a from rx)
  obtain ⟨_,_,_,p⟩:=(show B2 X.prog X.w H s.heap a (.tup xs) from I.hok a _ ea)
  obtain ⟨o,h1,h2,_⟩:=p
  exact PySem.W.kia_one PySem.W.kitx_tuple I.kIn ⟨o,h1,h2⟩ e (fun z=>nomatch z) h
 | @dK a kvs ea =>
  cases (show u=Value.ref a from rx)
  obtain ⟨_,_,vs,_,p⟩:=(show B2 X.prog X.w H s.heap a (.dK kvs) from I.hok a _ ea)
  obtain ⟨o,es,ep,h1,h2,_⟩:=p
  exact PySem.W.kia_one PySem.W.kitx_dict I.kIn ⟨o,h1,h2.1⟩ e (fun z=>nomatch z) h
 | @dT a kvs ea =>
  cases (show u=Value.ref a from rx)
  obtain ⟨_,_,xs,_,o,es,ep,h1,h2,_⟩:=(show B2 X.prog X.w H s.heap a (.dT kvs) from I.hok a _ ea)
  exact PySem.W.kia_one PySem.W.kitx_dict I.kIn ⟨o,h1,h2.1⟩ e (fun z=>nomatch z) h
 | @ins a C dx fs ea cl ha hn htk hm =>
  cases (show u=Value.ref a from rx)
  obtain ⟨mA,O,_⟩:=b4x I.hok ea
  obtain ⟨od,J,_⟩:=O.look
  exact PySem.W.kia_one (PySem.W.kitx_own (cl.get _) cl.hd ha hn htk hm) I.kIn J e (fun z=>nomatch z) h
end
end L2
namespace L2
open PySem PySem.Spec PyProof.Rows
structure D6 (k:Nat) (A:Around):Prop where
 hd:A.handled=none
 dp:A.depth+3*k+5<recursionLimit
 un:A.units+16*k+200<cLine
theorem D6.mono {j k:Nat} {A:Around} (r:D6 k A) (h:j≤k):D6 j A:=⟨r.hd,by have:=r.dp; omega,by have:=r.un; omega⟩
theorem D6.deeper {k:Nat} {A:Around} (r:D6 (k+1) A) (env:Env):D6 k (A.deeper env) :=
 ⟨r.hd,by have:=r.dp; show A.depth+1+3*k+5<_; omega,by have:=r.un; show A.units+3+16*k+200<_; omega⟩
theorem D6.in1 {k:Nat} {A:Around} (r:D6 (k+1) A):D6 k A.in1 :=
 ⟨r.hd,by have:=r.dp; show A.depth+3*k+5<_; omega,by have:=r.un; show A.units+1+16*k+200<_; omega⟩
theorem D6.depth {k:Nat} {A:Around} (r:D6 k A):A.depth<recursionLimit:=by have:=r.dp; omega
theorem D6.units {k:Nat} {A:Around} (r:D6 k A):A.units+64<cLine:=by have:=r.un; omega
def c0o:TA:=fun _ H Q=>Q [] H
def b86 (ta:TE) (tr:TA):TA:=fun σ H Q=>ta σ H fun x H1=>tr σ H1 fun xs H2=>Q (x :: xs) H2
section
variable {X:Cx} {e:Expr} {es:List Expr} {te:TE} {t:TA} {pos:Pos}
theorem a6U:PA X [] c0o:=fun _ _ _ _ H Q I h=>Calls.spliced_nil ⟨[],H,I,.nil,h⟩
theorem a4c (ha:PE X e te) (hr:PA X es t) (hs:starEach (e :: es) X.env=(false,eval e X.env) :: starEach es X.env:=by rfl):PA X (e :: es) (b86 te t):=by
 intro pos pins s σ H Q I h
 rw [hs]
 show wpAny _ _ (spliced ((false,eval e X.env) :: backTo pos (starEach es X.env))) _ _ s
 refine Calls.spliced_cons (thn (ha pins s σ H _ I h) fun u s1 zz=>?_)
 obtain ⟨x,H1,I1,r1,q1⟩:=zz
 exact thn (hr pos pins s1 σ H1 _ I1 q1) fun us s2 ⟨xs,H2,I2,r2,q2⟩=>⟨x :: xs,H2,I2,.cons r1 r2,q2⟩
def c0i (t:TA):TE:=fun σ H Q=>t σ H fun xs H1=>xs.length≤sizeLine∧∀ p,H1 p=none→Q (.ref p) (upd H1 p (.tup xs))
def c0p (t:TA):TE:=fun σ H Q=>t σ H fun xs H1=>xs.length≤sizeLine∧∀ p,H1 p=none→Q (.ref p) (upd H1 p (.lst xs))
theorem b6X {x1} (h:PA X es t):PE X (.Tuple es x1 pos) (c0i t):=by
 intro pins s σ H Q I hq
 refine wpAny_Tuple_spliced (thn (h pos pins s σ H _ I hq) fun us s1 ⟨xs,H1,I1,r,z,q⟩=>⟨by rw [← r.length]; exact z,?_⟩)
 have hf:H1 s1.heap.objs.size=none:=I1.hok.fresh (Nat.le_refl _)
 refine ⟨.ref s1.heap.objs.size,upd H1 s1.heap.objs.size (.tup xs),I1.laid (t':=s1.toks) (fun b u e=>Heap.get?_push_of_some _ e) (Nat.le_refl _) ?_,rfl,q _ hf⟩
 exact ⟨z,us,r,⟨_,Heap.get?_push_size _ rfl,rfl,_,rfl⟩⟩
theorem b0Y (h:PA X es t):PE X (.List es pos) (c0p t):=by
 intro pins s σ H Q I hq
 refine wpAny_List_spliced (thn (h pos pins s σ H _ I hq) fun us s1 ⟨xs,H1,I1,r,z,q⟩=>⟨by rw [← r.length]; exact z,?_⟩)
 have hf:H1 s1.heap.objs.size=none:=I1.hok.fresh (Nat.le_refl _)
 refine ⟨.ref s1.heap.objs.size,upd H1 s1.heap.objs.size (.lst xs),I1.laid (t':=s1.toks) (fun b u e=>Heap.get?_push_of_some _ e) (Nat.le_refl _) ?_,rfl,q _ hf⟩
 exact ⟨z,us,0,r,Heap.get?_push_size _ rfl⟩
end
abbrev Sp:=List V→Hp→VK→XK→Prop
abbrev CXT:=List Env→Hp→Shared→XK→Value→Shared→Prop
structure a7q (P:Program) (w:World) (K:PySem.W.Frag) (mg:Str→Option Value) (base:Heap) (A:Around) (outer:List Env) (s:Shared) (H:Hp):Prop where
 frames:A.frames=some outer
 mod:Mod K mg base
 bs:∀ b o,base.get? b=some o→s.heap.get? b=some o∧H b=none
 bsz:base.objs.size≤s.heap.objs.size
 funs:s.heap.FunFrames base outer
 frf:∀ b∈frs outer,H b=none
 hok:HOk P w H s.heap
 bare:AllBare s.gens
def CE (outer:List Env) (P:Program) (w:World) (H:Hp) (s:Shared) (Q:VK) (u:Value) (s':Shared):Prop :=
 ∃ v H',s'.os=s.os∧AllBare s'.gens∧Un (frs outer) [] H H' s.heap s'.heap∧HOk P w H' s'.heap∧m9 v u∧Q v H'
def CR (CX:CXT) (outer:List Env) (P:Program) (w:World) (H:Hp) (s:Shared) (Q:VK) (E:XK) (r:Result) (s':Shared):Prop :=
 match r with
 | .ok (.ret u)=>CE outer P w H s Q u s'
 | .ok _=>False
 | .error e=>CX outer H s E e s'
structure O6 (P:Program) (w:World) (K:PySem.W.Frag) (mg:Str→Option Value) (base:Heap) (CX:CXT) (k:Nat) (f:Addr) (fd:FuncData) (ps:List Str) (sp:Sp):Prop where
 len:∀ vs H Q E,sp vs H Q E→vs.length=ps.length
 run:∀ (A:Around) (outer:List Env) (s:Shared) (H:Hp) (args:Args) (us:List Value) (vs:List V) (Q:VK) (E:XK),D6 k A→a7q P w K mg base A outer s H→BindsTo s fd args (ps.zip us)→j9 vs us→sp vs H Q E →
  codeAny (model P w) A (.call (.ref f) args) (CR CX outer P w H s Q E) s
theorem O6.mono {P:Program} {w:World} {K:PySem.W.Frag} {mg:Str→Option Value} {base:Heap} {CX:CXT} {j k:Nat} {f:Addr} {fd:FuncData} {ps:List Str} {sp:Sp} (F:O6 P w K mg base CX j f fd ps sp) (h:j≤k) :
  O6 P w K mg base CX k f fd ps sp:=⟨F.len,fun A outer s H args us vs Q E hr=>F.run A outer s H args us vs Q E (hr.mono h)⟩
theorem O6.imp {P:Program} {w:World} {K:PySem.W.Frag} {mg:Str→Option Value} {base:Heap} {CX:CXT} {k:Nat} {f:Addr} {fd:FuncData} {ps:List Str} {sp sp':Sp} (F:O6 P w K mg base CX k f fd ps sp)
  (h:∀ vs H Q E,sp' vs H Q E→sp vs H Q E):O6 P w K mg base CX k f fd ps sp' :=
 ⟨fun vs H Q E q=>F.len vs H Q E (h _ _ _ _ q),fun A outer s H args us vs Q E hr he hb hv hs=>F.run A outer s H args us vs Q E hr he hb hv (h _ _ _ _ hs)⟩
theorem a7q.in1 {P:Program} {w:World} {K:PySem.W.Frag} {mg:Str→Option Value} {base:Heap} {A:Around} {outer:List Env} {s:Shared} {H:Hp} (e:a7q P w K mg base A outer s H) :
  a7q P w K mg base A.in1 outer s H:=⟨e.frames,e.mod,e.bs,e.bsz,e.funs,e.frf,e.hok,e.bare⟩
section
variable {X:Cx} {pins:List (Addr × Obj)} {σ:St} {H:Hp} {s s':Shared}
theorem Inv.env0 (I:Inv X pins σ H s):a7q X.prog X.w X.K X.mg X.base X.A X.stack s H :=
 ⟨I.ok.frames,I.ok.mod,I.bs,Nat.le_trans I.ok.bsz I.sz,I.stack,I.stkFree,I.hok,I.bare⟩
theorem Inv.after {Q:VK} {u:Value} (I:Inv X pins σ H s) (h:CE X.stack X.prog X.w H s Q u s'):EP X pins σ Q u s':=by
 obtain ⟨v,H',os,bare,un,hok,r,q⟩:=h
 obtain ⟨hh,g,d,t,os'⟩:=s'
 obtain rfl:os'=s.os:=os
 exact ⟨v,H',I.call (h':=hh) (g':=g) (d':=d) (t':=t) (ch:=[]) un hok bare (fun b z=>absurd z (by simp)),r,q⟩
end
def b87 (sp:Sp) (dvs:List V) (E:XK) (t:TA):TE:=fun σ H Q=>t σ H fun vs H1=>sp (vs++dvs) H1 Q E
def a2g (K:PySem.W.Frag) (fd:FuncData) (ps:List Str) (ds:List Value):Prop :=
 ∀ (s:Shared) (us:List Value),K.In s.heap→(us++ds).length=ps.length→BindsTo s fd ⟨us,[]⟩ (ps.zip (us++ds))
theorem a2g.all {K:PySem.W.Frag} {fd:FuncData} {ps:List Str} (h:∀ us:List Value,us.length=ps.length→bindArgs fd ⟨us,[]⟩=pure (ps.zip us)):a2g K fd ps []:=fun s us _ hl=>by
 rw [List.append_nil] at hl ⊢
 exact .of_eq (h us hl)
def a4J (CX:CXT) (X:Cx) (E:XK):Prop:=∀ (pins:List (Addr × Obj)) (σ:St) (H:Hp) (s:Shared) (e:Value) (s':Shared),Inv X pins σ H s→CX X.stack H s E e s'→X.xe e s'
section
variable {X:Cx} {CX:CXT} {k:Nat} {f C:Addr} {fd:FuncData} {ps:List Str} {sp:Sp} {dvs:List V} {ds:List Value} {E:XK} {x m:Str} {p pos apos:Pos} {e o:Expr} {es:List Expr} {ta:TE} {t:TA}
theorem b6D {pins:List (Addr × Obj)} {σ:St} {H:Hp} {s:Shared} {Q:VK} {us:List Value} {vs:List V} (F:O6 X.prog X.w X.K X.mg X.base CX k f fd ps sp) (hr:D6 k X.A) (hb:a2g X.K fd ps ds) (hd:j9 dvs ds) (hx:a4J CX X E)
  (I:Inv X pins σ H s) (r:j9 vs us) (h:sp (vs++dvs) H Q E):wpAny (model X.prog X.w) X.A (call (.ref f) us) (EP X pins σ Q) X.xe s:=by
 have r2:j9 (vs++dvs) (us++ds):=r.append hd
 have hl:(us++ds).length=ps.length:=by rw [← r2.length]; exact F.len _ _ _ _ h
 refine wpAny_call (codeAny_mono (F.run X.A X.stack s H ⟨us,[]⟩ (us++ds) (vs++dvs) Q E hr I.env0 (hb s us I.kIn hl) r2 h) fun r s' hq=>?_)
 cases r with
 | error e=>exact hx pins σ H s e s' I hq
 | ok fl =>
  cases fl with
  | ret u=>exact I.after hq
  | next=>exact False.elim hq
  | brk=>exact False.elim hq
  | cont=>exact False.elim hq
theorem b3W (F:O6 X.prog X.w X.K X.mg X.base CX k f fd ps sp) (hr:D6 k X.A) (hg:Gl X x) (hm:X.mg x=some (.ref f)) (hk:PySem.W.keepIn X.K (.ref f)=true) (hb:a2g X.K fd ps ds) (hd:j9 dvs ds) (hx:a4J CX X E)
  (ha:PA X (e :: es) t) (hdb:(x == ("__debug__" : Str))=false:=by decide) (he:starEach (e :: es) X.env=(false,eval e X.env) :: starEach es X.env:=by rfl) (hpl:(backTo pos (starEach es X.env)).any (·.1)=false:=by rfl) :
  PE X (.Call (.Name x p) (e :: es) [] pos) (b87 sp dvs E t):=by
 intro pins s σ H Q I h
 refine wpAny_Call_Name_kw (a8j I hg hm ?_ hdb)
 refine PySem.W.callWith_K (h₀:=X.base) I.ok.mod.kin hk (thn (ha pos pins s σ H _ I h) fun us s1 ⟨vs,H1,I1,r,q⟩=>⟨I1.kIn,?_⟩) he hpl
 exact b6D F hr hb hd hx I1 r q
end
section
variable {X:Cx} {CX:CXT} {k:Nat} {f C:Addr} {fd:FuncData} {ps ks:List Str} {sp:Sp} {E:XK} {x m:Str} {p pos apos kpos:Pos} {e o:Expr} {es:List Expr} {kws:List Keyword} {te ta:TE} {t tk:TA} {nm:Option Str}
variable {g:List Value→List Value→List Value} {gV:List V→List V→List V}
end
structure f6 (N P:List Str) (sc:Scope):Prop where
 kind:sc.kind = .function
 co:sc.isCoroutine=false
 gen:sc.isGenerator=false
 nd:N.Nodup
 pre:N.take P.length=P
 par:∀ x∈P,sc.names.lookup x=some .local∨sc.names.lookup x=some .cell
 nofree:∀ y∈sc.names,y.2 ≠ .free
theorem a3x {kindOf:Str→Option NameKind} {x:Str}:∀ {binds:List (Str × Value)} {m:Str→Option Value},(∀ v,(x,v)∉binds)→bindL kindOf binds m x=m x
 | [],_,_=>rfl
 | (n,v) :: r,m,h=>by
  unfold bindL
  rw [a3x fun w hw=>h w (List.mem_cons_of_mem _ hw)]
  split
  ·have:x≠n:=by rintro rfl; exact h v List.mem_cons_self
   simp [this]
  ·rfl
theorem a3z {kindOf:Str→Option NameKind} {x:Str}:∀ {binds:List (Str × Value)} {m:Str→Option Value},(∀ v,(x,v)∉binds)→bindC kindOf binds m x=m x
 | [],_,_=>rfl
 | (n,v) :: r,m,h=>by
  unfold bindC
  rw [a3z fun w hw=>h w (List.mem_cons_of_mem _ hw)]
  split
  ·rfl
  ·have:x≠n:=by rintro rfl; exact h v List.mem_cons_self
   simp [this]
theorem a3y {kindOf:Str→Option NameKind} {x:Str} {v:Value}:∀ {P:List Str} {vs:List Value} {i:Nat} {m:Str→Option Value},P.Nodup→P[i]? = some x→vs[i]? = some v→kindOf x=some .local →
  bindL kindOf (P.zip vs) m x=some v
 | [],_,_,_,_,h,_,_=>by simp at h
 | _ :: _,[],_,_,_,_,h,_=>by simp at h
 | p :: P,w :: vs,0,m,nd,h1,h2,hk=>by
  simp at h1 h2; subst h1; subst h2
  show bindL kindOf ((p,w) :: P.zip vs) m p=_
  unfold bindL
  rw [a3x fun v hv=>(List.nodup_cons.mp nd).1 (List.of_mem_zip hv).1,if_pos hk]
  simp
 | p :: P,w :: vs,i+1,m,nd,h1,h2,hk=>by
  show bindL kindOf ((p,w) :: P.zip vs) m x=_
  unfold bindL
  exact a3y (i:=i) (List.nodup_cons.mp nd).2 (by simpa using h1) (by simpa using h2) hk
theorem a3A {kindOf:Str→Option NameKind} {x:Str} {v:Value}:∀ {P:List Str} {vs:List Value} {i:Nat} {m:Str→Option Value},P.Nodup→P[i]? = some x→vs[i]? = some v→kindOf x≠some .local →
  bindC kindOf (P.zip vs) m x=some v
 | [],_,_,_,_,h,_,_=>by simp at h
 | _ :: _,[],_,_,_,_,h,_=>by simp at h
 | p :: P,w :: vs,0,m,nd,h1,h2,hk=>by
  simp at h1 h2; subst h1; subst h2
  show bindC kindOf ((p,w) :: P.zip vs) m p=_
  unfold bindC
  rw [a3z fun v hv=>(List.nodup_cons.mp nd).1 (List.of_mem_zip hv).1,if_neg hk]
  simp
 | p :: P,w :: vs,i+1,m,nd,h1,h2,hk=>by
  show bindC kindOf ((p,w) :: P.zip vs) m x=_
  unfold bindC
  exact a3A (i:=i) (List.nodup_cons.mp nd).2 (by simpa using h1) (by simpa using h2) hk
def start (N:List Str) (vs:List V):St:=vs.map some++List.replicate (N.length - vs.length) none
def a7l (CX:CXT) (P:Program) (w:World) (K:PySem.W.Frag) (mg:Str→Option Value) (base:Heap) (N:List Str) (qual:Str) (scope:Scope) (f:Addr) (cd:Value) (A:Around) (outer:List Env) (s:Shared) (H:Hp) (E:XK):Cx where
 prog:=P
 w:=w
 K:=K
 mg:=mg
 base:=base
 A:=A.deeper (envOfC qual scope s.heap.objs.size f cd)
 N:=N
 s₀:=s
 H₀:=H
 env:=envOfC qual scope s.heap.objs.size f cd
 outer:=outer
 stack:=envOfC qual scope s.heap.objs.size f cd :: outer
 ex:=[]
 calm:=true
 fn:=fun _=>true
 pn:=[]
 xe:=fun e s'=>wpAny (model P w) (A.deeper (envOfC qual scope s.heap.objs.size f cd)) (leaving (envOfC qual scope s.heap.objs.size f cd) e) (fun _ s''=>CX outer H s E e s'') (fun e' s''=>CX outer H s E e' s'') s'
theorem a54 {sc:Scope} {n:Nat} {x:Str} (h:sc.names.lookup x=some .cell):∃ c,(cellsFrom n sc.names []).lookup x=some c:=by
 have q:=PySem.W.cellsFrom_some sc.names n [] (.inl h)
 exact Option.isSome_iff_exists.mp q
theorem a9i {CX:CXT} {P:Program} {w:World} {K:PySem.W.Frag} {mg:Str→Option Value} {base:Heap} {N ps:List Str} {qual:Str} {scope:Scope} {f:Addr} {cd:Value} {A:Around} {outer:List Env} {s s1:Shared} {H:Hp} {E:XK} {us:List Value} {vs:List V}
  (S:f6 N ps scope) (hd:A.handled=none) (e0:a7q P w K mg base A outer s H) (hl:vs.length=ps.length) (r:j9 vs us)
  (x:InCallC s s.heap.objs.size (bindL (envOfC qual scope s.heap.objs.size f cd).kindOf (ps.zip us) fun _=>none) (cellsFrom (s.heap.objs.size+1) scope.names []) (bindC (envOfC qual scope s.heap.objs.size f cd).kindOf (ps.zip us) fun _=>none) s1) :
  Inv (a7l CX P w K mg base N qual scope f cd A outer s H E) [] (start N vs) H s1:=by
 have hpl:ps.length≤N.length:=by have:=congrArg List.length S.pre; rw [List.length_take] at this; omega
 obtain ⟨h1,tk,rfl,hk⟩:=x.done
 have noA:∀ b:Addr,b∉(a7l CX P w K mg base N qual scope f cd A outer s H E).ex:=fun b z=>absurd (show b∈([]:List Addr) from z) (by simp)
 refine ⟨⟨e0.mod,S.kind,rfl,rfl,Nat.le_refl _,fun y z c h1 h2=>?_,fun y hy=>?_,fun y c _ h=>?_,fun _=>hd,Around.frames_deeper e0.frames,.inr ⟨rfl,rfl⟩,fun b z=>absurd z (noA b),e0.bs,e0.bsz,fun b _ _=>noA b,fun b z=>absurd z (noA b),e0.funs,e0.frf⟩,
  rfl,e0.bare,Un.kept hk,⟨_,x.toInCall.ns,fun i y v h1 h2 h3=>?_⟩,fun y c h=>⟨_,x.cell y c h⟩,e0.hok.fresh (Nat.le_refl _),fun y c h=>?_,fun p hp=>absurd (show p∈([]:List (Addr × Obj)) from hp) (by simp),e0.hok.kept hk,?_⟩
 ·exact name_of_addr x.apart (PySem.mem_of_lookup h1) (PySem.mem_of_lookup h2)
 ·have hy:scope.names.lookup y=some .cell∨scope.names.lookup y=some .free:=hy
  rcases hy with hy | hy
  ·exact a54 hy
  ·exact absurd rfl (S.nofree _ (PySem.mem_of_lookup hy))
 ·exact Nat.le_of_lt (x.above y c (PySem.mem_of_lookup h))
 ·have hi:i<vs.length:=by
   unfold start at h2
   by_cases hi:i<vs.length
   ·exact hi
   ·rw [List.getElem?_append_right (by simpa using hi)] at h2
    rw [List.getElem?_replicate] at h2
    split at h2 <;> cases h2
  have ha:vs[i]? = some v:=by
   unfold start at h2
   rw [List.getElem?_append_left (by simpa using hi),List.getElem?_map] at h2
   cases e:vs[i]? with
   | none=>rw [e] at h2; cases h2
   | some a=>rw [e] at h2; cases h2; rfl
  obtain ⟨u,hu,rv⟩:=r.get ha
  have hp:ps[i]? = some y:=by
   rw [← S.pre,List.getElem?_take_of_lt (by omega)]; exact h1
  have ndP:ps.Nodup:=by rw [← S.pre]; exact S.nd.sublist (List.take_sublist _ _)
  refine ⟨u,rv,?_⟩
  rcases S.par y (List.mem_of_getElem? hp) with k | k
  ·exact .inl ⟨k,a3y ndP hp hu k⟩
  ·obtain ⟨c,e⟩:=a54 (n:=s.heap.objs.size+1) k
   refine .inr ⟨.inl k,c,e,?_⟩
   have q:=x.cell y c e
   rw [a3A ndP hp hu (by show scope.names.lookup y≠_; rw [k]; decide)] at q
   exact q
 ·exact e0.hok.fresh (Nat.le_of_lt (x.above y c (PySem.mem_of_lookup h)))
 ·unfold start
  show _=N.length
  rw [List.length_append,List.length_map,List.length_replicate]
  omega
theorem b9I {CX:CXT} {P:Program} {w:World} {K:PySem.W.Frag} {mg:Str→Option Value} {base:Heap} {k:Nat} {f:Addr} {name qual:Str} {params:Arguments} {body:List Stmt} {scope:Scope} {dV kV doc pm cdv ct oc:Value} {an od:Option Addr}
  {osl:Array (Option Value)} {N ps:List Str} {sp:Sp} (lk:K.lookup f=some ⟨oc,od,.func (PySem.W.fnOf name qual params body scope dV kV doc pm an cdv ct),osl⟩) (hcd:PySem.W.codeIn K cdv qual=true) (S:f6 N ps scope)
  (len:∀ vs H Q E,sp vs H Q E→vs.length=ps.length)
  (hbody:∀ (A:Around) (outer:List Env) (s:Shared) (H:Hp) (vs:List V) (Q:VK) (E:XK),D6 k (A.deeper (envOfC qual scope s.heap.objs.size f cdv))→sp vs H Q E →
   ∃ t,PSs (a7l CX P w K mg base N qual scope f cdv A outer s H E) body t∧t { nx:=fun _ H'=>Q .non H',rt:=Q } (start N vs) H) :
  O6 P w K mg base CX (k+1) f (PySem.W.fnOf name qual params body scope dV kV doc pm an cdv ct) ps sp:=by
 refine ⟨len,fun A outer s H args us vs Q E hr e0 hb r hsp=>?_⟩
 have hl:=len _ _ _ _ hsp
 have KX:K.In s.heap:=e0.mod.kin.keeps fun b o e=>(e0.bs b o e).1
 have lim:s.heap.NoLimit:=e0.mod.nolimit.keeps fun b o e=>(e0.bs b o e).1
 have hkind:∀ y∈ps.zip us,scope.names.lookup y.1=some .local∨(scope.names.lookup y.1=some .cell∧((cellsFrom (s.heap.objs.size+1) scope.names []).lookup y.1).isSome=true):=fun ⟨n,v⟩ hy=>by
  rcases S.par n (List.of_mem_zip hy).1 with q | q
  ·exact .inl q
  ·exact .inr ⟨q,PySem.W.cellsFrom_some _ _ _ (.inl q)⟩
 refine codeAny_call_function hr.depth (KX _ _ lk) rfl S.co S.gen rfl (PySem.W.codeRec_of KX hcd) (hb _ _ _ _ ?_)
 refine wpAny_newFunctionEnv_cells S.kind hkind fun env he s1 x=>?_
 subst he
 refine ⟨lim.keeps x.toInCall.keep,codeAny_func ?_⟩
 obtain ⟨t,ht,hq⟩:=hbody A outer s H vs Q E (hr.deeper _) hsp
 have I:Inv (a7l CX P w K mg base N qual scope f cdv A outer s H E) [] (start N vs) H s1:=a9i S hr.hd e0 hl r x
 refine wpAny_mono (ht [] s1 (start N vs) H _ I hq) (fun fl s' hs=>?_) fun e s' hs=>hs
 have fin:∀ {σ':St} {H':Hp} {v:V} {u:Value},Inv (a7l CX P w K mg base N qual scope f cdv A outer s H E) [] σ' H' s'→m9 v u→Q v H'→CE outer P w H s Q u s' :=
  fun {σ' H' v u} J rv q=>⟨v,H',J.os,J.bare,J.base,J.hok,rv,q⟩
 cases fl with
 | ret u =>
  obtain ⟨v,σ',H',J,rv,q⟩:=hs
  exact fin J rv q
 | next =>
  obtain ⟨σ',H',J,q⟩:=hs
  exact fin (v:=V.non) (u:=Value.none) J rfl q
 | brk =>
  obtain ⟨_,_,_,q⟩:=hs
  exact False.elim q
 | cont =>
  obtain ⟨_,_,_,q⟩:=hs
  exact False.elim q
end L2
namespace L2
open PySem PySem.Spec PyProof.Rows
section
variable {X:Cx} {x:Str} {p pos:Pos} {e:Expr} {es:List Expr} {t:TA} {id T:String} {r:List V→Hp→VK→Prop}
def tCB (r:List V→Hp→VK→Prop) (t:TA):TE:=fun σ H Q=>t σ H fun vs H1=>r vs H1 Q
theorem b00 (hc:A7 X (.builtin id) r) (hg:Gl X x) (hm:X.mg x=none) (hv:bootBuiltins x=some (.builtin id)) (ha:PA X (e :: es) t) (hn:x ≠ "__name__" := by decide) (hdb:(x == ("__debug__" : Str))=false:=by decide)
  (he:starEach (e :: es) X.env=(false,eval e X.env) :: starEach es X.env:=by rfl) (hpl:(backTo pos (starEach es X.env)).any (·.1)=false:=by rfl):PE X (.Call (.Name x p) (e :: es) [] pos) (tCB r t):=by
 intro pins s σ H Q I h
 refine wpAny_Call_Name_kw (K0 I hg hm hv ?_ hn hdb)
 exact PyProof.Rows.callWith_builtin1 (thn (ha pos pins s σ H _ I h) fun us s1 ⟨vs,H1,I1,r1,q1⟩=>hc pins s1 σ H1 vs us Q I1 r1 q1) he hpl
theorem S2 (hc:A7 X (.type T) r) (hg:Gl X x) (hm:X.mg x=none) (hv:bootBuiltins x=some (.type T)) (ha:PA X (e :: es) t) (hn:x ≠ "__name__" := by decide) (hdb:(x == ("__debug__" : Str))=false:=by decide)
  (he:starEach (e :: es) X.env=(false,eval e X.env) :: starEach es X.env:=by rfl) (hpl:(backTo pos (starEach es X.env)).any (·.1)=false:=by rfl):PE X (.Call (.Name x p) (e :: es) [] pos) (tCB r t):=by
 intro pins s σ H Q I h
 refine wpAny_Call_Name_kw (K0 I hg hm hv ?_ hn hdb)
 exact PyProof.Rows.callWith_type1 (thn (ha pos pins s σ H _ I h) fun us s1 ⟨vs,H1,I1,r1,q1⟩=>hc pins s1 σ H1 vs us Q I1 r1 q1) he hpl
end
end L2
namespace HT
open PySem PyProof.Rows
def A3:List Int→List Int→Bool
 | [],[]=>false
 | [],_ :: _=>true
 | _ :: _,[]=>false
 | x :: xs,y :: ys=>if x=y then A3 xs ys else decide (x<y)
theorem W6 (x y:Int) (xs ys:List Int):A3 (x :: xs) (y :: ys)=if x=y then A3 xs ys else decide (x<y):=rfl
theorem U3:A3 [] []=false:=rfl
theorem a1V (y:Int) (ys:List Int):A3 [] (y :: ys)=true:=rfl
theorem a1W (x:Int) (xs:List Int):A3 (x :: xs) []=false:=rfl
theorem b1D (A:Around) (s:Shared) (a:Int) (t:Tok) (c:Int) (u:Tok):∃ e,SeqAt.EqAt A s (.int a t) (.int c u) e∧(e=true↔a=c) :=
 ⟨(a == c),SeqAt.EqAt.int_int a t c u,by simp⟩
theorem b0N (A:Around) (s:Shared) (a:Int) (t:Tok) (c:Int) (u:Tok) (prog:Program) (w:World) (E:Value→Shared→Prop) (Q:Value→Shared→Prop) (h:Q (.bool (decide (a<c))) s) :
  wpAny (model prog w) A (richCompare .Lt (.int a t) (.int c u)) Q E s :=
 (PyProof.Rows.lt_int h:wpAny (model prog w) A (compareOp .Lt (.int a t) (.int c u)) Q E s)
section
open PySem.SeqAt
open PySem.AutoSeq1 (wpAny_loadPart')
open PySem.MeetsSeq PySem.MeetsSeq2 PySem.MeetsSeq3
theorem a2h (l b:Addr) (items items2:Array Value) (n n2:Nat) (dd dd2:Option Addr) (sl sl2:Array (Option Value)) (ns ms:List Int) (hi:IntsAre items.toList ns) (hj:IntsAre items2.toList ms) :
  Meets (Builtin.«tuple.__lt__» ⟨[.ref l,.ref b],[]⟩)
   (fun _ R s=>s.heap.get? l=some { cls:=.type "tuple",dict:=dd,data:=.seq items n,slots:=sl }∧s.heap.get? b=some { cls:=.type "tuple",dict:=dd2,data:=.seq items2 n2,slots:=sl2 } ∧
    R (.ok (.ret (.bool (A3 ns ms)))) s) :=
 .of_wp fun prog w A R s h=>by
  obtain ⟨hp,g,d,tk,os⟩:=s; obtain ⟨hl,hb,h⟩:=h
  have f2:=AutoSeq1.sub_tuple_tuple
  have z1:items.size=ns.length:=by rw [← hi.length]; simp
  have z2:items2.size=ms.length:=by rw [← hj.length]; simp
  wp_walk using wpAny_loadPart' hl,wpAny_loadPart' hb,wpAny_forIn_list _ (fun u5 b s'=>b.1=none∧s' = ⟨hp,g,d,tk,os⟩∧∃ (vs ws:List Value) (ns' ms':List Int),u5=vs.zip ws ∧
   IntsAre vs ns'∧IntsAre ws ms'∧ns'.length+items2.size=ms'.length+items.size∧R (.ok (.ret (.bool (A3 ns' ms')))) ⟨hp,g,d,tk,os⟩) _
  case turn =>
   rintro ⟨y,x⟩ u5 b s' ⟨hb',rfl,vs,ws,ns',ms',hz,hvi,hwi,hlen,hR⟩
   cases hvi with
   | nil=>rw [List.zip_nil_left] at hz; cases hz
   | cons a t hvi' =>
    cases hwi with
    | nil=>rw [List.zip_nil_right] at hz; cases hz
    | cons c u hwi' =>
     rw [List.zip_cons_cons] at hz
     injection hz with hyx hrest
     injection hyx with hy hx
     subst hy hx
     rw [W6] at hR
     simp only [List.length_cons] at hlen
     obtain ⟨e,he,hiff⟩:=b1D A.in1 ⟨hp,g,d,tk,os⟩ a t c u
     refine wpAny_bind (he prog w _ _ ?_)
     cases e with
     | true =>
      rw [if_pos (hiff.mp rfl)] at hR
      wp_walk
      exact ⟨rfl,rfl,_,_,_,_,hrest,hvi',hwi',by omega,hR⟩
     | false =>
      rw [if_neg (fun q=>absurd (hiff.mpr q) Bool.false_ne_true)] at hR
      have hri:=b0N A.in1 ⟨hp,g,d,tk,os⟩ a t c u prog w
      wp_walk using hri
      exact ⟨_,rfl,by simpa using hR⟩
  case fin =>
   rintro ⟨b1,b2⟩ s' ⟨hb',rfl,vs,ws,ns',ms',hz,hvi,hwi,hlen,hR⟩
   simp only at hb'
   subst hb'
   have hv:A3 ns' ms'=decide (items.size<items2.size):=by
    cases hvi with
    | nil =>
     cases hwi with
     | nil =>
      simp only [List.length_nil] at hlen
      rw [U3]
      exact (decide_eq_false (by omega)).symm
     | cons c u hw =>
      simp only [List.length_nil,List.length_cons] at hlen
      rw [a1V]
      exact (decide_eq_true (by omega)).symm
    | cons a t hv =>
     cases hwi with
     | nil =>
      simp only [List.length_nil,List.length_cons] at hlen
      rw [a1W]
      exact (decide_eq_false (by omega)).symm
     | cons c u hw =>
      rw [List.zip_cons_cons] at hz
      cases hz
   rw [hv] at hR
   wp_walk
   exact ⟨_,rfl,by simpa [Builtin.Tuple.tupleCompareSizes] using hR⟩
  case h =>
   exact ⟨rfl,rfl,items.toList,items2.toList,ns,ms,rfl,hi,hj,by omega,h⟩
end
section
variable {prog:Program} {w:World} {A:Around} {E:Value→Shared→Prop} {s:Shared}
theorem a65 {l b:Addr} {items items2:Array Value} {ns ms:List Int} {Q:Value→Shared→Prop} (hl:IsTup s.heap l items) (hb:IsTup s.heap b items2) (hi:IntsAre items.toList ns) (hj:IntsAre items2.toList ms)
  (hu:A.units<cLine) (h:Q (.bool (A3 ns ms)) s):wpAny (model prog w) A (compareOp .Lt (.ref l) (.ref b)) Q E s:=by
 obtain ⟨⟨cls,dd,data,sl⟩,ho,hc,n,hd⟩:=id hl
 obtain ⟨⟨cls2,dd2,data2,sl2⟩,ho2,hc2,n2,hd2⟩:=id hb
 simp only at hc hd hc2 hd2
 subst hc hd hc2 hd2
 exact richCompare_meets_room (op:=.Lt) ⟨_,ho,rfl⟩ ⟨_,ho2,rfl⟩ PySem.F.slot_tuple_lt PySem.F.entry_tuple_lt (PySem.F.args_tuple_lt_2 _ _) (a2h l b items items2 n n2 dd dd2 sl sl2 ns ms hi hj)
  ⟨ho,ho2,show Value.bool (A3 ns ms)≠Value.notImplemented∧Q (.bool (A3 ns ms)) s from ⟨(fun x=>nomatch x),h⟩⟩ hu
end
end HT
namespace L2
open PySem PySem.Spec PyProof.Rows
abbrev TO:=St→Hp→(Option Int→Hp→Prop)→Prop
theorem a10 {ns:List Int}:∀ {us:List Value},j9 (ns.map V.int) us→IntsAre us ns:=by
 induction ns with
 | nil=>intro us r; rw [List.map_nil] at r; cases r; exact .nil
 | cons n ns ih =>
  intro us r
  rw [List.map_cons] at r
  cases r with
  | cons r1 r2 =>
   obtain ⟨t,e⟩:=r1
   subst e
   exact .cons n t (ih r2)
section
variable {X:Cx} {e:Expr} {te:TE} {lo hi:Option Expr} {tl th:TO} {pos p2:Pos}
end
end L2
namespace L2
open PySem PySem.Spec PyProof.Rows
def ixN (n:Nat) (i:Int):Option Nat:=if 0≤i then (if i<n then some i.toNat else none) else if -(n:Int)≤i then some (i+n).toNat else none
def atI {α:Type} (xs:List α) (i:Int):Option α:=(ixN xs.length i).bind fun j=>xs[j]?
theorem a8q {n:Nat} {i:Int} {j:Nat} (h:ixN n i=some j):seqIndex? i n=some j∧j<n∧-(n:Int)≤i∧i<n:=by
 unfold ixN at h
 by_cases h0:0≤i
 ·rw [if_pos h0] at h
  by_cases h1:i<n
  ·rw [if_pos h1] at h
   have e:i.toNat=j:=Option.some.inj h
   exact ⟨by rw [seqIndex_of h0 h1,e],by omega,by omega,h1⟩
  ·rw [if_neg h1] at h; cases h
 ·rw [if_neg h0] at h
  by_cases h1:-(n:Int)≤i
  ·rw [if_pos h1] at h
   have e:(i+n).toNat=j:=Option.some.inj h
   exact ⟨by rw [seqIndex_neg (by omega) h1,e],by omega,h1,by omega⟩
  ·rw [if_neg h1] at h; cases h
theorem a8G {α:Type} {xs:List α} {i:Int} {v:α} (h:atI xs i=some v):∃ j,seqIndex? i xs.length=some j∧xs[j]? = some v∧j<xs.length∧-(xs.length:Int)≤i∧i<xs.length:=by
 unfold atI at h
 cases e:ixN xs.length i with
 | none=>rw [e] at h; cases h
 | some j =>
  rw [e] at h
  obtain ⟨h1,h2,h3,h4⟩:=a8q e
  exact ⟨j,h1,h,h2,h3,h4⟩
def a07 (b:Expr):Prop:=∀ o i,subscripted b false o i=operate [o,i] (getItem o i)
def IxR (X:Cx) (r:R2):Prop :=
 ∀ (value slice:Expr) (pins:List (Addr × Obj)) (s:Shared) (σ:St) (H:Hp) (x y:V) (v u:Value) (Q:VK),Inv X pins σ H s→m9 x v→m9 y u→r x y H Q →
  subscripted slice false v u=operate [v,u] (getItem v u)→wpAny (model X.prog X.w) X.A (subscriptTail value slice v u) (EP X pins σ Q) X.xe s
def MtR (X:Cx) (id:String) (r:V→List V→Hp→VK→Prop):Prop :=
 ∀ (pins:List (Addr × Obj)) (s:Shared) (σ:St) (H:Hp) (x:V) (xs:List V) (v:Value) (us:List Value) (Q:VK),Inv X pins σ H s→m9 x v→j9 xs us→r x xs H Q →
  wpAny (model X.prog X.w) X.A (call (.builtin id) (v :: us)) (EP X pins σ Q) X.xe s
section
variable {X:Cx} {a b:Expr} {ta tb:TE} {pos:Pos}
theorem IxR.or {r r':R2} (h:IxR X r) (h':IxR X r'):IxR X (fun x y H Q=>r x y H Q∨r' x y H Q):=by
 intro value slice pins s σ H x y v u Q I rx ry q hs
 rcases q with q | q
 ·exact h value slice pins s σ H x y v u Q I rx ry q hs
 ·exact h' value slice pins s σ H x y v u Q I rx ry q hs
theorem MtR.or {id:String} {r r':V→List V→Hp→VK→Prop} (h:MtR X id r) (h':MtR X id r'):MtR X id (fun x xs H Q=>r x xs H Q∨r' x xs H Q):=by
 intro pins s σ H x xs v us Q I rx rs q
 rcases q with q | q
 ·exact h pins s σ H x xs v us Q I rx rs q
 ·exact h' pins s σ H x xs v us Q I rx rs q
theorem b9k {r:R2} (hr:IxR X r) (ha:PE X a ta) (hb:PE X b tb) (hs:a07 b):PE X (.Subscript a b pos) (tOp r ta tb):=by
 intro pins s σ H Q I h
 exact Subscript_ (b8j ha hb I h fun v u s2 x y H2 I2 rx ry q=>hr a b pins s2 σ H2 x y v u Q I2 rx ry q (hs _ _))
def c0w (K:PySem.W.Frag):R2:=fun x y H Q=>∃ p xs i v,x = .ref p∧y = .int i∧SqL K H p xs∧atI xs i=some v∧Q v H
def c0v (K:PySem.W.Frag):R2:=fun x y H Q=>∃ p xs i v,x = .ref p∧y = .int i∧SqT K H p xs∧atI xs i=some v∧Q v H
theorem b4w:IxR X (c0w X.K):=by
 intro value slice pins s σ H x y v u Q I rx ry h hs
 obtain ⟨p,xs,i,z,rfl,rfl,hq,he,q⟩:=h
 cases rx
 obtain ⟨t,rfl⟩:=ry
 obtain ⟨its,r,pl,hz⟩:=I.list hq
 obtain ⟨j,h1,h2,h3,h4,h5⟩:=a8G he
 obtain ⟨w,ew,rw'⟩:=r.get h2
 have hl:=r.length
 have hn:=a4o
 have fin:EP X pins σ Q w s:=⟨z,H,I,rw',q⟩
 by_cases h0:0≤i
 ·have hj:i.toNat=j:=by
   rw [seqIndex_of h0 h5] at h1
   exact Option.some.inj h1
  exact item_listR pl.isList h0 (by omega) (by rw [hj]; simpa using ew) fin hs
 ·have hj:(i+(its.toArray.size:Int)).toNat=j:=by
   rw [seqIndex_neg (by omega) h4] at h1
   rw [List.size_toArray,← hl]
   exact Option.some.inj h1
  exact subscriptTail_builtinR (x:=w) pl.isList.typeIs slot_list_getitem.lookup
   (wpAny_getItem_list_neg (Q:=fun r s'=>r=w∧EP X pins σ Q r s') pl.isList (by omega) (by rw [List.size_toArray] <;> omega) (by omega) (by rw [hj]; simpa using ew) ⟨rfl,fin⟩) hs
theorem b7r:IxR X (c0v X.K):=by
 intro value slice pins s σ H x y v u Q I rx ry h hs
 obtain ⟨p,xs,i,z,rfl,rfl,hq,he,q⟩:=h
 cases rx
 obtain ⟨t,rfl⟩:=ry
 obtain ⟨its,r,pl,hz⟩:=I.tuple hq
 obtain ⟨j,h1,h2,h3,h4,h5⟩:=a8G he
 obtain ⟨w,ew,rw'⟩:=r.get h2
 have hl:=r.length
 have hn:=a4o
 have fin:EP X pins σ Q w s:=⟨z,H,I,rw',q⟩
 exact subscriptTail_builtinR (x:=w) pl.typeIs slot_tuple_getitem.lookup
  (getItem_tuple (j:=j) (Q:=fun r s'=>r=w∧EP X pins σ Q r s') pl (by omega) (by omega) (by rw [List.size_toArray,← hl]; exact h1) (by simpa using ew) ⟨rfl,fin⟩) hs
theorem a64 (its:List Value) (n j:Nat) (u:Value):Obj.mapSeq (·.setIfInBounds j u) { cls:=.type "list",data:=.seq its.toArray n } = { cls:=.type "list",data:=.seq (its.set j u).toArray n }:=by
 simp [Obj.mapSeq]
theorem Inv.lst {pins:List (Addr × Obj)} {σ:St} {H:Hp} {s:Shared} {p:Addr} {xs:List V} (I:Inv X pins σ H s) (h:H p=some (.lst xs)) :
  ∃ (its:List Value) (n:Nat),j9 xs its∧s.heap.get? p=some { cls:=.type "list",data:=.seq its.toArray n }∧xs.length≤sizeLine:=by
 obtain ⟨z,its,n,r,e⟩:=I.hok p _ h
 exact ⟨its,n,r,e,z⟩
theorem Inv.lstUpd {pins:List (Addr × Obj)} {σ:St} {H:Hp} {s:Shared} {p:Addr} {xs ys:List V} {its its':List Value} {n n':Nat} {f:Obj→Obj} (I:Inv X pins σ H s) (h:H p=some (.lst xs))
  (ho:s.heap.get? p=some { cls:=.type "list",data:=.seq its.toArray n }) (hf:f { cls:=.type "list",data:=.seq its.toArray n } = { cls:=.type "list",data:=.seq its'.toArray n' }) (r:j9 ys its') (hz:ys.length≤sizeLine) (t:Nat) :
  Inv X pins σ (upd H p (.lst ys)) { s with heap:=s.heap.update p f,toks:=t }:=by
 have e:(s.heap.update p f).get? p=some { cls:=.type "list",data:=.seq its'.toArray n' }:=by
  rw [Heap.get?_update_self f ho (by rw [hf] <;> rfl),hf]
 refine I.write (x:=p) (e:=p) (by rw [h]; trivial) (.inl rfl) (fun b u hb q=>(Heap.get?_update_other _ _ (Ne.symm hb)).trans q) ⟨_,e⟩ ?_
 exact ⟨hz,its',n',r,e⟩
def b9e:V→V→V→Hp→(Hp→Prop)→Prop:=fun o i v H Q=>∃ p xs k j,o = .ref p∧i = .int k∧H p=some (.lst xs)∧ixN xs.length k=some j∧Q (upd H p (.lst (xs.set j v)))
theorem b0z:c0a X b9e:=by
 intro pins s σ H o i v ov iv u Q I ro ri rv h
 obtain ⟨p,xs,k,j,rfl,rfl,hp,hj,q⟩:=h
 cases ro
 obtain ⟨t,rfl⟩:=ri
 obtain ⟨its,n,r,ho,hz⟩:=I.lst hp
 obtain ⟨h1,h2,h3,h4⟩:=a8q hj
 have hl:=r.length
 have hn:=a4o
 have I':Inv X pins σ (upd H p (.lst (xs.set j v))) { s with heap:=s.heap.update p (Obj.mapSeq (·.setIfInBounds j u)) } :=
  I.lstUpd hp ho (a64 its n j u) (r.set rv j) (by rw [List.length_set]; exact hz) s.toks
 by_cases h0:0≤k
 ·have hk:k.toNat=j:=by
   rw [seqIndex_of h0 h4] at h1
   exact Option.some.inj h1
  exact PySem.W.ki_setAt ho h0 (by omega) (by rw [List.size_toArray,← hl]; exact h4) (by rw [hk]; exact ⟨_,I',q⟩)
 ·have hk:(k+(its.toArray.size:Int)).toNat=j:=by
   rw [seqIndex_neg (by omega) h3] at h1
   rw [List.size_toArray,← hl]
   exact Option.some.inj h1
  exact PySem.W.ki_setBack ho (by omega) (by rw [List.size_toArray,← hl]; exact h3) (by omega) (by rw [hk]; exact ⟨_,I',q⟩)
theorem a4C:A7 X (.builtin "len") (fun xs H Q=>∃ p ys,xs=[.ref p]∧(SqL X.K H p ys∨SqT X.K H p ys)∧Q (.int ys.length) H):=by
 intro pins s σ H xs us Q I r h
 obtain ⟨p,ys,rfl,hq,q⟩:=h
 obtain ⟨u,rfl,rx⟩:=Y1 r
 cases rx
 have hn:=a4o
 rcases hq with hq | hq
 ·obtain ⟨its,r',pl,hz⟩:=I.list hq
  have hlen:=r'.length
  exact Calls.call_len_list pl.isList (by simp only [List.size_toArray] <;> omega) ⟨.int ys.length,H,I.tok _,⟨s.toks+1,by rw [List.size_toArray,hlen]⟩,q⟩
 ·obtain ⟨its,r',pl,hz⟩:=I.tuple hq
  have hlen:=r'.length
  exact len_tuple pl (by simp only [List.size_toArray] <;> omega) ⟨.int ys.length,H,I.tok _,⟨s.toks+1,by rw [List.size_toArray,hlen]⟩,q⟩
theorem A7.or {f:Value} {r r':List V→Hp→VK→Prop} (h:A7 X f r) (h':A7 X f r'):A7 X f (fun xs H Q=>r xs H Q∨r' xs H Q):=by
 intro pins s σ H xs us Q I rs q
 rcases q with q | q
 ·exact h pins s σ H xs us Q I rs q
 ·exact h' pins s σ H xs us Q I rs q
theorem a0a:A7 X (.type "list") (fun xs H Q=>∃ p ys,xs=[.ref p]∧(SqL X.K H p ys∨SqT X.K H p ys)∧∀ l,H l=none→Q (.ref l) (upd H l (.lst ys))):=by
 intro pins s σ H xs us Q I r h
 obtain ⟨p,ys,rfl,hq,q⟩:=h
 obtain ⟨u,rfl,rx⟩:=Y1 r
 cases rx
 have fin:∀ (its:List Value),j9 ys its→ys.length≤sizeLine→∀ (h':Heap) (c':Nat),(∀ b o',s.heap.get? b=some o'→h'.get? b=some o') →
   h'.get? s.heap.objs.size=some { cls:=.type "list",dict:=none,data:=.seq its.toArray c',slots:=#[] }→EP X pins σ Q (.ref s.heap.objs.size) { s with heap:=h' }:=fun its r' hz h' c' kp e =>
  ⟨.ref s.heap.objs.size,_,I.laid (t':=s.toks) kp (Nat.le_refl _) (show B2 X.prog X.w _ h' _ (.lst ys) from ⟨hz,its,c',r',e⟩),rfl,q _ (I.hok.fresh (Nat.le_refl _))⟩
 rcases hq with hq | hq
 ·obtain ⟨its,r',pl,hz⟩:=I.list hq
  have hlen:=r'.length
  obtain ⟨o,ho,hc,n,hd⟩:=pl.isList
  exact call_list_seq p (.inl rfl) ho hc hd (fun h' c' kp e=>fin its r' hz h' c' kp e) (by simp only [List.size_toArray] <;> omega)
 ·obtain ⟨its,r',pl,hz⟩:=I.tuple hq
  have hlen:=r'.length
  obtain ⟨o,ho,hc,n,hd⟩:=pl
  exact call_list_seq p (.inr rfl) ho hc hd (fun h' c' kp e=>fin its r' hz h' c' kp e) (by simp only [List.size_toArray] <;> omega)
theorem a2H:A7 X (.type "tuple") (fun xs H Q=>∃ p ys,xs=[.ref p]∧((SqL X.K H p ys∧∀ l,H l=none→Q (.ref l) (upd H l (.tup ys)))∨(SqT X.K H p ys∧Q (.ref p) H))):=by
 intro pins s σ H xs us Q I r h
 obtain ⟨p,ys,rfl,h⟩:=h
 obtain ⟨u,rfl,rx⟩:=Y1 r
 cases rx
 rcases h with ⟨hq,q⟩ | ⟨hq,q⟩
 ·obtain ⟨its,r',pl,hz⟩:=I.list hq
  have hlen:=r'.length
  refine call_tuple_list pl.isList (fun h' kp=>?_) (by simp only [List.size_toArray] <;> omega)
  have I1:Inv X pins σ H { s with heap:=h' }:=I.kept (t':=s.toks) kp
  have I2:Inv X pins σ (upd H h'.objs.size (.tup ys)) { s with heap:=h'.push { cls:=.type "tuple",data:=.seq its.toArray } } :=
   I1.laid (t':=s.toks) (fun b o e=>Heap.get?_push_of_some _ e) (Nat.le_refl _) (show B2 X.prog X.w _ _ _ (.tup ys) from ⟨hz,its,r',IsTup.new _ _⟩)
  exact ⟨.ref h'.objs.size,_,I2,rfl,q _ (I1.hok.fresh (Nat.le_refl _))⟩
 ·obtain ⟨its,r',pl,hz⟩:=I.tuple hq
  exact call_tuple_same pl ⟨.ref p,H,I,rfl,q⟩
def tyV (K:PySem.W.Frag) (T:String) (x:V) (H:Hp):Prop:=match x with
 | .str _=>T = "str"
 | .int _=>T = "int"
 | .ref p=>(T = "list" ∧ ∃ xs,SqL K H p xs)∨(T = "tuple" ∧ ∃ o,K.lookup p=some o∧o.cls = .type "tuple" ∧ o.dict=none) ∨
   (T = "dict" ∧ ((∃ kvs,H p=some (.dK kvs)) ∨ ∃ kvs,H p=some (.dT kvs)))∨(T = "set" ∧ ∃ S n,H p=some (.set S n))
 | _=>False
theorem b0p {pins:List (Addr × Obj)} {σ:St} {H:Hp} {s:Shared} {T:String} {x:V} {v:Value} (I:Inv X pins σ H s) (r:m9 x v) (ty:tyV X.K T x H) :
  s.TypeIs v T∧∀ a,v = .ref a→∃ ob,s.heap.get? a=some ob∧ob.dict=none:=by
 cases x with
 | str z =>
  obtain ⟨t,rfl⟩:=r
  cases (show T = "str" from ty)
  exact ⟨typeIs_str s z t,fun _ e=>nomatch e⟩
 | int i =>
  obtain ⟨t,rfl⟩:=r
  cases (show T = "int" from ty)
  exact ⟨typeIs_int s i t,fun _ e=>nomatch e⟩
 | ref p =>
  cases r
  rcases ty with ⟨rfl,xs,hq⟩ | ⟨rfl,o,hk,hc,hd⟩ | ⟨rfl,hk⟩ | ⟨rfl,S,n,hk⟩
  ·obtain ⟨its,_,pl,_⟩:=I.list hq
   refine ⟨pl.isList.typeIs,fun a e=>?_⟩
   cases e
   obtain ⟨o,n,e,c,hd,_⟩:=pl
   exact ⟨o,e,hd⟩
  ·refine ⟨⟨o,I.kIn p o hk,hc⟩,fun a e=>?_⟩
   cases e
   exact ⟨o,I.kIn _ o hk,hd⟩
  ·have z:∃ o,s.heap.get? p=some o∧o.ExactDict:=by
    rcases hk with ⟨kvs,hk⟩ | ⟨kvs,hk⟩
    ·obtain ⟨_,_,_,_,o,_,_,e,ex,_⟩:=I.hok p _ hk
     exact ⟨o,e,ex⟩
    ·obtain ⟨_,_,_,_,o,_,_,e,ex,_⟩:=I.hok p _ hk
     exact ⟨o,e,ex⟩
   obtain ⟨o,e,ex⟩:=z
   refine ⟨⟨o,e,ex.1⟩,fun a e2=>?_⟩
   cases e2
   exact ⟨o,e,ex.2.1⟩
  ·obtain ⟨o,_,_,_,e,ex,_⟩:=I.hok p _ hk
   refine ⟨⟨o,e,ex.1⟩,fun a e2=>?_⟩
   cases e2
   exact ⟨o,e,ex.2.1⟩
 | _=>exact False.elim ty
def c0s (K:PySem.W.Frag) (T:String) (r:V→List V→Hp→VK→Prop) (to:TE):TE:=fun σ H Q=>to σ H fun x H1=>tyV K T x H1∧r x [] H1 Q
def tBM (K:PySem.W.Frag) (T:String) (r:V→List V→Hp→VK→Prop) (to:TE) (t:TA):TE:=fun σ H Q=>to σ H fun x H1=>tyV K T x H1∧t σ H1 fun xs H2=>r x xs H2 Q
variable {o e:Expr} {es:List Expr} {to:TE} {t:TA} {name:Str} {apos cpos:Pos} {T id:String} {r:V→List V→Hp→VK→Prop}
theorem b63 (pa:PlainAttrs T) (slot:Slot T name id) (hty:typeOf (.builtin id)=pure (.type "method_descriptor")) (hm:MtR X id r) (ho:PE X o to)
  (hbase:attributeBase o name X.env (eval o X.env)=eval o X.env:=by rfl) (hline:(apos.endLine == cpos.line)=true:=by rfl):PE X (.Call (.Attribute o name apos) [] [] cpos) (c0s X.K T r to):=by
 intro pins s σ H Q I h
 refine wpAny_Call_method0_late hbase hline (thn (ho pins s σ H _ I h) fun v s1 zz=>?_)
 obtain ⟨x,H1,I1,r1,ty,q1⟩:=zz
 obtain ⟨h1,h2⟩:=b0p I1 r1 ty
 exact ⟨T,id,pa,slot,hty,h1,h2,Calls.callWith_builtin rfl (PySem.evalArgs_none (hm pins s1 σ H1 x [] v [] Q I1 r1 .nil q1))⟩
theorem b9l (pa:PlainAttrs T) (slot:Slot T name id) (hty:typeOf (.builtin id)=pure (.type "method_descriptor")) (hm:MtR X id r) (ho:PE X o to) (ha:PA X (e :: es) t)
  (hbase:attributeBase o name X.env (eval o X.env)=eval o X.env:=by rfl)
  (hfew:((backTo cpos (starEach (e :: es) X.env)).all (fun x=>!x.1) && (backToKw cpos (keywordEach [] X.env)).all (fun x=>x.1.isSome)
   && decide ((e :: es).length+([]:List Keyword).length+(if ([]:List Keyword).isEmpty then 0 else 1)<30))=true:=by rfl)
  (hline:(apos.endLine == cpos.line)=true:=by rfl) (hs:starEach (e :: es) X.env=(false,eval e X.env) :: starEach es X.env:=by rfl) (hplain:(backTo cpos (starEach es X.env)).any (·.1)=false:=by rfl) :
  PE X (.Call (.Attribute o name apos) (e :: es) [] cpos) (tBM X.K T r to t):=by
 intro pins s σ H Q I h
 refine wpAny_Call_method_late hbase hfew hline rfl (thn (ho pins s σ H _ I h) fun v s1 zz=>?_)
 obtain ⟨x,H1,I1,r1,ty,q1⟩:=zz
 obtain ⟨h1,h2⟩:=b0p I1 r1 ty
 refine ⟨T,id,pa,slot,hty,h1,h2,?_⟩
 have hA:=ha cpos pins s1 σ H1 _ I1 q1
 rw [hs] at hA ⊢
 refine Calls.callWith_builtin (by show (false || (backTo cpos (starEach es X.env)).any (·.1))=false; rw [hplain] <;> rfl) (Calls.evalArgs_plain ?_)
 exact thn hA fun us s2 ⟨vs,H2,I2,r2,q2⟩=>hm pins s2 σ H2 x vs v us Q I2 r1 r2 q2
end
end L2
namespace L2
open PySem PySem.Spec PyProof.Rows
def MtM (X:Cx) (id:String) (r:V→List V→Hp→VK→Prop):Prop :=
 ∀ (pins:List (Addr × Obj)) (s:Shared) (σ:St) (H:Hp) (x:V) (xs:List V) (v:Value) (us:List Value) (Q:VK),Inv X pins σ H s→m9 x v→j9 xs us→r x xs H Q →
  wpAny (model X.prog X.w) X.A (call (.builtin id) (v :: us)) (EP X pins σ Q) X.xe s
theorem j9.one {x:V} {us:List Value} (h:j9 [x] us):∃ u,us=[u]∧m9 x u:=by
 cases h with | cons r t=>cases t; exact ⟨_,rfl,r⟩
theorem j9.two {x y:V} {us:List Value} (h:j9 [x,y] us):∃ u v,us=[u,v]∧m9 x u∧m9 y v:=by
 cases h with | cons r t=>cases t with | cons q t2=>cases t2; exact ⟨_,_,rfl,r,q⟩
theorem j9.zero:∀ {us:List Value},j9 [] us→us=[]
 | _,.nil=>rfl
theorem j9.reverse {xs:List V} {us:List Value} (h:j9 xs us):j9 xs.reverse us.reverse:=by
 induction h with
 | nil=>exact .nil
 | cons r t ih=>rw [List.reverse_cons,List.reverse_cons]; exact j9.append ih (.cons r .nil)
section
variable {X:Cx} {pins:List (Addr × Obj)} {σ:St} {H:Hp} {s:Shared} {l b:Addr} {xs ys zs:List V}
theorem Inv.lset {its its':List Value} {n:Nat} {f:Array Value→Array Value} {t':Nat} (I:Inv X pins σ H s) (hH:H l=some (.lst xs))
  (e:s.heap.get? l=some { cls:=.type "list",data:=.seq its.toArray n }) (hf:f its.toArray=its'.toArray) (hv:j9 ys its') (hz:ys.length≤sizeLine) :
  Inv X pins σ (upd H l (.lst ys)) { s with heap:=s.heap.update l (Obj.mapSeq f),toks:=t' }:=by
 have q:=PySem.IsL.update e f
 rw [hf] at q
 refine I.write (x:=l) (e:=l) (by rw [hH]; exact trivial) (.inl rfl) (fun b' u hb hu=>(Heap.get?_update_other s.heap (Obj.mapSeq f) (Ne.symm hb)).trans hu) ⟨_,q⟩ ?_
 exact ⟨hz,its',_,hv,q⟩
theorem Inv.lnew {its:List Value} {t':Nat} (I:Inv X pins σ H s) (hv:j9 ys its) (hz:ys.length≤sizeLine) :
  Inv X pins σ (upd H s.heap.objs.size (.lst ys)) { s with heap:=s.heap.push { cls:=.type "list",data:=.seq its.toArray },toks:=t' } :=
 I.laid (fun _ _ q=>Heap.get?_push_of_some _ q) (Nat.le_refl _) ⟨hz,its,0,hv,Heap.get?_push_size _ rfl⟩
theorem Inv.fresh (I:Inv X pins σ H s):H s.heap.objs.size=none:=I.hok.fresh (Nat.le_refl _)
theorem Inv.lstM (I:Inv X pins σ H s) (hH:H l=some (.lst xs)):xs.length≤sizeLine∧∃ (its:List Value) (n:Nat),j9 xs its∧xs.length=its.length∧s.heap.get? l=some { cls:=.type "list",data:=.seq its.toArray n }:=by
 obtain ⟨z,its,n,r,e⟩:=I.hok l _ hH
 exact ⟨z,its,n,r,r.length,e⟩
end
section
variable {X:Cx}
def a8a:V→List V→Hp→VK→Prop:=fun x vs H Q=>∃ l xs y,x = .ref l∧vs=[y]∧H l=some (.lst xs)∧xs.length<sizeLine∧Q .non (upd H l (.lst (xs++[y])))
theorem a3p:MtM X "list.append" a8a:=by
 intro pins s σ H x vs v us Q I rx rv h
 obtain ⟨l,xs,y,rfl,rfl,hH,hz,q⟩:=h
 cases rx
 obtain ⟨u,rfl,ru⟩:=rv.one
 obtain ⟨z,its,n,r,hl,e⟩:=I.lstM hH
 refine call_meets F.slot_list_append ⟨_,e,rfl⟩ F.entry_list_append (F.args_list_append_2 _ _) (PySem.list_append l its.toArray n u (by rw [List.size_toArray]; omega)) ⟨e,?_⟩
 refine ⟨.non,_,I.lset (its':=its++[u]) hH e (by simp) (r.append (.cons ru .nil)) ?_,rfl,q⟩
 rw [List.length_append,List.length_singleton]
 omega
end
section
variable {prog:Program} {w:World} {A:Around} {E:Value→Shared→Prop} {s:Shared}
end
section
variable {X:Cx}
end
end L2
namespace Att
open PySem PySem.W PySem.Calls PyProof.Rows
theorem a0W {P:Params} {h:Heap}:∀ (ns:List Int) (vs:List Value),WellAll P h vs (ns.map WData.int)→IntsAre vs ns:=by
 intro ns
 induction ns with
 | nil =>
  intro vs w
  rw [List.map_nil] at w
  cases w
  exact .nil
 | cons n ns ih =>
  intro vs w
  rw [List.map_cons] at w
  cases w with
  | cons a b =>
   cases a
   exact .cons _ _ (ih _ b)
theorem a83 {l:OpenLaw} {n:Nat} (hn:l.most=some n) {P:Params} {h:Heap} {args:List WData} {vals:List Value}
  (hpre:l.row.toRowW.claim.pre args=true) (hwl:WellAll P h vals args) :
  ∃ a vs ns,vals=[Value.ref a]∧args=[WData.list (ns.map WData.int)]∧h.get? a=some { cls:=.type "list",data:=.seq vs.toArray }∧IntsAre vs ns∧ns.length≤n:=by
 have hsh:WShape.hasAll [] args [.list .int]=true:=(pre_splitW hpre).1
 have hc:l.pre.holds [] { args:=args } = true:=(pre_splitW hpre).2
 obtain ⟨d,r,rfl,h1,h2⟩:=hasAllW_cons hsh
 obtain rfl:=hasAllW_nil h2
 obtain ⟨xs,rfl,h3⟩:=hasW_list h1
 obtain ⟨ns,rfl⟩:=items_int h3
 have hlen:ns.length≤n:=by
  unfold OpenLaw.pre at hc
  have h4:(WTm.not (.lt (.lit (.int (n:Int))) (.len (.arg 0)))).holds [] { args:=[.list (ns.map .int)] } = true:=by
   have h4:=(holds_andW hc).1
   rw [hn] at h4
   exact h4
  have h5:=condW_of h4 (w_not (w_lt w_lit (w_len_list (w_arg rfl))))
  rw [List.length_map] at h5
  refine Nat.le_of_not_lt fun q=>?_
  have q':(n:Int)<((ns.length:Nat):Int):=by omega
  first
   | (rw [decide_eq_true q'] at h5; exact absurd h5 (by decide))
   | (simp at h5; omega)
 cases hwl with
 | cons w1 w2 =>
  cases w2
  cases w1 with
  | list ho hall=>exact ⟨_,_,ns,rfl,rfl,ho,a0W ns _ hall,hlen⟩
theorem a88 (l:OpenLaw) (args:List WData):l.row.toRowW.claim.post args (.bool true) args=true :=
 postW_of (r:=l.row.toRowW) (X:=(true == true))
  (show WShape.has [] (.bool true) .bool=true by first | rfl | decide | simp [WShape.has,WShape.arms,WShape.armsAll])
  (show (WTm.eq .res (.lit (.bool true))).value [] { args:=args,res:=some (.bool true),after:=args } = some (.bool (true == true)) from w_eq_bool (w_res rfl) w_lit) rfl
theorem a57 {l:OpenLaw} {n:Nat} {q:Program} {loose:List Str} {XP:(Str→Option Value)→Heap→Prop} {YP:World→Heap→Prop} {d:DefRec}
  (hn:l.most=some n) (hdf:d.params.defaults=[])
  (call:∀ (w:World) (s₀ s₁:Shared) (mg mb:Str→Option Value) (fa:Addr) (o:Obj) (pm cd doc:Value) (a:Addr) (vs:List Value) (ns:List Int),
   Ground q loose [] XP w s₀ mg mb s₁.heap→YP w s₁.heap →
   s₁.heap.get? fa=some o→o.data = .func (docDef d.name d.params d.body d.scope pm cd doc)→s₁.heap.CodeRec cd d.name→mg d.name=some (.ref fa) →
   s₁.heap.get? a=some { cls:=.type "list",data:=.seq vs.toArray }→IntsAre vs ns→ns.length≤n→s₁.gens = #[] →
   codeAny (model l.prog w) callerA (.call (.ref fa) ⟨[.ref a],[]⟩) (fun r s'=>r = .ok (.ret (.bool true))∧OldK s₁.heap s'.heap∧s'.os=s₁.os∧AllBare s'.gens) s₁) :
  WalkO q loose XP YP l.row.toRowW d [] (fun f vs=>PySem.call f vs):=by
 intro w s₀ s₁ mg mb G Y fa o pm cd doc dV kV ho hd hcd hD hmg hg args vals as hpre hlay hrd hwl hlo
 obtain rfl:dV = .none:=Dflts.none hD hdf
 obtain rfl:kV = .none:=Dflts.noKw hD
 obtain ⟨a,vs,ns,rfl,rfl,hobj,hints,hlen⟩:=a83 hn hpre hwl
 refine enter_call (codeAny_mono (call w s₀ s₁ mg mb fa o pm cd doc a vs ns G Y ho (fd_plain hd) hcd hmg hobj hints hlen hg) fun r s' hq=>?_)
 obtain ⟨rfl,h2,h3,h4⟩:=hq
 exact ⟨.inl ⟨.bool true,.bool true,[],rfl,fun _=>rfl,.bool true,a88 l _,fun _=>⟨List.Pairwise.nil,fun _ hm=>(nomatch hm)⟩⟩,h2,h3,h4⟩
section
variable {prog:Program} {w:World} {A:Around} {E:Value→Shared→Prop} {s:Shared} {K:Frag}
end
end Att
namespace L2
open PySem PySem.Spec PyProof.Rows
theorem a3f:∀ {vs:List Value} {ns:List Int},IntsAre vs ns→j9 (ns.map V.int) vs
 | _,_,.nil=>.nil
 | _,_,.cons n t h=>.cons ⟨t,rfl⟩ (a3f h)
def a9x (H:Hp):Prop:=∀ b,H b=none ∨ ∃ o xs,H b=some (.frz o (.lst xs))
theorem b1i {P:Program} {w:World} {K:PySem.W.Frag} {mg mb:Str→Option Value} {CX:CXT} {k:Nat} {fa a:Addr} {fd:FuncData} {x:Str} {sp:Sp} {s₁:Shared} {vs:List Value} {ns:List Int}
  (KX:K.In s₁.heap) (hns:s₁.heap.Ns mainGlobals mg) (hb:s₁.heap.Ns builtinsNs mb) (hbb:∀ x:Str,x ≠ "__name__" → mb x=bootBuiltins x) (hlim:s₁.heap.NoLimit) (hg:s₁.gens = #[])
  (ha:s₁.heap.get? a=some { cls:=.type "list",data:=.seq vs.toArray }) (hi:IntsAre vs ns) (hl:ns.length≤sizeLine) (hr:D6 k callerA)
  (F:∀ base:Heap,K.In base→base.Ns mainGlobals mg→O6 P w K mg base CX k fa fd [x] sp) (hbind:∀ (s:Shared) (u:Value),BindsTo s fd ⟨[u],[]⟩ [(x,u)])
  (hsp:∀ H:Hp,a9x H→SqL K H a (ns.map V.int)→sp [.ref a] H (fun v _=>v = .bl true) fun _ _ _=>False)
  (hCX:∀ H e s',CX [] H s₁ (fun _ _ _=>False) e s'→False) :
  codeAny (model P w) callerA (.call (.ref fa) ⟨[.ref a],[]⟩) (fun r s'=>r = .ok (.ret (.bool true))∧OldK s₁.heap s'.heap∧s'.os=s₁.os∧AllBare s'.gens) s₁:=by
 have rv:=a3f hi
 have lenV:=hi.length
 have core:∀ H:Hp,a9x H→SqL K H a (ns.map V.int)→HOk P w H s₁.heap→(∀ b,H b≠none→b=a)→(H a≠none→K.lookup a=none) →
   codeAny (model P w) callerA (.call (.ref fa) ⟨[.ref a],[]⟩) (fun r s'=>r = .ok (.ret (.bool true))∧OldK s₁.heap s'.heap∧s'.os=s₁.os∧AllBare s'.gens) s₁:=by
  intro H hO hS hok hA hK
  have base_of:∀ {b:Addr} {o:Obj},s₁.heap.get? b=some o→H b=none→(a4s s₁.heap H).get? b=some o:=fun e n=>b1t e n
  have noA:∀ {b:Addr} {o:Obj} {es:Array DictEntry} {ep:Nat},s₁.heap.get? b=some o→o.data = .dict es ep→H b=none:=fun {b o es ep} e d=>by
   cases q:H b with
   | none=>rfl
   | some u =>
    have e':b=a:=hA b (by rw [q]; simp)
    subst e'
    rw [ha] at e; cases e
    have d':Data.seq vs.toArray _=Data.dict es ep:=d
    cases d'
  have nsK:∀ {b:Addr} {m:Str→Option Value},s₁.heap.Ns b m→(a4s s₁.heap H).Ns b m:=fun {b m} ⟨o,es,ep,e,d,r⟩=>⟨o,es,ep,base_of e (noA e d),d,r⟩
  have hKb:K.In (a4s s₁.heap H):=fun b o e=>base_of (KX b o e) (by
   cases q:H b with
   | none=>rfl
   | some u =>
    have e':b=a:=hA b (by rw [q]; simp)
    subst e'
    rw [hK (by rw [q]; simp)] at e; cases e)
  have hM:Mod K mg (a4s s₁.heap H):=⟨hKb,nsK hns,⟨mb,nsK hb,hbb⟩,let ⟨mc,h1,h2⟩:=hlim; ⟨mc,nsK h1,h2⟩⟩
  have e0:a7q P w K mg (a4s s₁.heap H) callerA [] s₁ H:=⟨rfl,hM,fun b o e=>b4l e,Nat.le_of_eq (a9j _ _),trivial,fun b hb=>absurd (show b∈([]:List Addr) from hb) (by simp),hok,.of_eq hg⟩
  refine codeAny_mono ((F _ hKb (nsK hns)).run callerA [] s₁ H ⟨[.ref a],[]⟩ [.ref a] [.ref a] _ _ hr e0 (hbind s₁ (.ref a)) (.cons rfl .nil) (hsp H hO hS)) fun r s' h=>?_
  cases r with
  | error e=>exact (hCX H e s' h).elim
  | ok fl =>
   cases fl with
   | next=>exact False.elim h
   | brk=>exact False.elim h
   | cont=>exact False.elim h
   | ret u =>
    obtain ⟨v,H',os,bare,un,hok',r',q⟩:=h
    have q':v = .bl true:=q
    subst q'
    obtain rfl:u=Value.bool true:=r'
    refine ⟨rfl,OldK.of_keep fun b o e=>?_,os,bare⟩
    cases q:H b with
    | none=>exact un.keep b o e q (by intro z; exact absurd (show b∈([]:List Addr) from z) (by simp)) (by simp)
    | some u =>
     rcases hO b with z | ⟨ob,xs,z⟩
     ·rw [q] at z; cases z
     ·have z2:=un.frzs b ob _ z
      obtain ⟨e1,_⟩:=hok b _ z
      obtain ⟨e2,_⟩:=hok' b _ z2
      rw [e] at e1; cases e1
      exact e2
 cases hk:K.lookup a with
 | some o =>
  have e:=KX a o hk
  rw [ha] at e
  cases e
  refine core (fun _=>none) (fun _=>.inl rfl) (.inr ⟨_,vs.toArray,_,hk,rfl,rfl,rfl,by rw [List.size_toArray,lenV]; exact hl,by simpa using rv⟩) (fun b u z=>by have z':(none:Option HO)=some u:=z; cases z') (fun b z=>absurd rfl z) fun z=>absurd rfl z
 | none =>
  refine core (fun b=>if b=a then some (.frz { cls:=.type "list",data:=.seq vs.toArray } (.lst (ns.map V.int))) else none) (fun b=>?_) (.inl (.inr ⟨{ cls:=.type "list",data:=.seq vs.toArray },if_pos rfl⟩)) (fun b u z=>?_) (fun b z=>?_) fun _=>hk
  ·by_cases hb:b=a
   ·exact .inr ⟨_,_,if_pos hb⟩
   ·exact .inl (if_neg hb)
  ·by_cases hb:b=a
   ·have z':=(if_pos hb).symm.trans z
    cases z'
    subst hb
    exact ⟨ha,by rw [List.length_map]; exact hl,vs,_,rv,ha⟩
   ·have z':=(if_neg hb).symm.trans z
    cases z'
  ·by_cases hb:b=a
   ·exact hb
   ·exact absurd (if_neg hb) z
end L2
namespace L2
open PySem PySem.Spec PyProof.Rows
theorem b3s {l:PySem.W.OpenLaw} {n k:Nat} {q:Program} {loose:List Str} {XP:(Str→Option Value)→Heap→Prop} {YP:World→Heap→Prop} {d:DefRec} {K:Params→PySem.W.Frag} {CX:World→CXT} {sp:World→Sp} {x:Str}
  (hn:l.most=some n) (hn2:n≤sizeLine) (hdf:d.params.defaults=[]) (hr:D6 k callerA)
  (hY:∀ (w:World) (h:Heap),YP w h→(K w.params).In h)
  (F:∀ (w:World) (mg:Str→Option Value) (fa:Addr) (h:Heap),(K w.params).In h→h.Ns mainGlobals mg→mg d.name=some (.ref fa) →
   ∃ fd:FuncData,(∀ (s:Shared) (u:Value),BindsTo s fd ⟨[u],[]⟩ [(x,u)]) ∧
    ∀ base:Heap,(K w.params).In base→base.Ns mainGlobals mg→O6 l.prog w (K w.params) mg base (CX w) k fa fd [x] (sp w))
  (hsp:∀ (w:World) (H:Hp) (a:Addr) (ns:List Int),ns.length≤n→a9x H→SqL (K w.params) H a (ns.map V.int)→sp w [.ref a] H (fun v _=>v = .bl true) fun _ _ _=>False)
  (hCX:∀ (w:World) (H:Hp) (s:Shared) (e:Value) (s':Shared),CX w [] H s (fun _ _ _=>False) e s'→False) :
  PySem.W.WalkO q loose XP YP l.row.toRowW d [] (fun f vs=>PySem.call f vs):=by
 refine Att.a57 hn hdf fun w s₀ s₁ mg mb fa o pm cd doc a vs ns G Y ho hd hcd hmg hobj hints hlen hg=>?_
 have KX:=hY w _ Y
 obtain ⟨fd,hb,hF⟩:=F w mg fa _ KX G.T.g hmg
 exact b1i KX G.T.g G.T.b G.T.builtins G.T.nolimit hg hobj hints (Nat.le_trans hlen hn2) hr hF hb (fun H hO hS=>hsp w H a ns hlen hO hS) fun H e s'=>hCX w H s₁ e s'
theorem b0m {l:PySem.W.OpenLaw} {n k:Nat} {q:Program} {loose:List Str} {XP:(Str→Option Value)→Heap→Prop} {YP:World→Heap→Prop} {d:DefRec} {K:Params→PySem.W.Frag} {CX:CXT} {sp:PySem.W.Frag→Sp} {x:Str}
  (hn:l.most=some n) (hn2:n≤sizeLine) (hdf:d.params.defaults=[]) (hr:D6 k callerA)
  (hY:∀ (w:World) (h:Heap),YP w h→(K w.params).In h)
  (F:∀ (w:World) (mg:Str→Option Value) (fa:Addr) (h:Heap),(K w.params).In h→h.Ns mainGlobals mg→mg d.name=some (.ref fa) →
   ∃ fd:FuncData,(∀ (s:Shared) (u:Value),BindsTo s fd ⟨[u],[]⟩ [(x,u)]) ∧
    ∀ base:Heap,(K w.params).In base→base.Ns mainGlobals mg→O6 l.prog w (K w.params) mg base CX k fa fd [x] (sp (K w.params)))
  (hsp:∀ (K:PySem.W.Frag) (H:Hp) (a:Addr) (ns:List Int),ns.length≤n→a9x H→SqL K H a (ns.map V.int)→sp K [.ref a] H (fun v _=>v = .bl true) fun _ _ _=>False)
  (hCX:∀ (H:Hp) (s:Shared) (e:Value) (s':Shared),CX [] H s (fun _ _ _=>False) e s'→False) :
  PySem.W.WalkO q loose XP YP l.row.toRowW d [] (fun f vs=>PySem.call f vs) :=
 b3s (K:=K) (CX:=fun _=>CX) (sp:=fun w=>sp (K w.params)) hn hn2 hdf hr hY F (fun w H a ns h1 h2 h3=>hsp (K w.params) H a ns h1 h2 h3) fun _ H s e s'=>hCX H s e s'
end L2
namespace L2
open PySem PySem.Spec PyProof.Rows
def N8 (s:Stmt):Arguments:=match s with
 | .FunctionDef _ a _ _ _ _ _ _ _ _=>a
 | _=>{ posonlyargs:=[],args:=[],vararg:=none,kwonlyargs:=[],kw_defaults:=[],kwarg:=none,defaults:=[] }
def F2 (s:Stmt):List Stmt:=match s with
 | .FunctionDef _ _ b _ _ _ _ _ _ _=>b
 | _=>[]
def d9 (s:Stmt):Scope:=match s with
 | .FunctionDef _ _ _ _ _ _ sc _ _ _=>sc
 | _=>{ kind:=.function,names:=[],isGenerator:=false,isCoroutine:=false }
abbrev CX0:CXT:=fun _ _ _ _ _ _=>False
abbrev E0:XK:=fun _ _ _=>False
theorem b9n {X:Cx}:a4J CX0 X E0:=fun _ _ _ _ _ _ _ h=>h.elim
section
variable {P:Program} {w:World} {K:PySem.W.Frag} {mg:Str→Option Value} {base:Heap}
end
section
variable {X:Cx}
theorem pv (i:Nat) {x:Str} {pos:Pos} (hN:X.N[i]? = some x:=by rfl) (hv:Vis X.env.scope x:=by first | exact Or.inl rfl | exact Or.inr (Or.inl rfl) | exact Or.inr (Or.inr rfl)) (hd:(x == ("__debug__" : Str))=false:=by decide)
  (hcd:(x == ("__classdict__" : Str))=false:=by decide):PE X (.Name x pos) (b80 i):=b0X hN hv hd hcd
end
theorem b9x {A B:Prop} (h:B):if false=true then A else B:=by
 rw [if_neg Bool.false_ne_true]
 exact h
theorem c0E {A B:Prop} (h:A):if true=true then A else B:=by
 rw [if_pos rfl]
 exact h
end L2
end
namespace RM
open Rat
def bl (n:Nat):Nat:=n.log2+1
theorem Z0 (n:Nat):n<2 ^ bl n:=Nat.lt_log2_self
theorem R0 {n k:Nat} (h:n<2 ^ k) (hk:0<k):bl n≤k:=by
 unfold bl
 rcases Nat.eq_zero_or_pos n with h0 | h0
 ·subst h0; rw [Nat.log2_zero]; omega
 ·have:=(Nat.log2_lt (Nat.pos_iff_ne_zero.mp h0)).mpr h
  omega
theorem b2j (n:Nat):0<bl n:=Nat.succ_pos _
theorem O3 {m n:Nat} (h:m≤n):bl m≤bl n:=R0 (Nat.lt_of_le_of_lt h (Z0 n)) (b2j n)
theorem O2 (m n:Nat):bl (m*n)≤bl m+bl n:=by
 refine R0 ?_ (Nat.add_pos_left (b2j m) _)
 rw [Nat.pow_add]
 exact Nat.mul_lt_mul'' (Z0 m) (Z0 n)
theorem b8i (m n:Nat):bl (m+n)≤max (bl m) (bl n)+1:=by
 refine R0 ?_ (Nat.succ_pos _)
 have h1:=Z0 m
 have h2:=Z0 n
 have e1:2 ^ bl m≤2 ^ max (bl m) (bl n):=Nat.pow_le_pow_right (by decide) (Nat.le_max_left _ _)
 have e2:2 ^ bl n≤2 ^ max (bl m) (bl n):=Nat.pow_le_pow_right (by decide) (Nat.le_max_right _ _)
 rw [Nat.pow_succ]
 omega
def sz (q:Rat):Nat:=max (bl q.num.natAbs) (bl q.den)
theorem F5 (q:Rat):bl q.num.natAbs≤sz q:=Nat.le_max_left _ _
theorem A8 (q:Rat):bl q.den≤sz q:=Nat.le_max_right _ _
theorem a72 {q:Rat} {n:Nat} (h1:bl q.num.natAbs≤n) (h2:bl q.den≤n):sz q≤n:=Nat.max_le.mpr ⟨h1,h2⟩
theorem b7f (a b:Int):(divInt a b).num.natAbs≤a.natAbs:=by
 rw [num_divInt]
 rcases Int.lt_trichotomy b 0 with h | h | h
 ·rw [Int.sign_eq_neg_one_of_neg h]
  refine Nat.le_trans (Int.natAbs_ediv_le_natAbs _ _) ?_
  simp
 ·subst h; simp
 ·rw [Int.sign_eq_one_of_pos h,Int.one_mul]
  exact Int.natAbs_ediv_le_natAbs _ _
theorem b7L (a b:Int) (hb:b≠0):(divInt a b).den≤b.natAbs:=by
 rw [den_divInt,if_neg hb]
 exact Nat.div_le_self _ _
theorem F3 (a b:Int) (hb:b≠0):sz (divInt a b)≤max (bl a.natAbs) (bl b.natAbs) :=
 a72 (Nat.le_trans (O3 (b7f a b)) (Nat.le_max_left _ _)) (Nat.le_trans (O3 (b7L a b hb)) (Nat.le_max_right _ _))
theorem C9 (q:Rat):(q.den:Int)≠0:=by have:=q.den_nz; omega
theorem b2n (q r:Rat):q+r=divInt (q.num*r.den+r.num*q.den) (q.den*r.den):=by
 conv=>lhs; rw [← num_divInt_den q,← num_divInt_den r]
 rw [divInt_add_divInt _ _ (C9 q) (C9 r)]
theorem b1e (q r:Rat):q*r=divInt (q.num*r.num) (q.den*r.den):=by
 conv=>lhs; rw [← num_divInt_den q,← num_divInt_den r]
 rw [divInt_mul_divInt]
theorem b1J (q r:Rat):q / r=divInt (q.num*r.den) (q.den*r.num):=by
 rw [div_def]
 conv=>lhs; rw [← num_divInt_den q,← num_divInt_den r]
 rw [inv_divInt,divInt_mul_divInt]
theorem a1U (a b:Int):(a+b).natAbs≤a.natAbs+b.natAbs:=Int.natAbs_add_le a b
theorem a3E (q r:Rat):sz (q+r)≤sz q+sz r+1:=by
 rw [b2n]
 have hb:((q.den:Int)*(r.den:Int))≠0:=Int.mul_ne_zero (C9 q) (C9 r)
 refine Nat.le_trans (F3 _ _ hb) (Nat.max_le.mpr ⟨?_,?_⟩)
 ·refine Nat.le_trans (O3 (a1U _ _)) (Nat.le_trans (b8i _ _) ?_)
  rw [Int.natAbs_mul,Int.natAbs_mul]
  have h1:=O2 q.num.natAbs (r.den:Int).natAbs
  have h2:=O2 r.num.natAbs (q.den:Int).natAbs
  have a1:=F5 q
  have a2:=F5 r
  have a3:=A8 q
  have a4:=A8 r
  simp only [Int.natAbs_natCast] at h1 h2 ⊢
  omega
 ·rw [Int.natAbs_mul]
  have h1:=O2 (q.den:Int).natAbs (r.den:Int).natAbs
  have a3:=A8 q
  have a4:=A8 r
  simp only [Int.natAbs_natCast] at h1 ⊢
  omega
theorem D7 (q r:Rat):sz (q*r)≤sz q+sz r:=by
 rw [b1e]
 have hb:((q.den:Int)*(r.den:Int))≠0:=Int.mul_ne_zero (C9 q) (C9 r)
 refine Nat.le_trans (F3 _ _ hb) (Nat.max_le.mpr ⟨?_,?_⟩)
 ·rw [Int.natAbs_mul]
  have h1:=O2 q.num.natAbs r.num.natAbs
  have a1:=F5 q
  have a2:=F5 r
  omega
 ·rw [Int.natAbs_mul]
  have h1:=O2 (q.den:Int).natAbs (r.den:Int).natAbs
  have a3:=A8 q
  have a4:=A8 r
  simp only [Int.natAbs_natCast] at h1 ⊢
  omega
theorem L3 (q:Rat):sz (-q)=sz q:=by
 unfold sz
 rw [Rat.neg_num,Rat.neg_den,Int.natAbs_neg]
theorem U7 (q r:Rat):sz (q - r)≤sz q+sz r+1:=by
 rw [Rat.sub_eq_add_neg]
 have:=a3E q (-r)
 rw [L3] at this
 exact this
theorem U9 (q r:Rat) (hr:r≠0):sz (q / r)≤sz q+sz r:=by
 rw [b1J]
 have hn:r.num≠0:=fun h=>hr (Rat.num_eq_zero.mp h)
 have hb:((q.den:Int)*r.num)≠0:=Int.mul_ne_zero (C9 q) hn
 refine Nat.le_trans (F3 _ _ hb) (Nat.max_le.mpr ⟨?_,?_⟩)
 ·rw [Int.natAbs_mul]
  have h1:=O2 q.num.natAbs (r.den:Int).natAbs
  have a1:=F5 q
  have a4:=A8 r
  simp only [Int.natAbs_natCast] at h1 ⊢
  omega
 ·rw [Int.natAbs_mul]
  have h1:=O2 (q.den:Int).natAbs r.num.natAbs
  have a3:=A8 q
  have a2:=F5 r
  simp only [Int.natAbs_natCast] at h1 ⊢
  omega
theorem E6:sz 0=1:=by decide
theorem U8:sz 1=1:=by decide
theorem b1w (a b:Nat) (h:b≠0):Nat.gcd a b=Nat.gcd b (a % b):=by
 rw [Nat.gcd_comm,Nat.gcd_rec,Nat.gcd_comm]
theorem N7 {a g:Int} (h:g ∣ a):a.fdiv g=a / g:=by
 obtain ⟨c,rfl⟩:=h
 by_cases hg:g=0
 ·subst hg; simp
 ·rw [Int.mul_fdiv_cancel_left _ hg,Int.mul_ediv_cancel_left _ hg]
theorem b7i (a b:Int) (hb:b≠0) (share:Int) (hs:share=if b<0 then -((Nat.gcd a.natAbs b.natAbs:Nat):Int) else ((Nat.gcd a.natAbs b.natAbs:Nat):Int)) :
  a.fdiv share=(divInt a b).num∧b.fdiv share=((divInt a b).den:Int):=by
 have hg:Nat.gcd a.natAbs b.natAbs=Int.gcd b a:=by unfold Int.gcd; exact Nat.gcd_comm _ _
 have da:((Int.gcd b a:Nat):Int) ∣ a:=Int.gcd_dvd_right b a
 have db:((Int.gcd b a:Nat):Int) ∣ b:=Int.gcd_dvd_left b a
 rw [hg] at hs
 rw [num_divInt,den_divInt,if_neg hb]
 by_cases h:b<0
 ·rw [if_pos h] at hs
  subst hs
  rw [N7 (Int.neg_dvd.mpr da),N7 (Int.neg_dvd.mpr db),Int.sign_eq_neg_one_of_neg h]
  refine ⟨?_,?_⟩
  ·rw [Int.ediv_neg,Int.neg_one_mul,Int.neg_ediv_of_dvd da]
  ·rw [Int.ediv_neg,← Int.neg_ediv_of_dvd db]
   have e:-b=((b.natAbs:Nat):Int):=by omega
   rw [e]
   norm_cast
 ·rw [if_neg h] at hs
  subst hs
  have hp:0<b:=by omega
  rw [N7 da,N7 db,Int.sign_eq_one_of_pos hp,Int.one_mul]
  refine ⟨rfl,?_⟩
  have e:b=((b.natAbs:Nat):Int):=by omega
  conv=>lhs; rw [e]
  norm_cast
theorem b9v (q r:Rat):decide (q.num*(r.den:Int)<r.num*(q.den:Int))=decide (q<r):=by
 by_cases h:q<r
 ·rw [decide_eq_true h,decide_eq_true ((Rat.lt_iff q r).mp h)]
 ·rw [decide_eq_false h,decide_eq_false (fun z=>h ((Rat.lt_iff q r).mpr z))]
end RM
namespace L2
open PySem PySem.Spec PyProof.Rows
section
variable {prog:Program} {w:World} {A:Around} {R:Result→Shared→Prop} {s:Shared}
def a71 (ifs:List Expr) (env:Env):Sem Bool:=forIn ifs true fun c r=>if r=true then do let ok ← isTrue c env (eval c env); pure (ForInStep.yield ok) else pure (ForInStep.yield r)
theorem a4A {elt target iter:Expr} {ifs:List Expr} {scope:Scope} {pos:Pos} {it acc:Value} {env:Env} (I:Nat→Shared→Prop)
  (turn:∀ n s,I n s→wpAny (model prog w) A (pyNext it) (fun r s₁=>match r with
   | none=>R (.ok .next) s₁
   | some v=>wpAny (model prog w) A (letOwnedTupleGo target it v) (fun _ s₁'=>wpAny (model prog w) A (assign target env v) (fun _ s₂=>wpAny (model prog w) A (a71 ifs env) (fun ok s₂'=>if ok=true then wpAny (model prog w) A (eval elt env) (fun x s₃ =>
     wpAny (model prog w) A (call (.builtin "list.append") [acc,x]) (fun _ s₄=>∃ m,m<n∧I m s₄) (notedBy (model prog w) A env fun e s'=>R (.error e) s') s₃)
     (notedBy (model prog w) A env fun e s'=>R (.error e) s') s₂' else ∃ m,m<n∧I m s₂') (notedBy (model prog w) A env fun e s'=>R (.error e) s') s₂) (notedBy (model prog w) A env fun e s'=>R (.error e) s') s₁') (notedBy (model prog w) A env fun e s'=>R (.error e) s') s₁) (notedBy (model prog w) A env fun e s'=>R (.error e) s') s)
  (n:Nat) (h:I n s) :
  codeAny (model prog w) A (.compLoop (.ListComp elt [⟨target,iter,ifs,0⟩] scope pos) 0 it acc env) R s:=by
 refine codeAny_loop rfl I (fun n s hI=>?_) n h
 show wpAny _ _ ((compTurn (.ListComp elt [⟨target,iter,ifs,0⟩] scope pos) 0 it acc env).onRaise (fun x=>do noteFrame x env; theTreesLotGoes x)) _ _ s
 refine wpAny_noted ?_
 rw [compTurn_list]
 refine wpAny_bind (wpAny_standAt (wpAny_bind (wpAny_mono (turn n s hI) (fun r s₁ h₁=>?_) fun _ _ h'=>h')))
 cases r with
 | none=>exact wpAny_pure h₁
 | some v =>
  refine wpAny_bind (wpAny_mono h₁ (fun _ s₁' h₁'=>?_) fun _ _ h'=>h')
  refine wpAny_bind (wpAny_mono h₁' (fun _ s₂ h₂=>wpAny_bind (wpAny_mono h₂ (fun ok s₂' h₃=>?_) fun _ _ h'=>h')) fun _ _ h'=>h')
  cases ok with
  | true =>
   refine wpAny_bind (wpAny_bind (wpAny_mono h₃ (fun x s₃ h₄=>wpAny_bind (wpAny_mono h₄ (fun _ s₄ h₅=>wpAny_pure (wpAny_pure ⟨rfl,h₅⟩)) fun _ _ h'=>h')) fun _ _ h'=>h'))
  | false=>exact wpAny_bind (wpAny_pure (wpAny_pure ⟨rfl,h₃⟩))
end
def a0s (X:Cx) (ifs:List Expr) (t:TT):Prop :=
 ∀ (pins:List (Addr × Obj)) (s:Shared) (σ:St) (H:Hp) (Q:Bool→Hp→Prop),Inv X pins σ H s→t σ H Q→wpAny (model X.prog X.w) X.A (a71 ifs X.env) (TP X pins σ Q) X.xe s
def c0h:TT:=fun _ H Q=>Q true H
theorem b0V {X:Cx}:a0s X [] c0h:=fun pins s σ H Q I q=>wpAny_pure ⟨H,I,q⟩
theorem b0U {X:Cx} {c:Expr} {t:TT} (h:PT X c t):a0s X [c] t:=fun pins s σ H Q I q=>wpAny_tests_one (h pins s σ H Q I q)
end L2
namespace L2
open PySem PySem.Spec PyProof.Rows
def Q9 (cells:List (Str × Addr)):List (Str × NameKind)→List (Str × Addr)→List (Str × Addr)
 | [],acc=>acc
 | (n,k) :: r,acc=>if k == .free then Q9 cells r ((n,(cells.lookup n).getD 0) :: acc) else Q9 cells r acc
theorem X2 {env:Env}:∀ (names:List (Str × NameKind)) (acc:List (Str × Addr)),(∀ n,(n,NameKind.free)∈names→∃ c,env.cells.lookup n=some c) →
  (forIn names acc (fun (x:Str × NameKind) (cs:List (Str × Addr))=>if (x.2 == NameKind.free)=true then (do let a ← cellOf env x.1; pure (ForInStep.yield ((x.1,a) :: cs))) else pure (ForInStep.yield cs)):Sem (List (Str × Addr)))=pure (Q9 env.cells names acc)
 | [],acc,_=>rfl
 | (n,k) :: r,acc,h=>by
  rw [List.forIn_cons]
  unfold Q9
  by_cases hk:(k == NameKind.free)=true
  ·have e:k = .free:=by cases k <;> first | rfl | (exact absurd hk (by decide))
   subst e
   obtain ⟨c,hc⟩:=h n List.mem_cons_self
   rw [if_pos hk,if_pos hk]
   have e1:cellOf env n=pure c:=by unfold cellOf; rw [hc]
   rw [e1,pure_bind,pure_bind,hc]
   exact X2 r _ fun m hm=>h m (List.mem_cons_of_mem _ hm)
  ·rw [if_neg hk,if_neg hk,pure_bind]
   exact X2 r _ fun m hm=>h m (List.mem_cons_of_mem _ hm)
theorem a53 {scope:Scope} {env:Env} (h:∀ n,(n,NameKind.free)∈scope.names→∃ c,env.cells.lookup n=some c):closureFor scope env=pure (Q9 env.cells scope.names []):=by
 have:=X2 (env:=env) scope.names [] h
 unfold closureFor
 first
  | (simp only [] at this ⊢; rw [← this]; simp only [bind_pure]; rfl)
  | (rw [← this]; rfl)
  | (simp only [bind_pure,pure_bind]; exact this)
theorem O1 {cells:List (Str × Addr)} {x:Str} {c:Addr}:∀ (names:List (Str × NameKind)) (acc:List (Str × Addr)),(∀ n,(n,NameKind.free)∈names→∃ c,cells.lookup n=some c)→(∀ y d,acc.lookup y=some d→cells.lookup y=some d)→(Q9 cells names acc).lookup x=some c→cells.lookup x=some c
 | [],acc,_,ha,h=>ha x c h
 | (n,k) :: r,acc,hn,ha,h=>by
  unfold Q9 at h
  by_cases hk:(k == NameKind.free)=true
  ·rw [if_pos hk] at h
   have e:k = .free:=by cases k <;> first | rfl | (exact absurd hk (by decide))
   subst e
   obtain ⟨d,hd⟩:=hn n List.mem_cons_self
   refine O1 r _ (fun m hm=>hn m (List.mem_cons_of_mem _ hm)) (fun y e hy=>?_) h
   rw [List.lookup_cons] at hy
   split at hy
   ·rename_i hz
    have hz':y=n:=by simpa using hz
    subst hz'
    rw [hd] at hy ⊢
    cases hy; rfl
   ·exact ha y e hy
  ·rw [if_neg hk] at h
   exact O1 r _ (fun m hm=>hn m (List.mem_cons_of_mem _ hm)) ha h
theorem T6 {cells:List (Str × Addr)} {x:Str}:∀ (names:List (Str × NameKind)) (acc:List (Str × Addr)),((x,NameKind.free)∈names ∨ ∃ c,acc.lookup x=some c)→∃ c,(Q9 cells names acc).lookup x=some c
 | [],acc,h=>by
  rcases h with h | h
  ·cases h
  ·exact h
 | (n,k) :: r,acc,h=>by
  unfold Q9
  by_cases hk:(k == NameKind.free)=true
  ·rw [if_pos hk]
   refine T6 r _ ?_
   by_cases hx:x=n
   ·right; rw [List.lookup_cons]; simp [hx]
   ·rcases h with h | ⟨c,h⟩
    ·rcases List.mem_cons.mp h with z | z
     ·injection z with z1 _; exact absurd z1 hx
     ·exact .inl z
    ·right
     refine ⟨c,?_⟩
     rw [List.lookup_cons]
     have:(x == n)=false:=by simpa using hx
     rw [this]; exact h
  ·rw [if_neg hk]
   refine T6 r _ ?_
   rcases h with h | h
   ·rcases List.mem_cons.mp h with z | z
    ·injection z with _ z2
     subst z2
     exact absurd rfl hk
    ·exact .inl z
   ·exact .inr h
theorem a0G {scope:Scope} {env:Env} {x:Str} {k:NameKind} (h:(relabel scope env).names.lookup x=some k) (hk:k = .cell∨k = .free) (hcell:∀ y∈scope.names,y.2 ≠ .cell):(x,NameKind.free)∈scope.names:=by
 have go:∀ (l:List (Str × NameKind)),(∀ y∈l,y.2 ≠ .cell)→(l.map fun (n,k)=>if (k == NameKind.free && env.scope.kind == .function && env.kindOf n == some .cell)=true then (n,NameKind.cell) else (n,k)).lookup x=some k→(x,NameKind.free)∈l:=by
  intro l
  induction l with
  | nil=>intro _ h; cases h
  | cons p r ih =>
   intro hl h
   obtain ⟨n,j⟩:=p
   rw [List.map_cons,List.lookup_cons] at h
   by_cases hj:j = .free
   ·subst hj
    by_cases hx:x=n
    ·subst hx; exact List.mem_cons_self
    ·refine List.mem_cons_of_mem _ (ih (fun y hy=>hl y (List.mem_cons_of_mem _ hy)) ?_)
     have e:∀ b:Bool,(x == (if b=true then (n,NameKind.cell) else (n,NameKind.free)).1)=false:=fun b=>by cases b <;> simpa using hx
     dsimp only at h
     rw [e] at h
     exact h
   ·have e:(j == NameKind.free)=false:=by simpa using hj
    have hc:=hl (n,j) List.mem_cons_self
    dsimp only at h
    rw [e] at h
    simp only [Bool.false_and,Bool.false_eq_true,if_false] at h
    by_cases hx:x=n
    ·have:(x == n)=true:=by simpa using hx
     rw [this] at h
     have h':j=k:=by simpa using h
     subst h'
     rcases hk with z | z
     ·exact absurd z hc
     ·exact absurd z hj
    ·have:(x == n)=false:=by simpa using hx
     rw [this] at h
     exact List.mem_cons_of_mem _ (ih (fun y hy=>hl y (List.mem_cons_of_mem _ hy)) h)
 exact go scope.names hcell h
def cxF (X:Cx) (scope:Scope) (cl:List (Str × Addr)) (N':List Str) (s3:Shared) (H3:Hp) (C:Addr) (fp:List Addr) (pins:List (Addr × Obj)):Cx :=
 { X with N:=N',s₀:=s3,H₀:=H3,env:=compEnvC scope cl C X.env,outer:=X.stack,ex:=fp,fn:=fun _=>false,pn:=X.pn++pins,xe:=fun _ _=>False }
def a4B (n:Nat) (caps:List Nat) (σ:St):St:=List.replicate n none++caps.map fun i=>(σ[i]?).getD none
def a6s (n:Nat) (caps:List Nat) (wi:TI) (g:TG) (tc:TT) (te:TE):TE:=fun σ H Q=>wi σ H fun J H1=>∀ D,H1 D=none→∃ W:Nat→Nat→Hp→Prop,(∃ m,W 0 m (upd H1 D (.lst [])))∧∀ i m H,W i m H →
 (J.stop i H∧Q (.ref D) H)∨(J.go i H∧∀ x H',J.yld i H x H'→g x (a4B n caps σ) H' fun σ2 H2=>tc σ2 H2 fun b H2'=>if b=true then te σ2 H2' fun v H3=>∃ ys,H3 D=some (.lst ys)∧ys.length<sizeLine∧∃ m',m'<m∧W (i+1) m' (upd H3 D (.lst (ys++[v]))) else ∃ m',m'<m∧W (i+1) m' H2')
section
variable {X:Cx} {elt tg iter:Expr} {scope:Scope} {cl:List (Str × Addr)} {tgs cps:List Str} {caps:List Nat} {wi:TI} {g:TG} {tc:TT} {te:TE} {pos:Pos} {ifs:List Expr}
def b2x (s3:Shared) (H3:Hp) (fp:List Addr) (cl:List (Str × Addr)) (x:Str) (v:V):Prop :=
 ∃ (u:Value) (c:Addr) (o:Obj),m9 v u∧cl.lookup x=some c∧s3.heap.get? c=some o∧o.data = .cell (some u)∧H3 c=none∧c∉fp
theorem Inv.reset {pins pins':List (Addr × Obj)} {σ0 σ':St} {H3 H':Hp} {s3 s':Shared} {fp:List Addr} {C:Addr} (I:Inv (cxF X scope cl (tgs++cps) s3 H3 C fp pins) pins' σ' H' s')
  (hsc:∀ x∈cps,(relabel scope X.env).names.lookup x=some .cell∨(relabel scope X.env).names.lookup x=some .free) (hl:caps.length=cps.length)
  (hc:∀ (j:Nat) (x:Str) (v:V),cps[j]? = some x→(caps.map fun i=>(σ0[i]?).getD none)[j]? = some (some v)→b2x s3 H3 fp cl x v) :
  Inv (cxF X scope cl (tgs++cps) s3 H3 C fp pins) pins' (a4B tgs.length caps σ0) H' s':=by
 obtain ⟨m,hn,_⟩:=I.loc
 refine ⟨I.ok,I.os,I.bare,I.base,⟨m,hn,fun i x v e1 e2 e3=>?_⟩,I.cell,I.free,I.freeC,I.pin,I.hok,by simp [a4B,cxF,hl]⟩
 have e1:(tgs++cps)[i]? = some x:=e1
 unfold a4B at e2
 rw [List.getElem?_append] at e1 e2
 rw [List.length_replicate] at e2
 by_cases hi:i<tgs.length
 ·rw [if_pos hi] at e2
  rw [List.getElem?_replicate] at e2
  split at e2 <;> cases e2
 ·rw [if_neg hi] at e1 e2
  obtain ⟨u,c,o,r,h1,h2,h3,h4,h5⟩:=hc (i - tgs.length) x v e1 e2
  obtain ⟨sl,k⟩:=I.base.any h2 h4 h5
  refine ⟨u,r,.inr ⟨?_,c,h1,_,k,h3⟩⟩
  rcases hsc x (List.mem_of_getElem? e1) with z | z
  ·exact .inl z
  ·exact .inr z
theorem a52 {pins:List (Addr × Obj)} {σ0:St} {σ:St} {H3:Hp} {s3:Shared} {fp:List Addr} {it D C:Addr} {tn:Nat→Heap→Prop} {J:It} {h₁:Heap} {tk:Nat} {m:Str→Option Value} {R:Result→Shared→Prop} {Qd:Hp→Prop}
  (hc:X.calm=true) (hcell:∀ x∈scope.names,x.2 ≠ .cell) (hkind:scope.kind = .function)
  (hcl:∀ x c,cl.lookup x=some c→X.env.cells.lookup x=some c) (hhas:∀ x,(x,NameKind.free)∈scope.names→∃ c,cl.lookup x=some c)
  (hsc:∀ x∈cps,(relabel scope X.env).names.lookup x=some .cell∨(relabel scope X.env).names.lookup x=some .free) (hl:caps.length=cps.length)
  (hcap:∀ (j:Nat) (x:Str) (v:V),cps[j]? = some x→(caps.map fun i=>(σ0[i]?).getD none)[j]? = some (some v)→b2x s3 H3 fp cl x v)
  (hg:∀ cl s3 H3 C fp pins,PG (cxF X scope cl (tgs++cps) s3 H3 C fp pins) tg g) (hq:∀ cl s3 H3 C fp pins,a0s (cxF X scope cl (tgs++cps) s3 H3 C fp pins) ifs tc) (he:∀ cl s3 H3 C fp pins,PE (cxF X scope cl (tgs++cps) s3 H3 C fp pins) elt te)
  (I3:Inv X pins σ H3 s3) (T:a6f X.prog X.w X.K tg J fp it tn) (st3:tn 0 s3.heap) (f3:∀ b∈fp,X5 X pins H3 b) (hC:C=s3.heap.objs.size) (hn:h₁.Ns C m) (hk:∀ b o,s3.heap.get? b=some o→h₁.get? b=some o)
  (W:Nat→Nat→Hp→Prop) (m0:Nat) (w0:W 0 m0 H3)
  (turn:∀ i m H,W i m H→(J.stop i H∧Qd H)∨(J.go i H∧∀ x H',J.yld i H x H'→g x (a4B tgs.length caps σ0) H' fun σ2 H2=>tc σ2 H2 fun b H2'=>if b=true then te σ2 H2' fun v H3=>∃ ys,H3 D=some (.lst ys)∧ys.length<sizeLine∧∃ m',m'<m∧W (i+1) m' (upd H3 D (.lst (ys++[v]))) else ∃ m',m'<m∧W (i+1) m' H2'))
  (hR:∀ s' H' σ',Inv (cxF X scope cl (tgs++cps) s3 H3 C fp pins) [] σ' H' s'→Qd H'→R (.ok .next) s') :
  codeAny (model X.prog X.w) X.A (.compStart (.ListComp elt [⟨tg,iter,ifs,0⟩] scope pos) 0 (.ref it) (.ref D) (compEnvC scope cl C X.env)) R { s3 with heap:=h₁,toks:=tk }:=by
 have lt3:∀ b∈fp,b<s3.heap.objs.size:=fun b hb=>by
  obtain ⟨o,e,_⟩:=T.obj 0 _ st3 b hb
  exact Heap.lt_size e
 have ok':(cxF X scope cl (tgs++cps) s3 H3 C fp pins).Ok:={
  mod:=I3.ok.mod
  kind:=hkind
  glob:=I3.ok.glob
  blt:=I3.ok.blt
  above:=Nat.le_of_eq hC.symm
  inj:=fun x y c e e'=>I3.ok.inj x y c (hcl x c e) (hcl y c e')
  has:=fun x h=>by
   rcases h with h | h
   ·exact hhas x (a0G h (.inl rfl) hcell)
   ·exact hhas x (a0G h (.inr rfl) hcell)
  cab:=fun x c h=>by cases h
  hd:=fun _=>I3.ok.hd hc
  frames:=I3.ok.frames
  stk:=.inl rfl
  exf:=fun b hb=>⟨fun z=>by
   have z':b=C:=z
   have h1:=lt3 b hb
   rw [z',hC] at h1
   exact Nat.lt_irrefl _ h1,fun x c e=>(f3 b hb).2.2.2.2.1 x c (hcl x c e)⟩
  bs:=fun b o e=>I3.bs b o e
  bsz:=Nat.le_trans I3.ok.bsz I3.sz
  noex:=fun b o e hb=>by
   obtain ⟨_,_,_,q,_⟩:=f3 b hb
   rcases q with q | q
   ·exact I3.ok.noex b o e q
   ·have h1:=Heap.lt_size e
    exact absurd (Nat.lt_of_lt_of_le (Nat.lt_of_lt_of_le h1 I3.ok.bsz) q) (Nat.lt_irrefl _)
  exfs:=fun b hb z=>by
   obtain ⟨_,q1,q2,_⟩:=f3 b hb
   rcases List.mem_cons.mp (I3.stkSub b z) with y | y
   ·exact q1 y
   ·exact q2 y
  funs:=I3.stack
  frf:=I3.stkFree }
 have J0:Inv (cxF X scope cl (tgs++cps) s3 H3 C fp pins) [] (List.replicate (tgs++cps).length none) H3 { s3 with heap:=h₁,toks:=tk }:={
  ok:=ok'
  os:=rfl
  bare:=I3.bare
  base:=Un.kept hk
  loc:=⟨m,hn,fun i x v _ e _=>by
   rw [List.getElem?_replicate] at e
   split at e <;> cases e⟩
  cell:=fun x c e=>by
   obtain ⟨v,o,ho,hd⟩:=I3.cell x c (hcl x c e)
   exact ⟨v,o,hk c o ho,hd⟩
  free:=I3.hok.fresh (Nat.le_of_eq hC.symm)
  freeC:=fun x c e=>I3.freeC x c (hcl x c e)
  pin:=fun p hp=>by
   have hp':p∈X.pn++pins:=by simpa [cxF] using hp
   obtain ⟨a1,a2,a3,a4,a5⟩:=I3.pin p hp'
   refine ⟨hk _ _ a1,a2,fun z=>?_,fun z=>?_,a5⟩
   ·have z':p.1=C:=z
    have h1:=Heap.lt_size a1
    rw [z',hC] at h1
    exact Nat.lt_irrefl _ h1
   ·rcases List.mem_cons.mp (I3.stkSub _ z) with y | y
    ·exact a3 y
    ·exact a4 y
  hok:=I3.hok.kept hk
  len:=by simp [cxF] }
 have stat:∀ {H':Hp},(∀ b∈fp,H' b=none)→∀ b∈fp,X5 (cxF X scope cl (tgs++cps) s3 H3 C fp pins) [] H' b:=fun hn b hb=>by
  obtain ⟨_,_,_,_,_,q⟩:=f3 b hb
  exact ⟨hn b hb,(ok'.exf b hb).1,ok'.exfs b hb,.inl hb,(ok'.exf b hb).2,fun p hp=>q p (by simpa [cxF] using hp)⟩
 have loop:codeAny (model X.prog X.w) X.A (.compLoop (.ListComp elt [⟨tg,iter,ifs,0⟩] scope pos) 0 (.ref it) (.ref D) (compEnvC scope cl C X.env)) R { s3 with heap:=h₁,toks:=tk }:=by
  refine a4A (fun n s'=>∃ i σ' H',Inv (cxF X scope cl (tgs++cps) s3 H3 C fp pins) [] σ' H' s'∧tn i s'.heap∧(∀ b∈fp,H' b=none)∧W i n H') ?_ m0
   ⟨0,_,H3,J0,T.keep _ _ _ st3 fun b hb o e=>hk b o e,fun b hb=>(f3 b hb).1,w0⟩
  rintro n s4 ⟨i,σ4,H4,I4,st4,fr4,w4⟩
  rcases turn i n H4 w4 with ⟨stop,qn⟩ | ⟨go,step⟩
  ·refine thn (T.done (cxF X scope cl (tgs++cps) s3 H3 C fp pins) rfl rfl rfl hc i [] s4 σ4 H4 _ I4 (stat fr4) st4 stop) fun r s5 zz=>?_
   obtain ⟨hr,I5⟩:=zz
   subst hr
   exact hR s5 H4 σ4 I5 qn
  ·refine thn (T.item (cxF X scope cl (tgs++cps) s3 H3 C fp pins) rfl rfl rfl hc i [] s4 σ4 H4 _ I4 (stat fr4) st4 go) fun r s5 zz=>?_
   obtain ⟨u,hr,h5⟩:=zz
   subst hr
   refine thn h5 fun _ s6 zz=>?_
   obtain ⟨x,H6,I6,r6,y6,st6,fr6⟩:=zz
   have I6w:=I6.reset hsc hl hcap
   have I6':=I6w.pinned (stat fr6) (T.obj _ _ st6)
   refine wpAny_mono (hg cl s3 H3 C fp pins _ s6 _ H6 x u _ I6' r6 (step x H6 y6)) (fun _ s7 ⟨σ7,H7,I7,q7⟩=>?_) fun _ _ z=>z.elim
   refine wpAny_mono (hq cl s3 H3 C fp pins _ s7 σ7 H7 _ I7 q7) (fun b s7' ⟨H7',I7',q7'⟩=>?_) fun _ _ z=>z.elim
   cases b with
   | false =>
    obtain ⟨m',hm,w8⟩:=q7'
    refine ⟨m',hm,i+1,σ7,H7',I7'.unpinned,T.keep _ _ _ st6 fun b hb o e=>(I7'.pin (b,o) (List.mem_append_right _ (List.mem_append_right _ (C6 hb e)))).1,fun b hb=>?_,w8⟩
    obtain ⟨o,e,d⟩:=T.obj _ _ st6 b hb
    exact (I7'.pin (b,o) (List.mem_append_right _ (List.mem_append_right _ (C6 hb e)))).2.1
   | true =>
    refine wpAny_mono (he cl s3 H3 C fp pins _ s7' σ7 H7' _ I7' q7') (fun v s8 ⟨y,H8,I8,r8,q8⟩=>?_) fun _ _ z=>z.elim
    obtain ⟨ys,hy,hz,m',hm,w8⟩:=q8
    refine wpAny_mono (a3p (X:=cxF X scope cl (tgs++cps) s3 H3 C fp pins) _ s8 σ7 H8 (.ref D) [y] (.ref D) [v] (fun _ H9=>W (i+1) m' H9) I8 rfl (.cons r8 .nil) ⟨D,ys,y,rfl,rfl,hy,hz,w8⟩) (fun _ s9 ⟨_,H9,I9,_,w9⟩=>?_) fun _ _ z=>z.elim
    refine ⟨m',hm,i+1,σ7,H9,I9.unpinned,T.keep _ _ _ st6 fun b hb o e=>(I9.pin (b,o) (List.mem_append_right _ (List.mem_append_right _ (C6 hb e)))).1,fun b hb=>?_,w9⟩
    obtain ⟨o,e,d⟩:=T.obj _ _ st6 b hb
    exact (I9.pin (b,o) (List.mem_append_right _ (List.mem_append_right _ (C6 hb e)))).2.1
 exact codeAny_compStart_list loop (T.self _ 0 _ _ _ (T.keep _ _ _ st3 fun b hb o e=>hk b o e) loop)
theorem a3v (hc:X.calm=true) (hcell:∀ x∈scope.names,x.2 ≠ .cell) (hkind:scope.kind = .function) (hnames:∀ x∈scope.names,x.2 = .local→scope.names.lookup x.1=some .local)
  (hfr:∀ x∈scope.names,x.2 = .free→x.1∈cps) (hN:caps.map (fun i=>X.N[i]?)=cps.map some) (hX:∀ x∈cps,X.env.scope.names.lookup x=some .cell∧scope.names.lookup x=some .free)
  (hsc:∀ x∈cps,(relabel scope X.env).names.lookup x=some .cell∨(relabel scope X.env).names.lookup x=some .free)
  (hi:PI X tg iter wi) (hg:∀ cl s3 H3 C fp pins,PG (cxF X scope cl (tgs++cps) s3 H3 C fp pins) tg g) (hq:∀ cl s3 H3 C fp pins,a0s (cxF X scope cl (tgs++cps) s3 H3 C fp pins) ifs tc) (he:∀ cl s3 H3 C fp pins,PE (cxF X scope cl (tgs++cps) s3 H3 C fp pins) elt te)
  (hs:∀ x,foldedSetIterable iter X.env x=pure x) {use:Option (Value→Sem Unit)} {Qf:Value→Shared→Prop} {pins:List (Addr × Obj)} {s:Shared} {σ:St} {H:Hp} {Q:VK} (I:Inv X pins σ H s) (h:a6s tgs.length caps wi g tc te σ H Q)
  (hU:∀ (D C:Addr) (s':Shared) (H4:Hp) (m4:Str→Option Value),s'.heap.Ns C m4→X5 X pins H4 C→(∀ h',Heap.SameBut C s'.heap h'→Inv X pins σ H4 { s' with heap:=h' })→Q (.ref D) H4→compPost (model X.prog X.w) X.A X.xe use Qf (.ref D) C (.ok .next) s') :
  wpAny (model X.prog X.w) X.A (comprehension (.ListComp elt [⟨tg,iter,ifs,0⟩] scope pos) scope X.env (firstIterPos [⟨tg,iter,ifs,0⟩] pos) (newList []) false (eval iter X.env) use) Qf X.xe s:=by
 have hl:caps.length=cps.length:=by
  have:=congrArg List.length hN
  simpa using this
 have hcells:∀ n,(n,NameKind.free)∈scope.names→∃ c,X.env.cells.lookup n=some c:=fun n hn=>I.ok.has n (.inl (hX n (hfr _ hn rfl)).1)
 refine wpAny_comprehension_free (use:=use) rfl hs (a53 hcells) hkind hnames (thn (hi pins s σ H _ I h) fun v s1 h1=>thn h1 fun itv s2 h2=>?_)
 obtain ⟨it,fp,tn,J,H',e,I2,T,st2,f2,hW⟩:=h2
 subst e
 refine wpAny_newObj_type (hd:=by size_fits) (wpAny_newFunctionEnv hcell (by intro y hy; simp at hy) (fun h₁ hns₁ hsb₁=>?_) hkind)
 dsimp only at hns₁ hsb₁ ⊢
 have I3:=I2.lnew (ys:=[]) (its:=[]) (t':=s2.toks) .nil (Nat.zero_le _)
 obtain ⟨W,⟨m0,w0⟩,turn⟩:=hW _ I2.fresh
 have st3:tn 0 (s2.heap.push { cls:=.type "list",data:=.seq ([]:List Value).toArray }):=T.keep _ _ _ st2 fun b hb o e=>Heap.get?_push_of_some _ e
 have f3:∀ b∈fp,X5 X pins (upd H' s2.heap.objs.size (.lst [])) b:=fun b hb=>by
  obtain ⟨q0,q⟩:=f2 b hb
  obtain ⟨o,e,_⟩:=T.obj 0 _ st2 b hb
  exact ⟨by rw [i7 (Nat.ne_of_lt (Heap.lt_size e))]; exact q0,q⟩
 have old:∀ b o,(s2.heap.push { cls:=.type "list",data:=.seq ([]:List Value).toArray }).get? b=some o→h₁.get? b=some o:=fun b o e =>
  hsb₁.extBut b o (Nat.ne_of_lt (Heap.lt_size e)) (Heap.get?_push_of_some _ e)
 have hcap:∀ (j:Nat) (x:Str) (v:V),cps[j]? = some x→(caps.map fun i=>(σ[i]?).getD none)[j]? = some (some v) →
   b2x { s2 with heap:=s2.heap.push { cls:=.type "list",data:=.seq ([]:List Value).toArray },toks:=s2.toks } (upd H' s2.heap.objs.size (.lst [])) fp (Q9 X.env.cells scope.names []) x v:=fun j x v ex ev=>by
  have hx:=hX x (List.mem_of_getElem? ex)
  have hj:(caps.map (fun i=>X.N[i]?))[j]? = some (some x):=by rw [hN,List.getElem?_map,ex]; rfl
  rw [List.getElem?_map] at ev hj
  cases hcj:caps[j]? with
  | none=>rw [hcj] at ev; cases ev
  | some i =>
   rw [hcj] at ev hj
   have ev':(σ[i]?).getD none=some v:=by simpa using ev
   have hj':X.N[i]? = some x:=by simpa using hj
   have es:σ[i]? = some (some v):=by
    cases q:σ[i]? with
    | none=>rw [q] at ev'; cases ev'
    | some w=>rw [q] at ev'; rw [show w=some v by simpa using ev']
   obtain ⟨m,hn,hlook⟩:=I3.loc
   obtain ⟨u,ru,lk⟩:=hlook i x v hj' es (.inr (.inl hx.1))
   rcases lk with ⟨k1,_⟩ | ⟨_,c,hc1,o,ho,hd⟩
   ·have k1':X.env.scope.names.lookup x=some .local:=k1
    rw [hx.1] at k1'; cases k1'
   ·have hmem:(x,NameKind.free)∈scope.names:=by
     have hlk:=hx.2
     have go:∀ l:List (Str × NameKind),l.lookup x=some .free→(x,NameKind.free)∈l:=by
      intro l
      induction l with
      | nil=>intro z; cases z
      | cons p r ih =>
       intro z
       obtain ⟨n,k⟩:=p
       rw [List.lookup_cons] at z
       split at z
       ·rename_i q; have q':x=n:=by simpa using q
        have z':k = .free:=by simpa using z
        rw [q',z']; exact List.mem_cons_self
       ·exact List.mem_cons_of_mem _ (ih z)
     exact go _ hlk
    obtain ⟨c',hc'⟩:=T6 (cells:=X.env.cells) scope.names [] (.inl hmem)
    have:=O1 scope.names [] hcells (fun y d z=>by cases z) hc'
    rw [hc1] at this
    cases this
    refine ⟨u,c,o,ru,hc',ho,hd,I3.freeC x c hc1,fun hb=>?_⟩
    exact (f3 c hb).2.2.2.2.1 x c hc1 rfl
 refine a52 (s3:={ s2 with heap:=s2.heap.push { cls:=.type "list",data:=.seq ([]:List Value).toArray },toks:=s2.toks }) (Qd:=fun H=>Q (.ref s2.heap.objs.size) H) (tk:=s2.toks+([]:List (Str × Value)).length) (cl:=Q9 X.env.cells scope.names [])
  hc hcell hkind (fun x c z=>O1 scope.names [] hcells (fun y d z=>by cases z) z) (fun x z=>T6 scope.names [] (.inl z)) hsc hl hcap hg hq he I3 T st3 f3 rfl hns₁ old W m0 w0 turn fun s' H4 σ4 I4 q4=>?_
 obtain ⟨m4,hn4,_⟩:=I4.loc
 have hCfree:H4 _=none:=I4.free
 have nC:∀ b u,H4 b=some u→b≠(s2.heap.push { cls:=.type "list",data:=.seq ([]:List Value).toArray }).objs.size:=fun b u e z=>by
  rw [z] at e
  have:=e.symm.trans hCfree
  cases this
 have lt:∀ b o,(s2.heap.push { cls:=.type "list",data:=.seq ([]:List Value).toArray }).get? b=some o→b≠(s2.heap.push { cls:=.type "list",data:=.seq ([]:List Value).toArray }).objs.size:=fun b o e=>Nat.ne_of_lt (Heap.lt_size e)
 have ub:=I4.base
 have fC:X5 X pins H4 (s2.heap.push { cls:=.type "list",data:=.seq ([]:List Value).toArray }).objs.size:=I3.fpOk (Nat.le_refl _) hCfree
 refine hU _ _ s' H4 m4 hn4 fC (fun h' hsb=>?_) q4
 have un:Un (frs X.stack) fp (upd H' s2.heap.objs.size (.lst [])) H4 (s2.heap.push { cls:=.type "list",data:=.seq ([]:List Value).toArray }) h':={
  keep:=fun b o e n x y=>(hsb.2 b (lt b o e)).trans (ub.keep b o e n x y)
  slot:=fun b o e n x y=>let ⟨q,z⟩:=ub.slot b o e n x y; ⟨q,(hsb.2 b (lt b o e)).trans z⟩
  free:=ub.free
  there:=fun b o e y=>let ⟨q,z⟩:=ub.there b o e y; ⟨q,(hsb.2 b (lt b o e)).trans z⟩
  tups:=ub.tups
  frzs:=ub.frzs
  tbls:=ub.tbls }
 refine I3.call' (s':={ s' with heap:=h' }) I4.os un (fun b u e=>?_) I4.bare fun b hb=>?_
 ·refine (I4.hok b u e).stay (fun c v hcv q=>(hsb.2 c ?_).trans q) (fun _ q=>q) fun _ _ q=>q
  rcases hcv with z | z
  ·rw [z]; exact nC b u e
  ·exact nC c _ z
 ·obtain ⟨q0,q1,q2,q3,q4,q5⟩:=f3 b hb
  exact ⟨q3,q1,q4,q5⟩
theorem a5A (hc:X.calm=true) (hcell:∀ x∈scope.names,x.2 ≠ .cell) (hkind:scope.kind = .function) (hnames:∀ x∈scope.names,x.2 = .local→scope.names.lookup x.1=some .local)
  (hfr:∀ x∈scope.names,x.2 = .free→x.1∈cps) (hN:caps.map (fun i=>X.N[i]?)=cps.map some) (hX:∀ x∈cps,X.env.scope.names.lookup x=some .cell∧scope.names.lookup x=some .free)
  (hsc:∀ x∈cps,(relabel scope X.env).names.lookup x=some .cell∨(relabel scope X.env).names.lookup x=some .free)
  (hi:PI X tg iter wi) (hg:∀ cl s3 H3 C fp pins,PG (cxF X scope cl (tgs++cps) s3 H3 C fp pins) tg g) (hq:∀ cl s3 H3 C fp pins,a0s (cxF X scope cl (tgs++cps) s3 H3 C fp pins) ifs tc) (he:∀ cl s3 H3 C fp pins,PE (cxF X scope cl (tgs++cps) s3 H3 C fp pins) elt te)
  (hs:∀ x,foldedSetIterable iter X.env x=pure x:=by intro _; rfl):PE X (.ListComp elt [⟨tg,iter,ifs,0⟩] scope pos) (a6s tgs.length caps wi g tc te):=by
 intro pins s σ H Q I h
 rw [eval_ListComp]
 exact a3v hc hcell hkind hnames hfr hN hX hsc hi hg hq he hs I h fun D C s' H4 m4 hn4 fC hI q4=>⟨m4,hn4,fun h' hsb=>⟨.ref D,H4,hI h' hsb,rfl,q4⟩⟩
def PU (X:Cx) (i:Nat) (x:Str) (pos':Pos) (e:Expr) (te:TE):Prop:=∀ (pins:List (Addr × Obj)) (s:Shared) (σ:St) (H:Hp) (Q:VK),Inv X pins σ H s→te σ H Q →
 wpAny (model X.prog X.w) X.A (evalThenUse e X.env (assign (.Name x pos') X.env)) (fun _ s'=>∃ v H',Inv X pins (σ.set i (some v)) H' s'∧Q v H') X.xe s
theorem PU.imp {X:Cx} {i:Nat} {x:Str} {pos':Pos} {e:Expr} {t t':TE} (h:PU X i x pos' e t) (f:∀ σ H Q,t' σ H Q→t σ H Q):PU X i x pos' e t':=fun pins s σ H Q I q=>h pins s σ H Q I (f σ H Q q)
theorem a8b {i:Nat} {x:Str} {pos' pos:Pos} {e:Expr} {te:TE} (h:PU X i x pos' e te) (hs:swapsWith e (some (.Name x pos')) pos.line X.env=pure true):PS X (.Assign [.Name x pos'] e pos) (b6s te (b1y i)):=by
 intro pins s σ H D I q
 rw [exec_Assign_Name_used _ _ _ _ hs]
 refine wpAny_bind (wpAny_standAt (wpAny_bind (thn (h pins s σ H _ I q) fun _ s1 ⟨v,H1,I1,q1⟩=>wpAny_pure ?_)))
 exact ⟨_,H1,I1,q1⟩
theorem a5x (hc:X.calm=true) (hcell:∀ x∈scope.names,x.2 ≠ .cell) (hkind:scope.kind = .function) (hnames:∀ x∈scope.names,x.2 = .local→scope.names.lookup x.1=some .local)
  (hfr:∀ x∈scope.names,x.2 = .free→x.1∈cps) (hN:caps.map (fun i=>X.N[i]?)=cps.map some) (hX:∀ x∈cps,X.env.scope.names.lookup x=some .cell∧scope.names.lookup x=some .free)
  (hsc:∀ x∈cps,(relabel scope X.env).names.lookup x=some .cell∨(relabel scope X.env).names.lookup x=some .free)
  (hi:PI X tg iter wi) (hg:∀ cl s3 H3 C fp pins,PG (cxF X scope cl (tgs++cps) s3 H3 C fp pins) tg g) (hq:∀ cl s3 H3 C fp pins,a0s (cxF X scope cl (tgs++cps) s3 H3 C fp pins) ifs tc) (he:∀ cl s3 H3 C fp pins,PE (cxF X scope cl (tgs++cps) s3 H3 C fp pins) elt te)
  {i:Nat} {x:Str} {pos':Pos} (hNd:X.N.Nodup) (hxi:X.N[i]? = some x) (hx:Loc X.env.scope x) (hf:X.fn x=true∨X.env.scope.names.lookup x=some .local)
  (hs:∀ x,foldedSetIterable iter X.env x=pure x:=by intro _; rfl):PU X i x pos' (.ListComp elt [⟨tg,iter,ifs,0⟩] scope pos) (a6s tgs.length caps wi g tc te):=by
 intro pins s σ H Q I h
 refine wpAny_bind (thn (a3v (use:=some (assign (.Name x pos') X.env)) (Qf:=fun _ s'=>∃ v H',Inv X pins (σ.set i (some v)) H' s'∧Q v H') hc hcell hkind hnames hfr hN hX hsc hi hg hq he hs I h fun D C s' H4 m4 hn4 fC hI q4=>?_) fun _ s1 z=>wpAny_pure z)
 have I4:Inv X pins σ H4 s':=hI s'.heap (Heap.SameBut.refl _ _)
 show wpAny _ _ (assign (.Name x pos') X.env (.ref D)) _ _ s'
 refine wpAny_assign_Name (a3g (v:=.ref D) I4 hNd hxi hx rfl (fun s2 I2 ⟨a,hsb,ha⟩=>?_) hf)
 have hac:C≠a:=by
  rcases ha with ha | ha
  ·rw [ha]; exact fC.2.1
  ·exact Ne.symm (fC.2.2.2.2.1 x a ha)
 refine ⟨m4,hn4.sameBut hsb hac,fun h' hs'=>⟨.ref D,H4,?_,q4⟩⟩
 exact I2.turned (t':=s2.toks) (fun b o hb e=>hs'.extBut b o hb e) fC.1 fC.2.1 fC.2.2.2.1 fC.2.2.2.2.1 fC.2.2.2.2.2
end
end L2
namespace L2
open PySem
def SI:Bool→Heap→Addr→Addr→Nat→Prop
 | true,h,it,a,i=>h.IsListIter it a i
 | false,h,it,a,i=>h.IsTupleIter it a i
def SS:Bool→Heap→Addr→Array Value→Prop
 | true,h,a,xs=>h.IsList a xs
 | false,h,a,xs=>h.IsTuple a xs
theorem SI.at {k:Bool} {h h':Heap} {it a:Addr} {i:Nat} (x:SI k h it a i) (f:∀ o,h.get? it=some o→h'.get? it=some o):SI k h' it a i:=by
 cases k <;> (obtain ⟨o,e,r⟩:=x; exact ⟨o,f o e,r⟩)
theorem SS.at {k:Bool} {h h':Heap} {a:Addr} {xs:Array Value} (x:SS k h a xs) (f:∀ o,h.get? a=some o→h'.get? a=some o):SS k h' a xs:=by
 cases k <;> (obtain ⟨o,e,r⟩:=x; exact ⟨o,f o e,r⟩)
theorem SI.obj {k:Bool} {h:Heap} {it a:Addr} {i:Nat} (x:SI k h it a i):∃ o,h.get? it=some o∧∀ v,o.data ≠ .cell v:=by
 cases k <;> (obtain ⟨o,e,c,d⟩:=x; exact ⟨o,e,fun v z=>by rw [d] at z; cases z⟩)
theorem SS.obj {k:Bool} {h:Heap} {a:Addr} {xs:Array Value} (x:SS k h a xs):∃ o,h.get? a=some o:=by
 cases k <;> (obtain ⟨o,e,_⟩:=x; exact ⟨o,e⟩)
section
variable {prog:Program} {w:World} {A:Around} {E:Value→Shared→Prop} {s:Shared}
theorem a8X {p t:Addr} {n:Nat} {xs:Array Value} {v:Value} {Q:Value→Shared→Prop} (hp:s.heap.IsTupleIter p t n) (ht:s.heap.IsTuple t xs) (hv:xs[n]? = some v)
  (q:∀ h',h'.IsTupleIter p t (n+1)→Heap.SameBut p s.heap h'→Q v { s with heap:=h' }):wpAny (model prog w) A (Builtin.SmallTypes.nextOf (.ref p)) Q E s:=by
 obtain ⟨ob,e1,e2,e3⟩:=id hp
 obtain ⟨ot,f1,_,cap,f2⟩:=ht
 unfold Builtin.SmallTypes.nextOf
 refine wpAny_bind (wpAny_callSpecial?_slot (name:=Str.ofString "__next__") hp.typeIs F.slot_tuple_iterator_next (wpAny_call_entry F.slot_tuple_iterator_next hp.typeIs F.entry_tuple_iterator_next ?_ (F.args_tuple_iterator_next_1 _)))
 show wpAny _ _ (field (.ref p) 0 >>= _) _ _ s
 refine wpAny_bind (wpAny_field e1 e3 (x:=.ref t) rfl ?_)
 show wpAny _ _ (if (Value.ref t == Value.none)=true then _ else _) _ _ s
 rw [if_neg (fun z:(Value.ref t == Value.none)=true=>nomatch z)]
 show wpAny _ _ (field (.ref p) 1 >>= _) _ _ s
 refine wpAny_bind (wpAny_field e1 e3 (x:=.int n 0) rfl ?_)
 show wpAny _ _ (seqItems? (.ref t) >>= _) _ _ s
 refine wpAny_bind (wpAny_seqItems f1 f2 ?_)
 simp only [Int.toNat_natCast,hv]
 refine wpAny_bind (wpAny_setField e1 e3 (by simp) (wpAny_pure ⟨v,rfl,wpAny_pure (q _ ⟨_,Heap.get?_update_self _ e1 (Obj.isFreed_of_fields (Obj.data_mapFields e3 _)),(Obj.cls_mapFields ..).trans e2,?_⟩ (Heap.SameBut.update ..))⟩))
 rw [Obj.data_mapFields e3]; simp [rawInt]
theorem b0r {p t:Addr} {n:Nat} {xs:Array Value} {Q:Value→Shared→Prop} (hA:A.handled=none) (hp:s.heap.IsTupleIter p t n) (ht:s.heap.IsTuple t xs) (hv:xs[n]? = none)
  (q:∀ h' e,Heap.ExtBut p s.heap h'→(∃ o,h'.get? e=some o∧o.cls = .type "StopIteration")→E (.ref e) { s with heap:=h' }):wpAny (model prog w) A (Builtin.SmallTypes.nextOf (.ref p)) Q E s:=by
 obtain ⟨ob,e1,e2,e3⟩:=id hp
 obtain ⟨ot,f1,_,cap,f2⟩:=ht
 unfold Builtin.SmallTypes.nextOf
 refine wpAny_bind (wpAny_callSpecial?_slot (name:=Str.ofString "__next__") hp.typeIs F.slot_tuple_iterator_next (wpAny_call_entry F.slot_tuple_iterator_next hp.typeIs F.entry_tuple_iterator_next ?_ (F.args_tuple_iterator_next_1 _)))
 show wpAny _ _ (field (.ref p) 0 >>= _) _ _ s
 refine wpAny_bind (wpAny_field e1 e3 (x:=.ref t) rfl ?_)
 show wpAny _ _ (if (Value.ref t == Value.none)=true then _ else _) _ _ s
 rw [if_neg (fun z:(Value.ref t == Value.none)=true=>nomatch z)]
 show wpAny _ _ (field (.ref p) 1 >>= _) _ _ s
 refine wpAny_bind (wpAny_field e1 e3 (x:=.int n 0) rfl ?_)
 show wpAny _ _ (seqItems? (.ref t) >>= _) _ _ s
 refine wpAny_bind (wpAny_seqItems f1 f2 ?_)
 simp only [Int.toNat_natCast,hv]
 refine wpAny_bind (wpAny_rule (wpAny_bind (wpAny_setField e1 e3 (by simp) ?_)))
 show wpAny _ _ (newExc (.type "StopIteration") [] >>= _) _ _ _
 refine wpAny_bind ?_; simp only [newExc,newTuple]
 refine wpAny_bind (wpAny_newObj_type ?_ (by size_fits)); refine wpAny_bind (m:=firstArgMember _ _) (wpAny_of_eq (a:=Value.none) (by first | rfl | (simp only [firstArgMember]; rfl)) ?_)
 refine wpAny_newObj_type ?_ (by size_fits); simp only [raiseNew]; refine wpAny_bind (wpAny_handled ?_)
 first | rw [show A.in1.handled=none from hA] | rw [hA]
 refine wpAny_bind (wpAny_pure (wpAny_throw (q _ _ (((Heap.SameBut.update ..).extBut.push _).push _) ⟨_,Heap.get?_push_size _ rfl,rfl⟩)))
theorem a00 {k:Bool} {p a:Addr} {n:Nat} {xs:Array Value} {v:Value} {Q:Value→Shared→Prop} (hp:SI k s.heap p a n) (ha:SS k s.heap a xs) (hv:xs[n]? = some v)
  (q:∀ h',SI k h' p a (n+1)→Heap.SameBut p s.heap h'→Q v { s with heap:=h' }):wpAny (model prog w) A (Builtin.SmallTypes.nextOf (.ref p)) Q E s:=by
 cases k with
 | true=>exact wpAny_nextOf_list_item hp ha hv q
 | false=>exact a8X hp ha hv q
theorem a6z {k:Bool} {p a:Addr} {n:Nat} {xs:Array Value} {Q:Value→Shared→Prop} (hA:A.handled=none) (hp:SI k s.heap p a n) (ha:SS k s.heap a xs) (hv:xs[n]? = none)
  (q:∀ h' e,Heap.ExtBut p s.heap h'→(∃ o,h'.get? e=some o∧o.cls = .type "StopIteration")→E (.ref e) { s with heap:=h' }):wpAny (model prog w) A (Builtin.SmallTypes.nextOf (.ref p)) Q E s:=by
 cases k with
 | true=>exact wpAny_nextOf_list_end hA hp ha hv q
 | false=>exact b0r hA hp ha hv q
theorem SI.but {k:Bool} {h h':Heap} {it a b:Addr} {i:Nat} (x:SI k h it a i) (e:Heap.ExtBut b h h') (n:it≠b):SI k h' it a i:=x.at fun o z=>e it o n z
theorem SS.but {k:Bool} {h h':Heap} {a b:Addr} {xs:Array Value} (x:SS k h a xs) (e:Heap.ExtBut b h h') (n:a≠b):SS k h' a xs:=x.at fun o z=>e a o n z
theorem b2z {z TI TO p1 p2 l1 l2:Addr} {c1 c2:Bool} {n1 n2:Nat} {xs ys:Array Value} {v1 v2 u1 u2:Value} {Q:Option Value→Shared→Prop} (D:ZipApart z TI TO p1 p2 l1 l2)
  (iz:IsZip s.heap z TI TO .none) (iI:IsPair s.heap TI (.ref p1) (.ref p2)) (iO:IsPair s.heap TO u1 u2) (g1:SI c1 s.heap p1 l1 n1) (g2:SI c2 s.heap p2 l2 n2) (m1:SS c1 s.heap l1 xs) (m2:SS c2 s.heap l2 ys) (w1:xs[n1]? = some v1) (w2:ys[n2]? = some v2)
  (q:∀ h',IsZip h' z TI TO (rawInt s.heap.objs.size)→IsPair h' TO v1 v2→SI c1 h' p1 l1 (n1+1)→SI c2 h' p2 l2 (n2+1)→IsPair h' s.heap.objs.size v1 v2→h'.objs.size=s.heap.objs.size+1 →
   (∀ b o,b≠z→b≠TO→b≠p1→b≠p2→s.heap.get? b=some o→h'.get? b=some o)→Q (some (.ref s.heap.objs.size)) { s with heap:=h' }):wpAny (model prog w) A (pyNext (.ref z)) Q E s:=by
 have ty:s.TypeIs (.ref z) "zip" := ⟨_,iz,rfl⟩
 unfold pyNext
 refine wpAny_bind (wpAny_attempt (wpAny_callSpecial?_slot (name:=Str.ofString "__next__") ty F.slot_zip_next (wpAny_call_entry F.slot_zip_next ty F.entry_zip_next ?_ (F.args_zip_next_1 _))))
 show wpAny _ _ (field (.ref z) 2 >>= _) _ _ _
 refine wpAny_bind (wpAny_field iz rfl (x:=.bool false) rfl ?_)
 show wpAny _ _ (field (.ref z) 3 >>= _) _ _ _
 refine wpAny_bind (wpAny_field iz rfl (x:=.ref TI) rfl (wpAny_bind (wpAny_seqItems iI rfl ?_)))
 show wpAny _ _ (Builtin.SmallTypes.ownedTupleIsFree (.ref z) >>= _) _ _ _
 refine wpAny_bind ?_; unfold Builtin.SmallTypes.ownedTupleIsFree
 refine wpAny_bind (wpAny_field iz rfl (x:=.none) rfl (wpAny_pure ?_)); simp only [if_true]
 refine wpAny_bind (wpAny_rule (wpAny_bind (wpAny_field iz rfl (x:=.ref TO) rfl (wpAny_bind (wpAny_setField_rec iz (by simp) fun ha za sa=>?_)))))
 replace za:IsZip ha z TI TO .ellipsis:=za
 refine wpAny_bind ?_; simp only [List.zipIdx_cons,List.zipIdx_nil,List.forIn_cons,List.forIn_nil]
 refine wpAny_bind (wpAny_bind (wpAny_onRaise ?_))
 show wpAny _ _ (Builtin.SmallTypes.nextOf (.ref p1) >>= _) _ _ _
 refine wpAny_bind (a00 (g1.but sa.extBut D.i1z) (m1.but sa.extBut D.l1z) w1 fun hb gb sb=>wpAny_pure ?_)
 have oB:IsPair hb TO u1 u2:=sb.extBut _ _ D.TOi1 (sa.extBut _ _ D.TOz iO)
 refine wpAny_bind (wpAny_seqItems oB rfl (wpAny_bind (wpAny_updateSeq_pair oB fun hc oC sc=>?_)))
 replace oC:IsPair hc TO v1 u2:=oC
 refine wpAny_bind (wpAny_letGo (wpAny_pure (wpAny_bind (wpAny_bind (wpAny_onRaise ?_)))))
 show wpAny _ _ (Builtin.SmallTypes.nextOf (.ref p2) >>= _) _ _ _
 refine wpAny_bind (a00 (((g2.but sa.extBut D.i2z).but sb.extBut D.i12.symm).but sc.extBut D.TOi2.symm) (((m2.but sa.extBut D.l2z).but sb.extBut D.l2i1).but sc.extBut D.l2TO) w2 fun hd gd sd=>wpAny_pure ?_)
 have oD:IsPair hd TO v1 u2:=sd.extBut _ _ D.TOi2 oC
 refine wpAny_bind (wpAny_seqItems oD rfl (wpAny_bind (wpAny_updateSeq_pair oD fun he oE se=>?_)))
 replace oE:IsPair he TO v1 v2:=oE
 refine wpAny_bind (wpAny_letGo (wpAny_pure (wpAny_pure (wpAny_bind (wpAny_seqItems oE rfl (wpAny_bind (wpAny_newTuple ?_)))))))
 have zs:he.objs.size=s.heap.objs.size:=by rw [se.1,sd.1,sc.1,sb.1,sa.1]
 have zE:IsZip he z TI TO .ellipsis:=se.extBut _ _ D.TOz.symm (sd.extBut _ _ D.i2z.symm (sc.extBut _ _ D.TOz.symm (sb.extBut _ _ D.i1z.symm za)))
 have kE:∀ b o,b≠z→b≠TO→b≠p1→b≠p2→s.heap.get? b=some o→he.get? b=some o:=fun b o b1 b2 b3 b4 e=>se.extBut _ _ b2 (sd.extBut _ _ b4 (sc.extBut _ _ b2 (sb.extBut _ _ b3 (sa.extBut _ _ b1 e))))
 have gE1:SI c1 he p1 l1 (n1+1):=((gb.but sc.extBut D.TOi1.symm).but sd.extBut D.i12).but se.extBut D.TOi1.symm
 have gE2:SI c2 he p2 l2 (n2+1):=gd.but se.extBut D.TOi2.symm
 have ltz:z<he.objs.size:=Heap.lt_size zE
 show wpAny _ _ (Builtin.SmallTypes.ownedTupleHandOut (.ref z) (.ref he.objs.size) >>= _) _ _ _
 refine wpAny_bind ?_; unfold Builtin.SmallTypes.ownedTupleHandOut
 refine wpAny_bind (wpAny_setField_rec (Heap.get?_push_of_some _ zE) (by simp) fun hf zf sf=>?_)
 replace zf:IsZip hf z TI TO (rawInt he.objs.size):=zf
 refine wpAny_setField_rec zf (by simp) fun hg zg sg=>?_
 replace zg:IsZip hg z TI TO (rawInt he.objs.size):=zg
 have lift:∀ b o,b≠z→he.get? b=some o→hg.get? b=some o:=fun b o b1 e=>sg.extBut _ _ b1 (sf.extBut _ _ b1 (Heap.get?_push_of_some _ e))
 have tG:IsPair hg he.objs.size v1 v2:=sg.extBut _ _ (Nat.ne_of_gt ltz) (sf.extBut _ _ (Nat.ne_of_gt ltz) (Heap.get?_push_size _ rfl))
 have zz:hg.objs.size=he.objs.size+1:=by rw [sg.1,sf.1,Heap.size_push]
 rw [zs] at zg tG zz
 refine wpAny_pure ⟨_,rfl,wpAny_pure ?_⟩
 show Q (some (.ref he.objs.size)) _
 rw [zs]
 exact q hg zg (lift _ _ D.TOz oE) (gE1.at fun o e=>lift _ o D.i1z e) (gE2.at fun o e=>lift _ o D.i2z e) tG zz fun b o b1 b2 b3 b4 e=>lift b o b1 (kE b o b1 b2 b3 b4 e)
theorem b6d {z TI TO p1 p2 l1 l2:Addr} {c1 c2:Bool} {n1 n2:Nat} {xs ys:Array Value} {u1 u2:Value} {Q:Option Value→Shared→Prop} (hA:A.handled=none) (D:ZipApart z TI TO p1 p2 l1 l2)
  (iz:IsZip s.heap z TI TO .none) (iI:IsPair s.heap TI (.ref p1) (.ref p2)) (iO:IsPair s.heap TO u1 u2) (g1:SI c1 s.heap p1 l1 n1) (g2:SI c2 s.heap p2 l2 n2) (m1:SS c1 s.heap l1 xs) (m2:SS c2 s.heap l2 ys) (fin:xs[n1]? = none∨ys[n2]? = none)
  (q:∀ h',(∀ b o,b≠z→b≠TO→b≠p1→b≠p2→s.heap.get? b=some o→h'.get? b=some o)→Q none { s with heap:=h' }):wpAny (model prog w) A (pyNext (.ref z)) Q E s:=by
 have ty:s.TypeIs (.ref z) "zip" := ⟨_,iz,rfl⟩
 unfold pyNext
 have out:∀ (h':Heap) (e:Addr),(∀ b o,b≠z→b≠TO→b≠p1→b≠p2→s.heap.get? b=some o→h'.get? b=some o)→(∃ o,h'.get? e=some o∧o.cls = .type "StopIteration") →
   wpAny (model prog w) A (do if ← isInstance (.ref e) (.type "StopIteration") then pure none else throw (.ref e):Sem (Option Value)) Q E { s with heap:=h' }:=fun h' e k ⟨o,e1,e2⟩ =>
  wpAny_bind (wpAny_isInstance (T := "StopIteration") (b:=true) ⟨o,e1,e2⟩ isSubtype_stop (wpAny_pure (q h' k)))
 refine wpAny_bind (wpAny_attempt (wpAny_callSpecial?_slot (name:=Str.ofString "__next__") ty F.slot_zip_next (wpAny_call_entry F.slot_zip_next ty F.entry_zip_next ?_ (F.args_zip_next_1 _))))
 show wpAny _ _ (field (.ref z) 2 >>= _) _ _ _
 refine wpAny_bind (wpAny_field iz rfl (x:=.bool false) rfl ?_)
 show wpAny _ _ (field (.ref z) 3 >>= _) _ _ _
 refine wpAny_bind (wpAny_field iz rfl (x:=.ref TI) rfl (wpAny_bind (wpAny_seqItems iI rfl ?_)))
 show wpAny _ _ (Builtin.SmallTypes.ownedTupleIsFree (.ref z) >>= _) _ _ _
 refine wpAny_bind ?_; unfold Builtin.SmallTypes.ownedTupleIsFree
 refine wpAny_bind (wpAny_field iz rfl (x:=.none) rfl (wpAny_pure ?_)); simp only [if_true]
 refine wpAny_bind (wpAny_rule (wpAny_bind (wpAny_field iz rfl (x:=.ref TO) rfl (wpAny_bind (wpAny_setField_rec iz (by simp) fun ha za sa=>?_)))))
 replace za:IsZip ha z TI TO .ellipsis:=za
 refine wpAny_bind ?_; simp only [List.zipIdx_cons,List.zipIdx_nil,List.forIn_cons,List.forIn_nil]
 refine wpAny_bind (wpAny_bind (wpAny_onRaise ?_))
 show wpAny _ _ (Builtin.SmallTypes.nextOf (.ref p1) >>= _) _ _ _
 cases w1:xs[n1]? with
 | none =>
  refine wpAny_bind (a6z hA (g1.but sa.extBut D.i1z) (m1.but sa.extBut D.l1z) w1 fun hb e sb zz=>?_)
  obtain ⟨oe,oe1,oe2⟩:=zz
  have zb:IsZip hb z TI TO .ellipsis:=sb _ _ D.i1z.symm za
  have nz:e≠z:=fun y=>by subst y; rw [zb] at oe1; cases oe1; simp at oe2
  refine wpAny_setField_rec zb (by simp) fun hc _ sc=>out hc e (fun b o b1 _ b3 _ y=>sc.extBut _ _ b1 (sb _ _ b3 (sa.extBut _ _ b1 y))) ⟨oe,sc.extBut _ _ nz oe1,oe2⟩
 | some v1 =>
  have w2:ys[n2]? = none:=fin.resolve_left (by rw [w1]; exact fun y=>nomatch y)
  refine wpAny_bind (a00 (g1.but sa.extBut D.i1z) (m1.but sa.extBut D.l1z) w1 fun hb gb sb=>wpAny_pure ?_)
  have oB:IsPair hb TO u1 u2:=sb.extBut _ _ D.TOi1 (sa.extBut _ _ D.TOz iO)
  refine wpAny_bind (wpAny_seqItems oB rfl (wpAny_bind (wpAny_updateSeq_pair oB fun hc oC sc=>?_)))
  refine wpAny_bind (wpAny_letGo (wpAny_pure (wpAny_bind (wpAny_bind (wpAny_onRaise ?_)))))
  show wpAny _ _ (Builtin.SmallTypes.nextOf (.ref p2) >>= _) _ _ _
  refine wpAny_bind (a6z hA (((g2.but sa.extBut D.i2z).but sb.extBut D.i12.symm).but sc.extBut D.TOi2.symm) (((m2.but sa.extBut D.l2z).but sb.extBut D.l2i1).but sc.extBut D.l2TO) w2 fun hd e sd zz=>?_)
  obtain ⟨oe,oe1,oe2⟩:=zz
  have zd:IsZip hd z TI TO .ellipsis:=sd _ _ D.i2z.symm (sc.extBut _ _ D.TOz.symm (sb.extBut _ _ D.i1z.symm za))
  have nz:e≠z:=fun y=>by subst y; rw [zd] at oe1; cases oe1; simp at oe2
  refine wpAny_setField_rec zd (by simp) fun he _ se=>out he e (fun b o b1 b2 b3 b4 y=>se.extBut _ _ b1 (sd _ _ b4 (sc.extBut _ _ b2 (sb.extBut _ _ b3 (sa.extBut _ _ b1 y))))) ⟨oe,se.extBut _ _ nz oe1,oe2⟩
end
abbrev itO (k:Bool) (a:Addr):Obj:={ cls:=.type (if k then "list_iterator" else "tuple_iterator"),data:=.fields #[.ref a,.int 0 0] }
abbrev zA (k1:Bool) (h:Heap) (l1:Addr):Heap:=h.push (itO k1 l1)
abbrev zB (k1 k2:Bool) (h:Heap) (l1 l2:Addr):Heap:=(zA k1 h l1).push (itO k2 l2)
abbrev zC (k1 k2:Bool) (h:Heap) (l1 l2:Addr):Heap:=(zB k1 k2 h l1 l2).push { cls:=.type "tuple",data:=.seq #[.ref h.objs.size,.ref (zA k1 h l1).objs.size] }
abbrev zD (k1 k2:Bool) (h:Heap) (l1 l2:Addr):Heap:=(zC k1 k2 h l1 l2).push { cls:=.type "tuple",data:=.seq #[.none,.none] }
abbrev zE (k1 k2:Bool) (h:Heap) (l1 l2:Addr):Heap:=(zD k1 k2 h l1 l2).push { cls:=.type "zip",data:=.fields #[.none,.bool false,.bool false,.ref (zB k1 k2 h l1 l2).objs.size,.ref (zC k1 k2 h l1 l2).objs.size] }
set_option maxHeartbeats 2000000 in
theorem b6c (k1 k2:Bool) (l1 l2:Addr) (xs ys:Array Value) :
  Meets (Builtin.«zip.__new__» ⟨[.type "zip",.ref l1,.ref l2],[]⟩) (fun _ R s=>SS k1 s.heap l1 xs∧SS k2 s.heap l2 ys∧R (.ok (.ret (.ref (zD k1 k2 s.heap l1 l2).objs.size))) { s with heap:=zE k1 k2 s.heap l1 l2 }) :=
 .of_wp fun prog w A R s h=>by
  obtain ⟨hp,g,d,tk,os⟩:=s
  obtain ⟨ha,hb,h⟩:=h
  have hsub:=sub_zip
  cases k1 with
  | true =>
   have a1:Heap.IsList (Shared.heap ⟨hp,g,d,tk,os⟩) l1 xs:=ha
   cases k2 with
   | true =>
    have a2:Heap.IsList (Shared.heap ⟨hp.push { cls:=.type "list_iterator",data:=.fields #[.ref l1,.int 0 0] },g,d,tk,os⟩) l2 ys:=Heap.IsList.push hb _
    wp_walk using wpAny_pyIter_list a1,wpAny_pyIter_list a2
    exact ⟨_,rfl,h⟩
   | false =>
    have a2:Heap.IsTuple (Shared.heap ⟨hp.push { cls:=.type "list_iterator",data:=.fields #[.ref l1,.int 0 0] },g,d,tk,os⟩) l2 ys:=Heap.IsTuple.push hb _
    wp_walk using wpAny_pyIter_list a1,wpAny_pyIter_tuple a2
    exact ⟨_,rfl,h⟩
  | false =>
   have a1:Heap.IsTuple (Shared.heap ⟨hp,g,d,tk,os⟩) l1 xs:=ha
   cases k2 with
   | true =>
    have a2:Heap.IsList (Shared.heap ⟨hp.push { cls:=.type "tuple_iterator",data:=.fields #[.ref l1,.int 0 0] },g,d,tk,os⟩) l2 ys:=Heap.IsList.push hb _
    wp_walk using wpAny_pyIter_tuple a1,wpAny_pyIter_list a2
    exact ⟨_,rfl,h⟩
   | false =>
    have a2:Heap.IsTuple (Shared.heap ⟨hp.push { cls:=.type "tuple_iterator",data:=.fields #[.ref l1,.int 0 0] },g,d,tk,os⟩) l2 ys:=Heap.IsTuple.push hb _
    wp_walk using wpAny_pyIter_tuple a1,wpAny_pyIter_tuple a2
    exact ⟨_,rfl,h⟩
section
variable {prog:Program} {w:World} {A:Around} {E:Value→Shared→Prop} {s:Shared}
theorem b4W {k1 k2:Bool} {l1 l2:Addr} {xs ys:Array Value} {Q:Value→Shared→Prop} (ha:SS k1 s.heap l1 xs) (hb:SS k2 s.heap l2 ys)
  (q:∀ h',IsZip h' (s.heap.objs.size+4) (s.heap.objs.size+2) (s.heap.objs.size+3) .none→IsPair h' (s.heap.objs.size+2) (.ref s.heap.objs.size) (.ref (s.heap.objs.size+1))→IsPair h' (s.heap.objs.size+3) .none .none →
   SI k1 h' s.heap.objs.size l1 0→SI k2 h' (s.heap.objs.size+1) l2 0→h'.objs.size=s.heap.objs.size+5→(∀ b o,s.heap.get? b=some o→h'.get? b=some o)→Q (.ref (s.heap.objs.size+4)) { s with heap:=h' }) :
  wpAny (model prog w) A (call (.type "zip") [.ref l1,.ref l2]) Q E s:=by
 refine callType_new F.called_zip (by decide) (F.typeCall_zip_2 _ _) (F.newCall_zip_2 _ _) (fun obj=>F.args_object_init_3 obj _ _) F.entry_zip_new (b6c k1 k2 l1 l2 xs ys) ⟨ha,hb,?_⟩
 have s1:(zA k1 s.heap l1).objs.size=s.heap.objs.size+1:=Heap.size_push ..
 have s2:(zB k1 k2 s.heap l1 l2).objs.size=s.heap.objs.size+2:=(Heap.size_push ..).trans (by rw [s1])
 have s3:(zC k1 k2 s.heap l1 l2).objs.size=s.heap.objs.size+3:=(Heap.size_push ..).trans (by rw [s2])
 have s4:(zD k1 k2 s.heap l1 l2).objs.size=s.heap.objs.size+4:=(Heap.size_push ..).trans (by rw [s3])
 have s5:(zE k1 k2 s.heap l1 l2).objs.size=s.heap.objs.size+5:=(Heap.size_push ..).trans (by rw [s4])
 have o5:(zE k1 k2 s.heap l1 l2).get? (zD k1 k2 s.heap l1 l2).objs.size=some _:=Heap.get?_push_size _ rfl
 have up1:∀ b o,(zD k1 k2 s.heap l1 l2).get? b=some o→(zE k1 k2 s.heap l1 l2).get? b=some o:=fun b o e=>Heap.get?_push_of_some _ e
 have o4:(zE k1 k2 s.heap l1 l2).get? (zC k1 k2 s.heap l1 l2).objs.size=some _:=up1 _ _ (Heap.get?_push_size _ rfl)
 have up2:∀ b o,(zC k1 k2 s.heap l1 l2).get? b=some o→(zE k1 k2 s.heap l1 l2).get? b=some o:=fun b o e=>up1 b o (Heap.get?_push_of_some _ e)
 have o3:(zE k1 k2 s.heap l1 l2).get? (zB k1 k2 s.heap l1 l2).objs.size=some _:=up2 _ _ (Heap.get?_push_size _ rfl)
 have up3:∀ b o,(zB k1 k2 s.heap l1 l2).get? b=some o→(zE k1 k2 s.heap l1 l2).get? b=some o:=fun b o e=>up2 b o (Heap.get?_push_of_some _ e)
 have o2:(zE k1 k2 s.heap l1 l2).get? (zA k1 s.heap l1).objs.size=some (itO k2 l2):=up3 _ _ (Heap.get?_push_size _ rfl)
 have up4:∀ b o,(zA k1 s.heap l1).get? b=some o→(zE k1 k2 s.heap l1 l2).get? b=some o:=fun b o e=>up3 b o (Heap.get?_push_of_some _ e)
 have o1:(zE k1 k2 s.heap l1 l2).get? s.heap.objs.size=some (itO k1 l1):=up4 _ _ (Heap.get?_push_size _ rfl)
 have mk:∀ (k:Bool) (b a:Addr),(zE k1 k2 s.heap l1 l2).get? b=some (itO k a)→SI k (zE k1 k2 s.heap l1 l2) b a 0:=fun k b a e=>by cases k <;> exact ⟨_,e,rfl,rfl⟩
 show _∧_
 rw [s2,s3,s4] at o5
 rw [s1,s2] at o3
 rw [s3] at o4
 rw [s1] at o2
 rw [s4]
 exact ⟨⟨_,o5,rfl⟩,q _ o5 o3 o4 (mk _ _ _ o1) (mk _ _ _ o2) s5 fun b o e=>up4 b o (Heap.get?_push_of_some _ e)⟩
end
end L2
namespace L2
open PySem PySem.Spec PyProof.Rows
section
variable {X:Cx} {pins:List (Addr × Obj)} {σ:St} {H:Hp} {s:Shared} {h':Heap}
theorem Inv.turnedN {t':Nat} {ch:List Addr} (I:Inv X pins σ H s) (k:∀ b o,b∉ch→s.heap.get? b=some o→h'.get? b=some o) (hf:∀ b∈ch,X5 X pins H b):Inv X pins σ H { s with heap:=h',toks:=t' }:=by
 have nit:∀ b u,H b=some u→b∉ch:=fun b u e z=>by rw [(hf b z).1] at e; cases e
 refine I.step (g':=s.gens) (d':=s.drawn) (ch:=ch) (fun b hb=>?_) (fun b o _ _ hc e _=>k b o hc e) (fun b o _ _ hc e _=>⟨o.slots,k b o hc e⟩) (fun _ _ _ _ n=>n)
  (fun b o hc e=>⟨o,k b o hc e⟩) (fun _ _ e=>e) (fun _ _ _ e=>e) (fun b ps e=>⟨#[],by rw [e]; simp⟩) (fun m hm=>?_) (fun b u e=>?_) I.bare
 ·obtain ⟨_,q1,_,q3,q4,q5⟩:=hf b hb
  exact ⟨q3,q1,q4,q5⟩
 ·obtain ⟨o,es,ep,ho,r⟩:=hm
  exact ⟨o,es,ep,k _ o (fun z=>(hf _ z).2.1 rfl) ho,r⟩
 ·refine (I.hok b u e).stay (fun c v hc q=>k c v ?_ q) (fun _ q=>q) fun _ _ q=>q
  rcases hc with z | z
  ·rw [z]; exact nit b u e
  ·exact nit c _ z
end
def SqK (K:PySem.W.Frag) (k:Bool) (H:Hp) (a:Addr) (xs:List V):Prop:=if k=true then SqL K H a xs else SqT K H a xs
theorem Inv.sqk {X:Cx} {pins:List (Addr × Obj)} {σ:St} {H:Hp} {s:Shared} (I:Inv X pins σ H s) {k:Bool} {a:Addr} {xs:List V} (h:SqK X.K k H a xs):∃ its:List Value,j9 xs its∧SS k s.heap a its.toArray:=by
 cases k with
 | true =>
  obtain ⟨its,r,p,_⟩:=I.list (show SqL X.K H a xs from h)
  exact ⟨its,r,p.isList⟩
 | false =>
  obtain ⟨its,r,p,_⟩:=I.tuple (show SqT X.K H a xs from h)
  exact ⟨its,r,p⟩
theorem Inv.sqk_inj {X:Cx} {pins:List (Addr × Obj)} {σ:St} {H:Hp} {s:Shared} (I:Inv X pins σ H s) {k:Bool} {a:Addr} {xs ys:List V} (h:SqK X.K k H a xs) (h2:SqK X.K k H a ys):xs=ys:=by
 cases k with
 | true=>exact I.list_inj (show SqL X.K H a xs from h) (show SqL X.K H a ys from h2)
 | false=>exact I.tuple_inj (show SqT X.K H a xs from h) (show SqT X.K H a ys from h2)
def Itz (K:PySem.W.Frag) (k1 k2:Bool) (l1 l2:Addr):It :=
 ⟨fun i H=>∃ xs ys x y,SqK K k1 H l1 xs∧SqK K k2 H l2 ys∧xs[i]? = some x∧ys[i]? = some y,
  fun i H v H'=>∃ T x y,H T=none∧v = .ref T∧H'=upd H T (.tup [x,y])∧(∀ xs,SqK K k1 H l1 xs→xs[i]? = some x)∧∀ ys,SqK K k2 H l2 ys→ys[i]? = some y,
  fun i H=>∃ xs ys,SqK K k1 H l1 xs∧SqK K k2 H l2 ys∧(xs.length≤i∨ys.length≤i)⟩
def b97 (k1 k2:Bool) (z TI TO p1 p2 l1 l2:Addr) (i:Nat) (h:Heap):Prop:=IsZip h z TI TO .none∧IsPair h TI (.ref p1) (.ref p2)∧(∃ a b,IsPair h TO a b)∧SI k1 h p1 l1 i∧SI k2 h p2 l2 i
theorem b0q {P:Program} {w:World} {K:PySem.W.Frag} {elts:List Expr} {kx:Nat} {tp:Pos} {k1 k2:Bool} {z TI TO p1 p2 l1 l2:Addr} (D:ZipApart z TI TO p1 p2 l1 l2) :
  a6f P w K (.Tuple elts kx tp) (Itz K k1 k2 l1 l2) [z,TI,TO,p1,p2] z (b97 k1 k2 z TI TO p1 p2 l1 l2) where
 mem:=by simp
 obj:=fun i h ⟨iz,iI,⟨a,b,iO⟩,g1,g2⟩ c hc=>by
  simp only [List.mem_cons,List.not_mem_nil,or_false] at hc
  rcases hc with rfl | rfl | rfl | rfl | rfl
  ·exact ⟨_,iz,fun v e=>by cases e⟩
  ·exact ⟨_,iI,fun v e=>by cases e⟩
  ·exact ⟨_,iO,fun v e=>by cases e⟩
  ·exact g1.obj
  ·exact g2.obj
 keep:=fun i h h' ⟨iz,iI,⟨a,b,iO⟩,g1,g2⟩ k=>⟨k z (by simp) _ iz,k TI (by simp) _ iI,⟨a,b,k TO (by simp) _ iO⟩,g1.at fun o e=>k p1 (by simp) o e,g2.at fun o e=>k p2 (by simp) o e⟩
 item:=by
  intro X hP hw hK hc i pins s σ H E I hf st hg
  subst hP hw hK
  obtain ⟨iz,iI,⟨a,b,iO⟩,g1,g2⟩:=st
  obtain ⟨xs,ys,x,y,q1,q2,hx,hy⟩:=hg
  obtain ⟨is1,r1,m1⟩:=I.sqk q1
  obtain ⟨is2,r2,m2⟩:=I.sqk q2
  obtain ⟨u1,hu1,ru1⟩:=r1.get hx
  obtain ⟨u2,hu2,ru2⟩:=r2.get hy
  refine b2z D iz iI iO g1 g2 m1 m2 (v1:=u1) (v2:=u2) (by simpa using hu1) (by simpa using hu2) fun h' a1 a2 a3 a4 a5 a6 kk=>?_
  refine ⟨_,rfl,?_⟩
  refine wpAny_letOwnedTupleGo_zip (s:={ s with heap:=h' }) a1 fun h2 b1 b2=>?_
  have lt:∀ {c o},s.heap.get? c=some o→c≠s.heap.objs.size:=fun e=>Nat.ne_of_lt (Heap.lt_size e)
  have nz:s.heap.objs.size≠z:=Ne.symm (lt iz)
  have I1:Inv X pins σ (upd H s.heap.objs.size (.tup [x,y])) { s with heap:=s.heap.push { cls:=.type "tuple",data:=.seq #[u1,u2] },toks:=s.toks } :=
   I.laid (o:=.tup [x,y]) (fun b ob q=>Heap.get?_push_of_some _ q) (Nat.le_refl _) ⟨(show 2≤sizeLine by decide),[u1,u2],.cons ru1 (.cons ru2 .nil),IsTup.new _ _⟩
  have nfp:∀ c∈[z,TI,TO,p1,p2],c≠s.heap.objs.size:=fun c hc=>by
   simp only [List.mem_cons,List.not_mem_nil,or_false] at hc
   rcases hc with rfl | rfl | rfl | rfl | rfl
   ·exact lt iz
   ·exact lt iI
   ·exact lt iO
   ·obtain ⟨o,e,_⟩:=g1.obj; exact lt e
   ·obtain ⟨o,e,_⟩:=g2.obj; exact lt e
  have hf':∀ c∈[z,TI,TO,p1,p2],X5 X pins (upd H s.heap.objs.size (.tup [x,y])) c:=fun c hc=>by
   obtain ⟨f0,f1⟩:=hf c hc
   exact ⟨by rw [i7 (nfp c hc)]; exact f0,f1⟩
  have I2:Inv X pins σ (upd H s.heap.objs.size (.tup [x,y])) { s with heap:=h2,toks:=s.toks }:=by
   refine Inv.turnedN (s:={ s with heap:=s.heap.push { cls:=.type "tuple",data:=.seq #[u1,u2] },toks:=s.toks }) (t':=s.toks) (h':=h2) (ch:=[z,TI,TO,p1,p2]) I1 (fun c o hcn e=>?_) hf'
   simp only [List.mem_cons,List.not_mem_nil,or_false,not_or] at hcn
   obtain ⟨n1,n2,n3,n4,n5⟩:=hcn
   refine b2.extBut c o n1 ?_
   by_cases hcs:c=s.heap.objs.size
   ·subst hcs
    have e':(s.heap.push { cls:=.type "tuple",data:=.seq #[u1,u2] }).get? s.heap.objs.size=some o:=e
    rw [Heap.get?_push_size _ rfl] at e'
    cases e'
    exact a5
   ·have e':(s.heap.push { cls:=.type "tuple",data:=.seq #[u1,u2] }).get? c=some o:=e
    have hlt:c<s.heap.objs.size:=by
     have:=Heap.lt_size e'
     rw [Heap.size_push] at this
     exact Nat.lt_of_le_of_ne (Nat.le_of_lt_succ this) hcs
    have hold:s.heap.get? c=some o:=by
     have:∃ o',s.heap.get? c=some o':=by
      cases q:s.heap.get? c with
      | some o'=>exact ⟨o',rfl⟩
      | none=>exact absurd e' (by rw [Heap.get?_push_ne _ _ _ hcs]; rw [q]; exact fun z=>nomatch z)
     obtain ⟨o',ho'⟩:=this
     have:=Heap.get?_push_of_some { cls:=.type "tuple",data:=.seq #[u1,u2] } ho'
     rw [e'] at this
     cases this; exact ho'
    exact kk c o n1 n3 n4 n5 hold
  refine ⟨.ref s.heap.objs.size,_,I2,rfl,⟨_,x,y,I.hok.fresh (Nat.le_refl _),rfl,rfl,fun zs hz=>by rw [I.sqk_inj hz q1]; exact hx,fun zs hz=>by rw [I.sqk_inj hz q2]; exact hy⟩,?_,fun c hc=>(hf' c hc).1⟩
  have lift:∀ c o,c≠z→h'.get? c=some o→h2.get? c=some o:=fun c o n e=>b2.extBut c o n e
  exact ⟨b1,lift _ _ D.TIz (kk _ _ D.TIz D.TITO D.TIi1 D.TIi2 iI),⟨_,_,lift _ _ D.TOz a2⟩,a3.at fun o e=>lift _ o D.i1z e,a4.at fun o e=>lift _ o D.i2z e⟩
 done:=by
  intro X hP hw hK hc i pins s σ H E I hf st hg
  subst hP hw hK
  obtain ⟨iz,iI,⟨a,b,iO⟩,g1,g2⟩:=st
  obtain ⟨xs,ys,q1,q2,hx⟩:=hg
  obtain ⟨is1,r1,m1⟩:=I.sqk q1
  obtain ⟨is2,r2,m2⟩:=I.sqk q2
  have e1:=r1.length
  have e2:=r2.length
  refine b6d (I.ok.hd hc) D iz iI iO g1 g2 m1 m2 (hx.elim (fun h=>.inl (by simp; omega)) fun h=>.inr (by simp; omega)) fun h' kk=>⟨rfl,?_⟩
  refine I.turnedN (t':=s.toks) (ch:=[z,TI,TO,p1,p2]) (fun c o hcn e=>?_) hf
  simp only [List.mem_cons,List.not_mem_nil,or_false,not_or] at hcn
  obtain ⟨n1,n2,n3,n4,n5⟩:=hcn
  exact kk c o n1 n3 n4 n5 e
 self:=fun _ _ _ _ _ st h=>wpAny_pyIter_zip st.1 h
def c0F (K:PySem.W.Frag) (ta:TA):TI:=fun σ H R=>ta σ H fun vs H1=>∃ k1 k2 l1 l2,vs=[.ref l1,.ref l2]∧(∃ xs,SqK K k1 H1 l1 xs)∧(∃ ys,SqK K k2 H1 l2 ys)∧R (Itz K k1 k2 l1 l2) H1
theorem b6T {X:Cx} {elts:List Expr} {kx:Nat} {tp:Pos} {a b:Expr} {ta:TA} {p pos:Pos} (hg:Gl X "zip") (hm:X.mg "zip" = none) (ha:PA X [a,b] ta)
  (hs:starEach [a,b] X.env=[(false,eval a X.env),(false,eval b X.env)]:=by rfl) (hs2:starEach [b] X.env=[(false,eval b X.env)]:=by rfl):PI X (.Tuple elts kx tp) (.Call (.Name "zip" p) [a,b] [] pos) (c0F X.K ta):=by
 intro pins s σ H R I h
 refine Call_ (K0 I hg hm PyProof.Rows.boot_zip (PyProof.Rows.callWith_type1 (thn (ha pos pins s σ H _ I h) fun us s1 ⟨vs,H1,I1,r1,q1⟩=>?_) (by rw [hs,hs2]) (by rw [hs2]; rfl)))
 obtain ⟨k1,k2,l1,l2,e,⟨xs,q2⟩,⟨ys,q3⟩,q⟩:=q1
 subst e
 cases r1 with
 | cons r rr =>
  cases rr with
  | cons r' rr =>
   cases rr
   cases r
   cases r'
   obtain ⟨is1,_,m1⟩:=I1.sqk q2
   obtain ⟨is2,_,m2⟩:=I1.sqk q3
   have lt1:l1<s1.heap.objs.size:=by obtain ⟨o,e⟩:=m1.obj; exact Heap.lt_size e
   have lt2:l2<s1.heap.objs.size:=by obtain ⟨o,e⟩:=m2.obj; exact Heap.lt_size e
   refine b4W m1 m2 fun h' a1 a2 a3 a4 a5 a6 kk=>?_
   refine wpAny_pyIter_zip (s:={ s1 with heap:=h' }) a1 ?_
   have D:ZipApart (s1.heap.objs.size+4) (s1.heap.objs.size+2) (s1.heap.objs.size+3) s1.heap.objs.size (s1.heap.objs.size+1) l1 l2:=PyProof.Rows.zipApart_new lt1 lt2
   refine ⟨s1.heap.objs.size+4,_,_,_,H1,rfl,I1.kept (t':=s1.toks) kk,b0q D,⟨a1,a2,⟨_,_,a3⟩,a4,a5⟩,fun c hc=>?_,q⟩
   have hge:s1.heap.objs.size≤c:=by
    simp only [List.mem_cons,List.not_mem_nil,or_false] at hc
    rcases hc with rfl | rfl | rfl | rfl | rfl
    ·exact Nat.le_add_right _ _
    ·exact Nat.le_add_right _ _
    ·exact Nat.le_add_right _ _
    ·exact Nat.le_refl _
    ·exact Nat.le_add_right _ _
   exact I1.fpOk hge (I1.hok.fresh hge)
end L2
namespace L2
open PySem PySem.Spec PyProof.Rows
section
variable {X:Cx} {pins:List (Addr × Obj)} {σ:St} {H:Hp} {s:Shared} {p:Addr}
theorem Inv.swap {a b:HO} (I:Inv X pins σ H s) (hp:H p=some a) (ha:(∀ x,a ≠ .own x)∧∀ xs,a ≠ .tup xs) (h1:∀ xs,X.H₀ p≠some (.tup xs)) (h2:∀ o u,X.H₀ p≠some (.frz o u)) (h3:∀ ps,X.H₀ p≠some (.tbl ps))
  (new:B2 X.prog X.w H s.heap p b):Inv X pins σ (upd H p b) s:=by
 have ne:∀ {c:Addr},H c=none→c≠p:=fun {c} q z=>by subst z; rw [hp] at q; cases q
 have st:∀ {c:Addr} {o:HO},B2 X.prog X.w H s.heap c o→B2 X.prog X.w (upd H p b) s.heap c o:=fun {c o} x =>
  x.stay (fun _ _ _ q=>q) (fun d q=>by
   have:d≠p:=by intro z; subst z; rw [hp] at q; cases q; exact ha.1 _ rfl
   rw [i7 this]; exact q) fun d xs q=>by
   have:d≠p:=by intro z; subst z; rw [hp] at q; cases q; exact ha.2 _ rfl
   rw [i7 this]; exact q
 refine ⟨I.ok,I.os,I.bare,⟨I.base.keep,I.base.slot,fun c o e n x=>?_,I.base.there,fun c xs q=>?_,fun c o u q=>?_,fun c ps q=>?_⟩,I.loc,I.cell,?_,fun x c e=>?_,fun q hq=>?_,fun c o q=>?_,I.len⟩
 ·have:=I.base.free c o e n x
  rw [i7 (ne this)]; exact this
 ·have:c≠p:=by intro z; subst z; exact h1 xs q
  rw [i7 this]; exact I.base.tups c xs q
 ·have:c≠p:=by intro z; subst z; exact h2 o u q
  rw [i7 this]; exact I.base.frzs c o u q
 ·have:c≠p:=by intro z; subst z; exact h3 ps q
  rw [i7 this]; exact I.base.tbls c ps q
 ·rw [i7 (ne I.free)]; exact I.free
 ·rw [i7 (ne (I.freeC x c e))]; exact I.freeC x c e
 ·obtain ⟨a1,a2,a3,a4,a5⟩:=I.pin q hq
  exact ⟨a1,by rw [i7 (ne a2)]; exact a2,a3,a4,a5⟩
 ·by_cases z:c=p
  ·subst z; rw [j2] at q; cases q; exact st new
  ·rw [i7 z] at q; exact st (I.hok c o q)
theorem Inv.freeze {xs:List V} (I:Inv X pins σ H s) (hp:H p=some (.lst xs)):∃ o,Inv X pins σ (upd H p (.frz o (.lst xs))) s:=by
 have k:=I.hok p _ hp
 obtain ⟨z,its,n,r,e⟩:=id k
 refine ⟨_,I.swap hp ⟨fun _ q=>(nomatch q),fun _ q=>(nomatch q)⟩ (fun ys q=>?_) (fun o u q=>?_) (fun ps q=>?_) ⟨e,k⟩⟩
 ·rw [I.base.tups p ys q] at hp; cases hp
 ·rw [I.base.frzs p o u q] at hp; cases hp
 ·obtain ⟨more,q⟩:=I.base.tbls p ps q; rw [q] at hp; cases hp
structure b6a (X:Cx) (p:Addr):Prop where
 t:∀ xs,X.H₀ p≠some (.tup xs)
 f:∀ o u,X.H₀ p≠some (.frz o u)
 b:∀ ps,X.H₀ p≠some (.tbl ps)
theorem Inv.loose {xs:List V} (I:Inv X pins σ H s) (hp:H p=some (.lst xs)):b6a X p :=
 ⟨fun ys q=>(by rw [I.base.tups p ys q] at hp; cases hp),fun o u q=>(by rw [I.base.frzs p o u q] at hp; cases hp),fun ps q=>(by obtain ⟨more,q⟩:=I.base.tbls p ps q; rw [q] at hp; cases hp)⟩
def b84 (t:TE):TE:=fun σ H Q=>t σ H fun v H1=>∃ p xs,v = .ref p∧H1 p=some (.lst xs)∧∀ o,Q v (upd H1 p (.frz o (.lst xs)))
theorem W3 {x:Expr} {t:TE} (h:PE X x t):PE X x (b84 t):=fun pins s σ H Q I q =>
 wpAny_mono (h pins s σ H _ I q) (fun u s1 zz=>by
  obtain ⟨v,H1,I1,r,p,xs,e,hp,q1⟩:=zz
  obtain ⟨o,I2⟩:=I1.freeze hp
  exact ⟨v,_,I2,r,q1 o⟩) fun _ _ z=>z
theorem b6L {i:Nat} {y:Str} {pos':Pos} {x:Expr} {t:TE} (h:PU X i y pos' x t):PU X i y pos' x (b84 t):=fun pins s σ H Q I q =>
 wpAny_mono (h pins s σ H _ I q) (fun u s1 zz=>by
  obtain ⟨v,H1,I1,p,xs,e,hp,q1⟩:=zz
  obtain ⟨o,I2⟩:=I1.freeze hp
  exact ⟨v,_,I2,q1 o⟩) fun _ _ z=>z
def Z5 (p:Addr) (xs:List V):HO:=.ext fun h=>xs.length≤sizeLine∧∃ (its:List Value) (n:Nat),j9 xs its∧h.get? p=some { cls:=.type "list",data:=.seq its.toArray n }
theorem Inv.hide {xs:List V} (I:Inv X pins σ H s) (hp:H p=some (.lst xs)):Inv X pins σ (upd H p (Z5 p xs)) s:=by
 have k:=I.hok p _ hp
 have l:=I.loose hp
 obtain ⟨z,its,n,r,e⟩:=id k
 exact I.swap hp ⟨fun _ q=>(nomatch q),fun _ q=>(nomatch q)⟩ l.t l.f l.b ⟨⟨z,its,n,r,e⟩,⟨_,e⟩,fun h1 h2 ⟨z,its,n,r,e⟩ k=>⟨z,its,n,r,k _ e⟩⟩
theorem Inv.show' {xs:List V} (I:Inv X pins σ H s) (l:b6a X p) (hp:H p=some (Z5 p xs)):Inv X pins σ (upd H p (.lst xs)) s:=by
 obtain ⟨k,_,_⟩:=I.hok p _ hp
 exact I.swap hp ⟨fun _ q=>(nomatch q),fun _ q=>(nomatch q)⟩ l.t l.f l.b k
def b0v (p:Addr) (t:TE):TE:=fun σ H Q=>∃ xs,H p=some (.lst xs)∧t σ (upd H p (Z5 p xs)) fun v H1=>H1 p=some (Z5 p xs)∧Q v (upd H1 p (.lst xs))
theorem a04 {x:Expr} {t:TE} (h:PE X x t):PE X x fun σ H Q=>∃ p,b0v p t σ H Q:=fun pins s σ H Q I ⟨p,xs,hp,q⟩ =>
 wpAny_mono (h pins s σ _ _ (I.hide hp) q) (fun u s1 ⟨v,H1,I2,r,hp1,q1⟩=>⟨v,_,I2.show' (I.loose hp) hp1,r,q1⟩) fun _ _ z=>z
def b0t (p:Addr) (t:TT):TT:=fun σ H Q=>∃ xs,H p=some (.lst xs)∧t σ (upd H p (Z5 p xs)) fun v H1=>H1 p=some (Z5 p xs)∧Q v (upd H1 p (.lst xs))
theorem S1 {ifs:List Expr} {t:TT} (h:a0s X ifs t):a0s X ifs fun σ H Q=>∃ p,b0t p t σ H Q:=fun pins s σ H Q I ⟨p,xs,hp,q⟩ =>
 wpAny_mono (h pins s σ _ _ (I.hide hp) q) (fun u s1 ⟨H1,I2,hp1,q1⟩=>⟨_,I2.show' (I.loose hp) hp1,q1⟩) fun _ _ z=>z
def b0u (p:Addr) (g:TG):TG:=fun v σ H Q=>∃ xs,H p=some (.lst xs)∧g v σ (upd H p (Z5 p xs)) fun σ1 H1=>H1 p=some (Z5 p xs)∧Q σ1 (upd H1 p (.lst xs))
theorem a03 {tg:Expr} {g:TG} (h:PG X tg g):PG X tg fun v σ H Q=>∃ p,b0u p g v σ H Q:=fun pins s σ H v u Q I r ⟨p,xs,hp,q⟩ =>
 wpAny_mono (h pins s σ _ v u _ (I.hide hp) r q) (fun u s1 ⟨σ1,H1,I2,hp1,q1⟩=>⟨σ1,_,I2.show' (I.loose hp) hp1,q1⟩) fun _ _ z=>z
end
section
variable {X:Cx} {pos:Pos}
end
end L2
namespace L2
open PySem PySem.Spec PyProof.Rows
section
variable {X:Cx} {e:Expr} {te:TE} {st:Expr} {ts:TO} {pos p2:Pos}
end
end L2
namespace L2
open PySem PySem.Spec PyProof.Rows
theorem a9e:typeLookup (.type "list_reverseiterator") "__len__" = pure none:=by rw [typeLookup_type,builtinLookup_eq_fast]; kernel_rfl
theorem a66:typeLookup (.type "list_reverseiterator") "__length_hint__" = pure (some (.builtin "list_reverseiterator.__length_hint__")):=by rw [typeLookup_type,builtinLookup_eq_fast]; kernel_rfl
section
variable {prog:Program} {w:World} {A:Around} {E:Value→Shared→Prop} {s:Shared}
theorem b0M {it l:Addr} {i:Int} {Q:Bool→Shared→Prop} (hit:s.heap.IsRevIter it l i) (h:Q false s):wpAny (model prog w) A (Builtin.List.listLengthHint (.ref it)) Q E s:=by
 have hT:=hit.typeIs
 unfold Builtin.List.listLengthHint
 refine wpAny_bind (wpAny_specialOf hT a9e ?_)
 show wpAny _ A (specialOf (Value.ref it) (Str.ofString "__length_hint__") >>= _) Q E s
 refine wpAny_bind (wpAny_specialOf hT a66 ?_)
 generalize hv:("list_reverseiterator.__length_hint__" : String)=nm
 wp_delta
 rw [show splitId nm=some ("list_reverseiterator", "__length_hint__") by subst hv; decide +kernel]
 subst hv
 refine wpAny_bind (wpAny_isInstance (T := "list_reverseiterator") (b:=true) hT (by rw [isSubtype_type]; kernel_rfl) ?_)
 refine wpAny_ite_split (fun z=>absurd z (by decide)) (fun _=>?_)
 refine wpAny_ite_split (fun _=>?_) (fun z=>absurd (by decide +kernel) z)
 refine wpAny_ite_split (fun z=>absurd z (by decide)) (fun _=>?_)
 exact wpAny_pure h
abbrev a0Q (items:Array Value):Nat→Value→Prop:=fun j x=>items[items.size - 1 - j]? = some x
abbrev a6j (prog:Program) (w:World) (A:Around) (R:Result→Shared→Prop):Fin→Shared→Prop:=fun z s'=>match z with | .done f=>R (.ok f) s' | .again c'=>c'.quiet=true∧codeAny (model prog w) A c' R s'
theorem a6S {R:Result→Shared→Prop} {it l S:Addr} {items:Array Value} {c₀:Nat} (hh:A.handled=none) (hit:s.heap.IsRevIter it l ((items.size:Int) - 1)) (hl:s.heap.IsList l items) (hne:l≠it) (hi:S≠it) (hj:S≠l) (hz:items.size≤sizeLine)
  (hS:s.heap.get? S=some { cls:=.type "list",data:=.seq #[] c₀ })
  (fin:∀ h' tk acc c1,(∀ b o,b≠S→b≠it→s.heap.get? b=some o→h'.get? b=some o)→h'.get? S=some { cls:=.type "list",dict:=none,data:=.seq acc c1,slots:=#[] }→ItemsOf (a0Q items) acc items.size→R (.ok (.ret .none)) { s with heap:=h',toks:=tk }) :
  wpAny (model prog w) A.in1 (Builtin.List.listExtendWith (.ref S) (.ref it) .none) (a6j prog w A R) (fun e s'=>R (.error e) s') s:=by
 have V:=(Walks.listRev (prog:=prog) (w:=w) (A:=A.in1) hh it l hne items).toS
 have nf:S∉[it,l]:=fun q=>by
  rcases List.mem_cons.mp q with q | q
  ·exact hi q
  ·exact hj (List.mem_singleton.mp q)
 unfold Builtin.List.listExtendWith
 refine wpAny_bind (wpAny_typeOf hit.typeIs ?_)
 have n1:Builtin.List.listSameRef (.ref S) (.ref it)=false:=by simp [Builtin.List.listSameRef,hi]
 have n2:(Value.type "list_reverseiterator" == Value.type "list")=false:=by decide
 have n3:(Value.type "list_reverseiterator" == Value.type "tuple")=false:=by decide
 simp only [n1,n2,n3,Bool.or_false,Bool.false_eq_true,if_false]
 refine wpAny_bind (wpAny_pyIter_revIter hit (wpAny_bind (wpAny_holding (b0M hit ?_))))
 refine wpAny_ite_split (fun z=>absurd z (by decide +kernel)) (fun _=>?_)
 refine wpAny_pure ⟨plainId_quiet F.plain_extend_loop _,?_⟩
 have h0:((items.size:Int) - 1 - ((0:Nat):Int))=(items.size:Int) - 1:=by omega
 refine codeAny_extend_loopS V hz S nf .none items.size 0 s #[] c₀ rfl (Nat.zero_le _) ⟨Nat.zero_le _,by rw [h0]; exact hit,hl⟩ hS (ItemsOf.nil _) fun s2 acc c1 mv g1 g2=>?_
 rw [Moved.eq_with mv]
 exact fin s2.heap s2.toks acc c1 (fun b o q1 q2 q3=>mv.heap b o (fun q=>(List.mem_cons.mp q).elim q1 fun q'=>q2 (List.mem_singleton.mp q')) q3) g1 g2
theorem b0L {R:Result→Shared→Prop} {it l S:Addr} {items:Array Value} (hh:A.handled=none) (hit:s.heap.IsRevIter it l ((items.size:Int) - 1)) (hl:s.heap.IsList l items) (hne:l≠it) (hi:S≠it) (hj:S≠l) (hz:items.size≤sizeLine)
  (hS:s.heap.get? S=some { cls:=.type "list",data:=.seq #[] })
  (fin:∀ h' tk acc c1,(∀ b o,b≠S→b≠it→s.heap.get? b=some o→h'.get? b=some o)→h'.get? S=some { cls:=.type "list",dict:=none,data:=.seq acc c1,slots:=#[] }→ItemsOf (a0Q items) acc items.size→R (.ok (.ret .none)) { s with heap:=h',toks:=tk }) :
  wpAny (model prog w) A.in1 (Builtin.«list.__init__» ⟨[.ref S,.ref it],[]⟩) (a6j prog w A R) (fun e s'=>R (.error e) s') s:=by
 show wpAny _ A.in1 (Builtin.List.listItems (.ref S) >>= fun was=>Builtin.List.listUpdate (.ref S) (fun _=>#[]) >>= fun _=>letGo was.toList.reverse >>= fun _=>Builtin.List.listExtendWith (.ref S) (.ref it) .none) (a6j prog w A R) (fun e s'=>R (.error e) s') s
 unfold Builtin.List.listItems
 refine wpAny_bind (wpAny_bind (wpAny_seqItems hS rfl (wpAny_pure ?_)))
 show wpAny _ A.in1 (updateSeq S (fun _=>#[]) >>= fun _=>letGo (#[]:Array Value).toList.reverse >>= fun _=>Builtin.List.listExtendWith (.ref S) (.ref it) .none) (a6j prog w A R) (fun e s'=>R (.error e) s') s
 refine wpAny_bind (wpAny_updateSeq hS rfl (wpAny_bind (wpAny_letGo ?_)))
 have g:=Heap.get?_update_self (Obj.mapSeq fun _=>(#[]:Array Value)) hS rfl
 have oth:∀ b o,b≠S→s.heap.get? b=some o→(s.heap.update S (Obj.mapSeq fun _=>(#[]:Array Value))).get? b=some o:=fun b o q1 q2=>(Heap.get?_update_other _ _ (Ne.symm q1)).trans q2
 refine a6S hh (hit.at fun o e=>oth it o (Ne.symm hi) e) (hl.at fun o e=>oth l o (Ne.symm hj) e) hne hi hj hz g fun h' tk acc c1 q1 q2 q3=>?_
 exact fin h' tk acc c1 (fun b o b1 b2 e=>q1 b o b1 b2 (oth b o b1 e)) q2 q3
theorem a2J {it l:Addr} {items:Array Value} {Q:Value→Shared→Prop} (hh:A.handled=none) (hit:s.heap.IsRevIter it l ((items.size:Int) - 1)) (hl:s.heap.IsList l items) (hne:l≠it) (hz:items.size≤sizeLine)
  (fin:∀ h' tk acc c1,(∀ b o,b≠it→s.heap.get? b=some o→h'.get? b=some o)→h'.get? s.heap.objs.size=some { cls:=.type "list",dict:=none,data:=.seq acc c1,slots:=#[] }→ItemsOf (a0Q items) acc items.size→Q (.ref s.heap.objs.size) { s with heap:=h',toks:=tk }) :
  wpAny (model prog w) A (call (.type "list") [.ref it]) Q E s:=by
 obtain ⟨oi,hoi,_⟩:=id hit
 obtain ⟨ol,hol,_⟩:=id hl
 have i1:s.heap.objs.size≠it:=Nat.ne_of_gt (Heap.lt_size hoi)
 have i2:s.heap.objs.size≠l:=Nat.ne_of_gt (Heap.lt_size hol)
 let h1:=s.heap.push { cls:=.type "list",data:=.seq #[] }
 have up:∀ b o,s.heap.get? b=some o→h1.get? b=some o:=fun b o e=>Heap.get?_push_of_some _ e
 have gS:h1.get? s.heap.objs.size=some { cls:=.type "list",data:=.seq #[] }:=Heap.get?_push_size _ rfl
 refine callType_codes (Q₁:=fun x s1=>x = .ref s.heap.objs.size∧s1 = { s with heap:=h1 }) F.called_list (F.typeCall_list_1 _) F.entry_list_init (code_list_new _ ⟨rfl,rfl⟩) ?_
 rintro x s1 ⟨rfl,rfl⟩
 refine ⟨⟨_,gS,rfl⟩,F.args_list_init_2 _ _,b0L (A:=A.in1) hh (hit.at fun o e=>up it o e) (hl.at fun o e=>up l o e) hne i1 i2 hz gS fun h' tk acc c1 q1 q2 q3=>?_⟩
 exact ⟨rfl,fin h' tk acc c1 (fun b o b1 e=>q1 b o (Nat.ne_of_lt (Heap.lt_size e)) b1 (up b o e)) q2 q3⟩
end
section
variable {X:Cx}
def a15 (H:Hp) (a:Addr):Hp:=fun b=>if b=a then none else H b
theorem a14 {H:Hp} {a b:Addr} (h:b≠a):a15 H a b=H b:=if_neg h
theorem a13 {H:Hp} {a:Addr}:a15 H a a=none:=if_pos rfl
theorem a87 {items:Array Value} {acc:Array Value} (h:ItemsOf (a0Q items) acc items.size):acc.toList=items.toList.reverse:=by
 obtain ⟨h1,h2⟩:=h
 apply List.ext_getElem
 ·rw [List.length_reverse,Array.length_toList,Array.length_toList,h1]
 ·intro j g1 g2
  rw [Array.length_toList] at g1
  have e:=h2 j acc[j] (Array.getElem?_eq_getElem g1)
  have e2:items.size - 1 - j<items.size:=by omega
  have e3:items[items.size - 1 - j]? = some (items[items.size - 1 - j]'e2):=Array.getElem?_eq_getElem e2
  have e4:items[items.size - 1 - j]'e2=acc[j]:=Option.some.inj (e3.symm.trans e)
  rw [List.getElem_reverse,Array.getElem_toList,Array.getElem_toList,← e4]
  congr 1
end
theorem j9.take':∀ {xs:List V} {us:List Value} (k:Nat),j9 xs us→j9 (xs.take k) (us.take k)
 | _,_,0,_=>.nil
 | _,_,_+1,.nil=>.nil
 | _,_,k+1,.cons r t=>.cons r (j9.take' k t)
theorem j9.drop':∀ {xs:List V} {us:List Value} (k:Nat),j9 xs us→j9 (xs.drop k) (us.drop k)
 | _,_,0,h=>h
 | _,_,_+1,.nil=>.nil
 | _,_,k+1,.cons _ t=>j9.drop' k t
section
variable {X:Cx}
def a79:V→List V→Hp→VK→Prop:=fun x vs H Q=>∃ l xs y,∃ k:Nat,x = .ref l∧vs=[.int (k:Int),y]∧H l=some (.lst xs)∧k≤xs.length∧xs.length<sizeLine∧Q .non (upd H l (.lst (xs.take k++y :: xs.drop k)))
theorem a9b:MtM X "list.insert" a79:=by
 intro pins s σ H x vs v us Q I rx rv h
 obtain ⟨l,xs,y,k,rfl,rfl,hH,hk,hz,q⟩:=h
 cases rx
 ·obtain ⟨u1,u,rfl,⟨t,rfl⟩,ru⟩:=b0o rv
  obtain ⟨z,its,n,r,hl,e⟩:=I.lstM hH
  have hlen:=r.length
  have hb:(-(2 ^ 63:Int)≤(k:Int))∧(k:Int)<2 ^ 63:=by
   have h1:k<sizeLine:=Nat.lt_of_le_of_lt hk hz
   have h2:(sizeLine:Int)≤2 ^ 62:=by decide +kernel
   omega
  have hf:Builtin.List.listFitsIndex (k:Int)=true:=by
   unfold Builtin.List.listFitsIndex
   rw [decide_eq_true hb.1,decide_eq_true hb.2]; rfl
  generalize hx:(k:Int)=x at *
  refine call_meets F.slot_list_insert ⟨_,e,rfl⟩ F.entry_list_insert (F.args_list_insert_3 _ _ _) (AutoSeq1.list_insert_list_int_val_1 l its.toArray n x t u (by rw [hf]; exact Bool.false_ne_true) (by rw [List.size_toArray]; omega)) ⟨e,?_⟩
  refine ⟨.non,_,I.lset (its':=its.take k++u :: its.drop k) hH e ?_ ((r.take' k).append (.cons ru (r.drop' k))) ?_,rfl,q⟩
  ·have ek:(if x<0 then (x+(its.toArray.size:Int)).toNat else min x.toNat its.toArray.size)=k:=by
    rw [if_neg (by omega),List.size_toArray]; omega
   show (its.toArray.extract 0 (if x<0 then (x+(its.toArray.size:Int)).toNat else min x.toNat its.toArray.size)).push u++its.toArray.extract (if x<0 then (x+(its.toArray.size:Int)).toNat else min x.toNat its.toArray.size)=_
   rw [ek]
   apply Array.toList_inj.mp
   simp
   exact List.take_of_length_le (by rw [List.length_drop]; exact Nat.le_refl _)
  ·rw [List.length_append,List.length_take,List.length_cons,List.length_drop]; omega
end
section
variable {prog:Program} {w:World} {A:Around} {E:Value→Shared→Prop} {s:Shared}
end
section
variable {prog:Program} {w:World} {A:Around} {E:Value→Shared→Prop} {s:Shared}
end
section
variable {X:Cx}
end
end L2
namespace L2
open PySem PySem.Spec PyProof.Rows
theorem a8Z:typeLookup (.type "reversed") "__len__" = pure none:=by rw [typeLookup_type,builtinLookup_eq_fast]; kernel_rfl
theorem a6q:typeLookup (.type "reversed") "__length_hint__" = pure (some (.builtin "reversed.__length_hint__")):=by rw [typeLookup_type,builtinLookup_eq_fast]; kernel_rfl
theorem a8Y:typeLookup (.type "tuple") "__reversed__" = pure none:=by rw [typeLookup_type,builtinLookup_eq_fast]; kernel_rfl
theorem a6V:Manifest.owners.lookup (String.ofList ['d','e','s','r','e','v','e','r'].reverse)=some Manifest.sig_reversed:=by kernel_rfl
theorem D4:Slot "reversed" "__next__" "reversed.__next__" := .of (owner := "reversed") (n := "__next__")
 (by rw [typeLookup_type,builtinLookup_eq_fast]; kernel_rfl) (by decide +kernel) (by decide +kernel) (by decide +kernel)
 (by first | exact .inl (by decide +kernel) | exact .inr (by decide +kernel)) (by rw [isSubtype_type]; kernel_rfl)
theorem a0M:entryFor table "reversed.__next__" = some Builtin.«reversed.__next__»:=entryFor_of_tree (by kernel_rfl)
theorem a0P (a:Value):argsOk "reversed.__next__" ⟨[a],[]⟩:=by
 unfold argsOk
 rw [signature?_of (id := "reversed.__next__") (n:=['_','_','t','x','e','n','_','_']) (o:=['d','e','s','r','e','v','e','r']) (by kernel_rfl) a6V]
 kernel_rfl
theorem a0E:Slot "reversed" "__iter__" "reversed.__iter__" := .of (owner := "reversed") (n := "__iter__")
 (by rw [typeLookup_type,builtinLookup_eq_fast]; kernel_rfl) (by decide +kernel) (by decide +kernel) (by decide +kernel)
 (by first | exact .inl (by decide +kernel) | exact .inr (by decide +kernel)) (by rw [isSubtype_type]; kernel_rfl)
theorem a59 (a:Value):argsOk "reversed.__iter__" ⟨[a],[]⟩:=by
 unfold argsOk
 rw [signature?_of (id := "reversed.__iter__") (n:=['_','_','r','e','t','i','_','_']) (o:=['d','e','s','r','e','v','e','r']) (by kernel_rfl) a6V]
 kernel_rfl
theorem a5V:entryFor table "reversed.__iter__" = some Builtin.«dict_keyiterator.__iter__»:=entryFor_alias (id' := "dict_keyiterator.__iter__")
 (by kernel_rfl) (by first | rfl | decide +kernel | (unfold String.splitOn; simp +decide [String.splitOnAux])) (by decide +kernel) (by kernel_rfl)
theorem a0F:Slot "reversed" "__length_hint__" "reversed.__length_hint__" := .of (owner := "reversed") (n := "__length_hint__")
 (by rw [typeLookup_type,builtinLookup_eq_fast]; kernel_rfl) (by decide +kernel) (by decide +kernel) (by decide +kernel)
 (by first | exact .inl (by decide +kernel) | exact .inr (by decide +kernel)) (by rw [isSubtype_type]; kernel_rfl)
theorem a5W:entryFor table "reversed.__length_hint__" = some Builtin.«reversed.__length_hint__»:=entryFor_of_tree (by kernel_rfl)
theorem a6a (a:Value):argsOk "reversed.__length_hint__" ⟨[a],[]⟩:=by
 unfold argsOk
 rw [signature?_of (id := "reversed.__length_hint__") (n:=['_','_','t','n','i','h','_','h','t','g','n','e','l','_','_']) (o:=['d','e','s','r','e','v','e','r']) (by kernel_rfl) a6V]
 kernel_rfl
theorem a5k:Slot "reversed" "__init__" "object.__init__" := .of (owner := "object") (n := "__init__")
 (by rw [typeLookup_type,builtinLookup_eq_fast]; kernel_rfl) (by decide +kernel) (by decide +kernel) (by decide +kernel)
 (by first | exact .inl (by decide +kernel) | exact .inr (by decide +kernel)) (by rw [isSubtype_type]; kernel_rfl)
theorem a7n:TypeCalled "reversed" "reversed.__new__" "object.__init__" :=
 ⟨by decide +kernel,by decide +kernel,⟨_,_,F.mro_reversed⟩,F.made_reversed,by decide +kernel,F.sub_reversed_self,a5k⟩
def a3D (l:Addr) (i:Int):Obj:={ cls:=.type "reversed",data:=.fields #[.ref l,rawInt i] }
def J2 (h:Heap) (a l:Addr) (i:Int):Prop:=∃ o,h.get? a=some o∧o.cls = .type "reversed" ∧ o.data = .fields #[.ref l,rawInt i]
theorem J2.typeIs {s:Shared} {a l:Addr} {i:Int} (x:J2 s.heap a l i):s.TypeIs (.ref a) "reversed" := let ⟨o,ho,hc,_⟩:=x; ⟨o,ho,hc⟩
theorem J2.at {h h':Heap} {a l:Addr} {i:Int} (x:J2 h a l i) (e:∀ o,h.get? a=some o→h'.get? a=some o):J2 h' a l i:=let ⟨o,ho,r⟩:=x; ⟨o,e _ ho,r⟩
theorem a9d (l:Addr) (items:Array Value) (hz:(items.size:Int)<2 ^ 63):Meets (Builtin.«reversed.__new__» ⟨[.type "reversed",.ref l],[]⟩) (fun _ R s=>IsTup s.heap l items∧∀ t,R (.ok (.ret (.ref s.heap.objs.size))) { s with heap:=s.heap.push (a3D l ((items.size:Int) - 1)),toks:=t }) :=
 .of_wp fun prog w A R s h=>by
  obtain ⟨ht,h⟩:=h
  unfold Builtin.«reversed.__new__»
  refine wpAny_bind (wpAny_of_eq (newClass_reversed _) ?_)
  try dsimp only
  refine wpAny_bind (wpAny_of_eq (a:=()) (by first | rfl | kernel_rfl) ?_)
  refine wpAny_bind (wpAny_of_eq (a:=()) (by first | rfl | kernel_rfl) ?_)
  try dsimp only
  refine wpAny_bind (wpAny_specialOf ht.typeIs a8Y ?_)
  try dsimp only
  refine wpAny_bind ?_
  wp_delta
  refine wpAny_bind (wpAny_isInstance (T := "tuple") (b:=false) ht.typeIs (by rw [isSubtype_type]; kernel_rfl) ?_)
  try dsimp only
  rw [if_neg (by decide)]
  refine wpAny_bind (wpAny_specialOf ht.typeIs slot_tuple_getitem.lookup ?_)
  try dsimp only
  rw [if_pos (by decide +kernel)]
  refine wpAny_pure ?_
  rw [if_neg (by decide)]
  refine wpAny_bind (len_tuple ht hz ?_)
  refine wpAny_bind (wpAny_of_eq (a:=some (items.size:Int)) rfl ?_)
  try dsimp only
  show wpAny _ _ (newObj (.type "reversed") (.fields #[Value.ref l,rawInt ((items.size:Int) - 1)]) >>= _) _ _ _
  refine wpAny_bind (wpAny_newObj_type ?_)
  exact wpAny_pure ⟨_,rfl,h _⟩
section
variable {prog:Program} {w:World} {A:Around} {E:Value→Shared→Prop} {s:Shared}
theorem b2d {l:Addr} {items:Array Value} {Q:Value→Shared→Prop} (ht:IsTup s.heap l items) (hz:(items.size:Int)<2 ^ 63)
  (h:∀ t,Q (.ref s.heap.objs.size) { s with heap:=s.heap.push (a3D l ((items.size:Int) - 1)),toks:=t }):wpAny (model prog w) A (call (.type "reversed") [.ref l]) Q E s:=by
 refine callType_new a7n (by decide) (F.typeCall_reversed_1 _) (F.newCall_reversed_1 _) (fun obj=>F.args_object_init_2 obj _) F.entry_reversed_new (a9d l items hz) ⟨ht,fun t=>?_⟩
 exact ⟨⟨_,Heap.get?_push_size _ rfl,rfl⟩,h t⟩
theorem b1c {it l:Addr} {i:Nat} {items:Array Value} {x:Value} {Q:Option Value→Shared→Prop} (hit:J2 s.heap it l (i:Int)) (hl:IsTup s.heap l items) (hz:(items.size:Int)<2 ^ 63) (hx:items[i]? = some x)
  (hQ:∀ h' t,J2 h' it l ((i:Int) - 1)→Heap.SameBut it s.heap h'→Q (some x) { s with heap:=h',toks:=t }):wpAny (model prog w) A (pyNext (.ref it)) Q E s:=by
 obtain ⟨o,ho,hc,hd⟩:=id hit
 have hi:i<items.size:=(Array.getElem?_eq_some_iff.mp hx).1
 unfold pyNext
 refine wpAny_bind (wpAny_attempt (wpAny_callSpecial?_slot (name:=Str.ofString "__next__") hit.typeIs D4
  (wpAny_call_entry D4 hit.typeIs a0M ?_ (a0P _))))
 unfold Builtin.«reversed.__next__»
 refine wpAny_bind (wpAny_of_eq (a:=(Value.ref it,[])) rfl ?_)
 try dsimp only
 refine wpAny_bind (wpAny_field ho hd (x:=.ref l) rfl ?_)
 refine wpAny_bind (wpAny_field ho hd (x:=rawInt (i:Int)) rfl ?_)
 show wpAny _ _ (if (i:Int)<0 then _ else _) _ _ s
 rw [if_neg (by omega)]
 refine wpAny_bind (wpAny_specialOf hl.typeIs slot_tuple_getitem.lookup ?_)
 try dsimp only
 rw [if_neg (by decide)]
 refine wpAny_bind (wpAny_mkInt ?_)
 refine wpAny_bind (wpAny_attempt (getItem_tuple (j:=i) (x:=x) hl (by omega) (by omega) ?_ hx ?_))
 ·unfold seqIndex?
  rw [if_neg (show ¬ (i:Int)<0 by omega),if_pos (by rw [Bool.and_eq_true,decide_eq_true_eq,decide_eq_true_eq]; omega)]
  rfl
 ·try dsimp only
  refine wpAny_bind (wpAny_field ho hd (x:=rawInt (i:Int)) rfl ?_)
  try dsimp only
  refine wpAny_bind (wpAny_setField ho hd (by simp) ?_)
  refine wpAny_pure ⟨x,rfl,wpAny_pure (hQ _ _ ?_ (Heap.SameBut.update ..))⟩
  exact ⟨_,Heap.get?_update_self _ ho (Obj.isFreed_of_fields (Obj.data_mapFields hd _)),(Obj.cls_mapFields ..).trans hc,by
   rw [Obj.data_mapFields hd]; simp⟩
theorem b0x {it l:Addr} {Q:Option Value→Shared→Prop} (hh:A.handled=none) (hit:J2 s.heap it l (-1))
  (hQ:∀ h',Heap.ExtBut it s.heap h'→Q none { s with heap:=h' }):wpAny (model prog w) A (pyNext (.ref it)) Q E s:=by
 obtain ⟨o,ho,hc,hd⟩:=id hit
 unfold pyNext
 refine wpAny_bind (wpAny_attempt (wpAny_callSpecial?_slot (name:=Str.ofString "__next__") hit.typeIs D4
  (wpAny_call_entry D4 hit.typeIs a0M ?_ (a0P _))))
 unfold Builtin.«reversed.__next__»
 refine wpAny_bind (wpAny_of_eq (a:=(Value.ref it,[])) rfl ?_)
 try dsimp only
 refine wpAny_bind (wpAny_field ho hd (x:=.ref l) rfl ?_)
 refine wpAny_bind (wpAny_field ho hd (x:=rawInt (-1)) rfl ?_)
 show wpAny _ _ (if (-1:Int)<0 then _ else _) _ _ s
 rw [if_pos (by decide)]
 refine wpAny_bind (wpAny_rule ?_)
 refine wpAny_bind ?_
 wp_delta
 refine wpAny_bind (wpAny_setField ho hd (by simp) ?_)
 have g1:=Heap.get?_update_self (Obj.mapFields (·.setIfInBounds 1 (rawInt (-1)))) ho (Obj.isFreed_of_fields (Obj.data_mapFields hd _))
 have d1:(Obj.mapFields (·.setIfInBounds 1 (rawInt (-1))) o).data = .fields (#[Value.ref l,rawInt (-1)].setIfInBounds 1 (rawInt (-1))):=Obj.data_mapFields hd _
 refine wpAny_setField g1 d1 (by simp) ?_
 refine wpAny_bind ?_
 show wpAny _ _ (newExc (.type "StopIteration") [] >>= _) _ _ _
 refine wpAny_bind ?_
 simp only [newExc,newTuple]
 refine wpAny_bind (wpAny_newObj_type ?_ (by size_fits))
 refine wpAny_bind (m:=firstArgMember _ _) (wpAny_of_eq (a:=Value.none) (by first | rfl | (simp only [firstArgMember]; rfl)) ?_)
 refine wpAny_newObj_type ?_ (by size_fits)
 simp only [raiseNew]
 refine wpAny_bind (wpAny_handled ?_)
 rw [show A.in1.handled=none from hh]
 refine wpAny_bind (wpAny_pure (wpAny_throw ?_))
 refine wpAny_bind (wpAny_isInstance (T := "StopIteration") (b:=true) ⟨_,Heap.get?_push_size _ rfl,rfl⟩ isSubtype_stop ?_)
 refine wpAny_pure (hQ _ ((Heap.ExtBut.push (Heap.ExtBut.push ?_ _) _)))
 exact fun b o hb e=>by
  rw [Heap.get?_update_other _ _ (Ne.symm hb),Heap.get?_update_other _ _ (Ne.symm hb)]; exact e
theorem a5T {it l:Addr} {i:Int} {Q:Value→Shared→Prop} (hit:J2 s.heap it l i) (h:Q (.ref it) s):wpAny (model prog w) A (pyIter (.ref it)) Q E s:=by
 refine wpAny_pyIter_slot hit.typeIs a0E (wpAny_call_entry a0E hit.typeIs a5V ?_ (a59 _))
 show wpAny _ _ (ret (.ref it)) _ _ s
 exact wpAny_pure ⟨_,rfl, "reversed",_,hit.typeIs,D4.lookup,h⟩
theorem b1s {it l:Addr} {items:Array Value} {Q:Bool→Shared→Prop} (hit:J2 s.heap it l ((items.size:Int) - 1)) (hl:IsTup s.heap l items) (hz:items.size≤sizeLine) (h:∀ t,Q (decide ((items.size:Int)≠0)) { s with toks:=t }):wpAny (model prog w) A (Builtin.List.listLengthHint (.ref it)) Q E s:=by
 have hT:=hit.typeIs
 obtain ⟨o,ho,hc,hd⟩:=id hit
 unfold Builtin.List.listLengthHint
 refine wpAny_bind (wpAny_specialOf hT a8Z ?_)
 show wpAny _ A (specialOf (Value.ref it) (Str.ofString "__length_hint__") >>= _) Q E s
 refine wpAny_bind (wpAny_specialOf hT a6q ?_)
 generalize hv:("reversed.__length_hint__" : String)=nm
 wp_delta
 rw [show splitId nm=some ("reversed", "__length_hint__") by subst hv; decide +kernel]
 subst hv
 refine wpAny_bind (wpAny_isInstance (T := "reversed") (b:=true) hT (by rw [isSubtype_type]; kernel_rfl) ?_)
 refine wpAny_ite_split (fun z=>absurd z (by decide)) (fun _=>?_)
 have hzl:(items.size:Int)<2 ^ 63:=by
  have:sizeLine<2 ^ 62:=by decide
  omega
 refine wpAny_ite_split (fun z=>absurd z (by decide +kernel)) (fun _=>?_)
 refine wpAny_bind (wpAny_rule ?_)
 refine wpAny_bind (wpAny_of_eq (a0F.bind _) ?_)
 try dsimp only
 refine wpAny_bind (wpAny_attempt (wpAny_call_entry a0F hT a5W ?_ (a6a _)))
 unfold Builtin.«reversed.__length_hint__»
 refine wpAny_bind (wpAny_of_eq (a:=Value.ref it) rfl ?_)
 try dsimp only
 refine wpAny_bind (wpAny_field ho hd (x:=.ref l) rfl ?_)
 try dsimp only
 rw [if_neg (show ¬ (Value.ref l == Value.none)=true from Bool.false_ne_true)]
 refine wpAny_bind (len_tuple hl hzl ?_)
 refine wpAny_bind (wpAny_of_eq (a:=some (items.size:Int)) rfl ?_)
 try dsimp only
 refine wpAny_bind (wpAny_field ho hd (x:=rawInt ((items.size:Int) - 1)) rfl ?_)
 try dsimp only
 show wpAny _ _ (if (items.size:Int)<((items.size:Int) - 1)+1 then _ else _) _ _ _
 rw [if_neg (by omega)]
 refine wpAny_bind (wpAny_mkInt (wpAny_pure ⟨_,rfl,?_⟩))
 refine wpAny_bind (wpAny_of_eq (a:=some ((items.size:Int) - 1+1)) rfl ?_)
 try dsimp only
 rw [show (items.size:Int) - 1+1=items.size by omega]
 rw [if_neg (by
  unfold Builtin.List.listFitsIndex
  rw [Bool.not_eq_true',decide_eq_true (show -(2 ^ 63:Int)≤(items.size:Int) by omega),decide_eq_true hzl]; decide),if_neg (by omega),if_neg (by
  unfold Builtin.List.listTooLong
  rw [decide_eq_true_eq,Int.toNat_natCast]; omega)]
 refine wpAny_pure ?_
 have e:((items.size:Int) != 0)=decide ((items.size:Int)≠0):=by
  by_cases z:(items.size:Int)=0
  ·rw [z]; rfl
  ·rw [decide_eq_true z,bne_iff_ne.mpr z]
 rw [e]
 exact h _
theorem a8Q (hh:A.handled=none) (I l:Addr) (hne:l≠I) (items:Array Value) (hz:(items.size:Int)<2 ^ 63) :
  Walks prog w A I [I,l] [I] items.size (fun i v=>items[items.size - 1 - i]? = some v) (fun i h=>i≤items.size∧J2 h I l ((items.size:Int) - 1 - (i:Int))∧IsTup h l items) where
 sub:=fun b hb=>by simp at hb; simp [hb]
 frame:=fun _ _ _ x hk=>⟨x.1,x.2.1.at fun o e=>hk I (by simp) o e,let ⟨o,ho,r⟩:=x.2.2; ⟨o,hk l (by simp) o ho,r⟩⟩
 item:=fun i s Q E hi x hQ=>by
  have e:(items.size:Int) - 1 - (i:Int)=((items.size - 1 - i:Nat):Int):=by omega
  have hit:=x.2.1
  rw [e] at hit
  have hx:items[items.size - 1 - i]? = some (items[items.size - 1 - i]'(by omega)):=Array.getElem?_eq_getElem (by omega)
  refine b1c hit x.2.2 hz hx fun h' t hit' hs'=>?_
  have e2:((items.size - 1 - i:Nat):Int) - 1=(items.size:Int) - 1 - ((i+1:Nat):Int):=by omega
  rw [e2] at hit'
  exact hQ _ h' t hx ⟨hi,hit',let ⟨o,ho,r⟩:=x.2.2; ⟨o,(hs'.2 l hne).trans ho,r⟩⟩ fun b o hb eo=>hs'.extBut b o (fun h=>hb (by simp [h])) eo
 done:=fun s Q E x hQ=>by
  have e:(items.size:Int) - 1 - (items.size:Int) = -1:=by omega
  have hit:=x.2.1
  rw [e] at hit
  exact b0x hh hit fun h' he'=>hQ h' s.toks fun b o hb eo=>he' b o (fun h=>hb (by simp [h])) eo
 self:=fun _ _ _ _ x hQ=>a5T x.2.1 hQ
theorem a6r {R:Result→Shared→Prop} {it l S:Addr} {items:Array Value} {c₀:Nat} (hh:A.handled=none) (hit:J2 s.heap it l ((items.size:Int) - 1)) (hl:IsTup s.heap l items) (hne:l≠it) (hi:S≠it) (hj:S≠l) (hz:items.size≤sizeLine)
  (hS:s.heap.get? S=some { cls:=.type "list",data:=.seq #[] c₀ })
  (fin:∀ h' tk acc c1,(∀ b o,b≠S→b≠it→s.heap.get? b=some o→h'.get? b=some o)→h'.get? S=some { cls:=.type "list",dict:=none,data:=.seq acc c1,slots:=#[] }→ItemsOf (a0Q items) acc items.size→R (.ok (.ret .none)) { s with heap:=h',toks:=tk }) :
  wpAny (model prog w) A.in1 (Builtin.List.listExtendWith (.ref S) (.ref it) .none) (a6j prog w A R) (fun e s'=>R (.error e) s') s:=by
 have hz2:(items.size:Int)<2 ^ 63:=by
  have:sizeLine<2 ^ 62:=by decide
  omega
 have V:=(a8Q (prog:=prog) (w:=w) (A:=A.in1) hh it l hne items hz2).toS
 have nf:S∉[it,l]:=fun q=>by
  rcases List.mem_cons.mp q with q | q
  ·exact hi q
  ·exact hj (List.mem_singleton.mp q)
 unfold Builtin.List.listExtendWith
 refine wpAny_bind (wpAny_typeOf hit.typeIs ?_)
 have n1:Builtin.List.listSameRef (.ref S) (.ref it)=false:=by simp [Builtin.List.listSameRef,hi]
 have n2:(Value.type "reversed" == Value.type "list")=false:=by decide
 have n3:(Value.type "reversed" == Value.type "tuple")=false:=by decide
 simp only [n1,n2,n3,Bool.or_false,Bool.false_eq_true,if_false]
 refine wpAny_bind (a5T hit (wpAny_bind (wpAny_holding (b1s hit hl hz fun t=>?_))))
 have h0:((items.size:Int) - 1 - ((0:Nat):Int))=(items.size:Int) - 1:=by omega
 refine wpAny_ite_split (fun _=>?_) (fun _=>?_)
 ·refine wpAny_bind (wpAny_rule ?_)
  refine wpAny_bind ?_
  show wpAny _ A.in1 (updateSeq S (·.push .none) >>= fun _=>updateSeq S (·.pop)) _ _ _
  refine wpAny_bind (wpAny_updateSeq hS rfl ?_)
  have g2:=Heap.get?_update_self (Obj.mapSeq (·.push Value.none)) hS rfl
  refine wpAny_updateSeq (hz:=by seq_fits) g2 rfl ?_
  have g3:=Heap.get?_update_self (Obj.mapSeq (·.pop)) g2 rfl
  have oth:∀ b o,b≠S→s.heap.get? b=some o→((s.heap.update S (Obj.mapSeq (·.push Value.none))).update S (Obj.mapSeq (·.pop))).get? b=some o :=
   fun b o q1 q2=>(Heap.get?_update_other _ _ (Ne.symm q1)).trans ((Heap.get?_update_other _ _ (Ne.symm q1)).trans q2)
  refine wpAny_pure ⟨plainId_quiet F.plain_extend_loop _,?_⟩
  refine codeAny_extend_loopS V hz S nf .none items.size 0 _ #[] _ rfl (Nat.zero_le _) ⟨Nat.zero_le _,by rw [h0]; exact hit.at fun o e=>oth it o (Ne.symm hi) e,let ⟨o,ho,r⟩:=hl; ⟨o,oth l o (Ne.symm hj) ho,r⟩⟩ g3 (ItemsOf.nil _) fun s2 acc c1 mv g1 g2=>?_
  rw [Moved.eq_with mv]
  exact fin s2.heap s2.toks acc c1 (fun b o q1 q2 q3=>mv.heap b o (fun q=>(List.mem_cons.mp q).elim q1 fun q'=>q2 (List.mem_singleton.mp q')) (oth b o q1 q3)) g1 g2
 ·refine wpAny_pure ⟨plainId_quiet F.plain_extend_loop _,?_⟩
  refine codeAny_extend_loopS V hz S nf .none items.size 0 _ #[] c₀ rfl (Nat.zero_le _) ⟨Nat.zero_le _,by rw [h0]; exact hit,hl⟩ hS (ItemsOf.nil _) fun s2 acc c1 mv g1 g2=>?_
  rw [Moved.eq_with mv]
  exact fin s2.heap s2.toks acc c1 (fun b o q1 q2 q3=>mv.heap b o (fun q=>(List.mem_cons.mp q).elim q1 fun q'=>q2 (List.mem_singleton.mp q')) q3) g1 g2
theorem b0s {R:Result→Shared→Prop} {it l S:Addr} {items:Array Value} (hh:A.handled=none) (hit:J2 s.heap it l ((items.size:Int) - 1)) (hl:IsTup s.heap l items) (hne:l≠it) (hi:S≠it) (hj:S≠l) (hz:items.size≤sizeLine)
  (hS:s.heap.get? S=some { cls:=.type "list",data:=.seq #[] })
  (fin:∀ h' tk acc c1,(∀ b o,b≠S→b≠it→s.heap.get? b=some o→h'.get? b=some o)→h'.get? S=some { cls:=.type "list",dict:=none,data:=.seq acc c1,slots:=#[] }→ItemsOf (a0Q items) acc items.size→R (.ok (.ret .none)) { s with heap:=h',toks:=tk }) :
  wpAny (model prog w) A.in1 (Builtin.«list.__init__» ⟨[.ref S,.ref it],[]⟩) (a6j prog w A R) (fun e s'=>R (.error e) s') s:=by
 show wpAny _ A.in1 (Builtin.List.listItems (.ref S) >>= fun was=>Builtin.List.listUpdate (.ref S) (fun _=>#[]) >>= fun _=>letGo was.toList.reverse >>= fun _=>Builtin.List.listExtendWith (.ref S) (.ref it) .none) (a6j prog w A R) (fun e s'=>R (.error e) s') s
 unfold Builtin.List.listItems
 refine wpAny_bind (wpAny_bind (wpAny_seqItems hS rfl (wpAny_pure ?_)))
 show wpAny _ A.in1 (updateSeq S (fun _=>#[]) >>= fun _=>letGo (#[]:Array Value).toList.reverse >>= fun _=>Builtin.List.listExtendWith (.ref S) (.ref it) .none) (a6j prog w A R) (fun e s'=>R (.error e) s') s
 refine wpAny_bind (wpAny_updateSeq hS rfl (wpAny_bind (wpAny_letGo ?_)))
 have g:=Heap.get?_update_self (Obj.mapSeq fun _=>(#[]:Array Value)) hS rfl
 have oth:∀ b o,b≠S→s.heap.get? b=some o→(s.heap.update S (Obj.mapSeq fun _=>(#[]:Array Value))).get? b=some o:=fun b o q1 q2=>(Heap.get?_update_other _ _ (Ne.symm q1)).trans q2
 refine a6r hh (hit.at fun o e=>oth it o (Ne.symm hi) e) (let ⟨o,ho,r⟩:=hl; ⟨o,oth l o (Ne.symm hj) ho,r⟩) hne hi hj hz g fun h' tk acc c1 q1 q2 q3=>?_
 exact fin h' tk acc c1 (fun b o b1 b2 e=>q1 b o b1 b2 (oth b o b1 e)) q2 q3
theorem a2I {it l:Addr} {items:Array Value} {Q:Value→Shared→Prop} (hh:A.handled=none) (hit:J2 s.heap it l ((items.size:Int) - 1)) (hl:IsTup s.heap l items) (hne:l≠it) (hz:items.size≤sizeLine)
  (fin:∀ h' tk acc c1,(∀ b o,b≠it→s.heap.get? b=some o→h'.get? b=some o)→h'.get? s.heap.objs.size=some { cls:=.type "list",dict:=none,data:=.seq acc c1,slots:=#[] }→ItemsOf (a0Q items) acc items.size→Q (.ref s.heap.objs.size) { s with heap:=h',toks:=tk }) :
  wpAny (model prog w) A (call (.type "list") [.ref it]) Q E s:=by
 obtain ⟨oi,hoi,_⟩:=id hit
 obtain ⟨ol,hol,_⟩:=id hl
 have i1:s.heap.objs.size≠it:=Nat.ne_of_gt (Heap.lt_size hoi)
 have i2:s.heap.objs.size≠l:=Nat.ne_of_gt (Heap.lt_size hol)
 let h1:=s.heap.push { cls:=.type "list",data:=.seq #[] }
 have up:∀ b o,s.heap.get? b=some o→h1.get? b=some o:=fun b o e=>Heap.get?_push_of_some _ e
 have gS:h1.get? s.heap.objs.size=some { cls:=.type "list",data:=.seq #[] }:=Heap.get?_push_size _ rfl
 refine callType_codes (Q₁:=fun x s1=>x = .ref s.heap.objs.size∧s1 = { s with heap:=h1 }) F.called_list (F.typeCall_list_1 _) F.entry_list_init (code_list_new _ ⟨rfl,rfl⟩) ?_
 rintro x s1 ⟨rfl,rfl⟩
 refine ⟨⟨_,gS,rfl⟩,F.args_list_init_2 _ _,b0s (A:=A.in1) hh (hit.at fun o e=>up it o e) (let ⟨o,ho,r⟩:=hl; ⟨o,up l o ho,r⟩) hne i1 i2 hz gS fun h' tk acc c1 q1 q2 q3=>?_⟩
 exact ⟨rfl,fin h' tk acc c1 (fun b o b1 e=>q1 b o (Nat.ne_of_lt (Heap.lt_size e)) b1 (up b o e)) q2 q3⟩
end
end L2
namespace L2
open PySem PySem.Spec PyProof.Rows
section
variable {X:Cx}
def rvO (k:Bool) (a:Addr) (n:Nat):Obj:=if k=true then revObj a ((n:Int) - 1) else a3D a ((n:Int) - 1)
def rvφ (k:Bool) (p a:Addr) (n:Nat):Heap→Prop:=fun h=>h.get? p=some (rvO k a n)
theorem a4z:A7 X (.type "reversed") (fun xs H Q=>∃ a k ys,xs=[.ref a]∧SqK X.K k H a ys∧∀ p,H p=none→p≠a→X.s₀.heap.objs.size≤p→Q (.ref p) (upd H p (.ext (rvφ k p a ys.length)))):=by
 intro pins s σ H xs us Q I rv h
 obtain ⟨a,k,ys,rfl,sq,q⟩:=h
 obtain ⟨u,rfl,ru⟩:=rv.one
 cases ru
 cases k with
 | true =>
  obtain ⟨its,r,ht,hz⟩:=I.list sq
  have hl:=r.length
  obtain ⟨o,ho,_⟩:=id ht.isList
  refine call_reversed_list ht.isList ⟨.ref s.heap.objs.size,_,I.laid (t':=s.toks) (o:=.ext (rvφ true s.heap.objs.size a ys.length)) (fun b u e=>Heap.get?_push_of_some _ e) (Nat.le_refl _) ?_,rfl,q _ I.fresh (Nat.ne_of_gt (Heap.lt_size ho)) I.sz⟩
  have e:(s.heap.push (revObj a ((its.toArray.size:Int) - 1))).get? s.heap.objs.size=some (rvO true a ys.length):=by
   rw [Heap.get?_push_size _ rfl,hl]; rfl
  exact ⟨e,⟨_,e⟩,fun h1 h2 z k=>k _ z⟩
 | false =>
  obtain ⟨its,r,ht,hz⟩:=I.tuple sq
  have hl:=r.length
  obtain ⟨o,ho,_⟩:=id ht
  have hz2:((its.toArray.size:Nat):Int)<2 ^ 63:=by
   have:sizeLine<2 ^ 62:=by decide
   rw [List.size_toArray]
   omega
  refine b2d ht hz2 fun t=>⟨.ref s.heap.objs.size,_,I.laid (t':=t) (o:=.ext (rvφ false s.heap.objs.size a ys.length)) (fun b u e=>Heap.get?_push_of_some _ e) (Nat.le_refl _) ?_,rfl,q _ I.fresh (Nat.ne_of_gt (Heap.lt_size ho)) I.sz⟩
  have e:(s.heap.push (a3D a ((its.toArray.size:Int) - 1))).get? s.heap.objs.size=some (rvO false a ys.length):=by
   rw [Heap.get?_push_size _ rfl,hl]; rfl
  exact ⟨e,⟨_,e⟩,fun h1 h2 z k=>k _ z⟩
theorem a51 (hc:X.calm=true):A7 X (.type "list") (fun xs H Q=>∃ it a k ys,xs=[.ref it]∧H it=some (.ext (rvφ k it a ys.length))∧SqK X.K k H a ys∧a≠it∧X.s₀.heap.objs.size≤it∧∀ p,H p=none→Q (.ref p) (a15 (upd H p (.lst ys.reverse)) it)):=by
 intro pins s σ H xs us Q I rv h
 obtain ⟨it,a,k,ys,rfl,hit,sq,hne,hge,q⟩:=h
 obtain ⟨u,rfl,ru⟩:=rv.one
 cases ru
 have hob:s.heap.get? it=some (rvO k a ys.length):=(I.hok it _ hit).1
 obtain ⟨its,r,hz,hcall⟩:∃ its:List Value,j9 ys its∧ys.length≤sizeLine∧∀ (A:Around) (E:Value→Shared→Prop) (Q:Value→Shared→Prop),A.handled=none→(∀ h' tk acc c1,(∀ b o,b≠it→s.heap.get? b=some o→h'.get? b=some o)→h'.get? s.heap.objs.size=some { cls:=.type "list",dict:=none,data:=.seq acc c1,slots:=#[] }→ItemsOf (a0Q its.toArray) acc its.toArray.size→Q (.ref s.heap.objs.size) { s with heap:=h',toks:=tk })→wpAny (model X.prog X.w) A (call (.type "list") [.ref it]) Q E s:=by
  cases k with
  | true =>
   obtain ⟨its,r,ht,hz⟩:=I.list sq
   have hsz:its.toArray.size=ys.length:=by rw [List.size_toArray]; exact r.length.symm
   exact ⟨its,r,hz,fun A E Q hA fin=>a2J hA ⟨_,hob,rfl,by rw [hsz]; rfl⟩ ht.isList hne (by rw [hsz]; exact hz) fin⟩
  | false =>
   obtain ⟨its,r,ht,hz⟩:=I.tuple sq
   have hsz:its.toArray.size=ys.length:=by rw [List.size_toArray]; exact r.length.symm
   exact ⟨its,r,hz,fun A E Q hA fin=>a2I hA ⟨_,hob,rfl,by rw [hsz]; rfl⟩ ht hne (by rw [hsz]; exact hz) fin⟩
 refine hcall _ _ _ (I.ok.hd hc) fun h' tk acc c1 k1 k2 k3=>?_
 have hacc:=a87 k3
 have fr:=I.fresh
 have ex:∀ {b o},s.heap.get? b=some o→b≠s.heap.objs.size:=fun e=>Nat.ne_of_lt (Heap.lt_size e)
 have old:∀ {b u},H b=some u→b≠s.heap.objs.size:=fun {b u} e z=>by rw [z,fr] at e; cases e
 have nit:∀ {b u},H b=some u→u ≠ .ext (rvφ k it a ys.length)→b≠it:=fun {b u} e n z=>by
  rw [z,hit] at e; exact n (Option.some.inj e).symm
 have here:∀ {b},b≠s.heap.objs.size→b≠it→a15 (upd H s.heap.objs.size (.lst ys.reverse)) it b=H b:=fun b1 b2=>by rw [a14 b2,i7 b1]
 have un:Un (frs X.stack) [it] H (a15 (upd H s.heap.objs.size (.lst ys.reverse)) it) s.heap h':={
  keep:=fun b o e n _ hx=>k1 b o (fun z=>hx (by simp [z])) e
  slot:=fun b o e n _ hx=>⟨o.slots,k1 b o (fun z=>hx (by simp [z])) e⟩
  free:=fun b o e n hx=>by rw [here (ex e) (fun z=>hx (by simp [z]))]; exact n
  there:=fun b o e hx=>⟨o,k1 b o (fun z=>hx (by simp [z])) e⟩
  tups:=fun b xs e=>by rw [here (old e) (nit e (by simp))]; exact e
  frzs:=fun b o u e=>by rw [here (old e) (nit e (by simp))]; exact e
  tbls:=fun b ps e=>⟨#[],by rw [here (old e) (nit e (by simp))]; simpa using e⟩ }
 have ok:HOk X.prog X.w (a15 (upd H s.heap.objs.size (.lst ys.reverse)) it) h':=fun b u e=>by
  have b2:b≠it:=fun z=>by rw [z,a13] at e; cases e
  rw [a14 b2] at e
  by_cases b1:b=s.heap.objs.size
  ·subst b1
   rw [j2] at e
   cases e
   exact ⟨by rw [List.length_reverse]; exact hz,acc.toList,c1,by rw [hacc]; exact r.reverse,k2⟩
  ·rw [i7 b1] at e
   refine (I.hok b u e).stay (fun c v hcv z=>k1 c v ?_ z) (fun c z=>?_) fun c xs z=>?_
   ·rcases hcv with z2 | z2
    ·rw [z2]; exact b2
    ·exact nit z2 (by simp)
   ·rw [here (old z) (nit z (by simp))]; exact z
   ·rw [here (old z) (nit z (by simp))]; exact z
 refine ⟨.ref s.heap.objs.size,_,I.call (g':=s.gens) (d':=s.drawn) (t':=tk) un ok I.bare (fun b hb=>?_),rfl,q _ fr⟩
 obtain rfl:b=it:=by simpa using hb
 refine ⟨.inr hge,fun z=>?_,fun x c e z=>?_,fun p hp z=>?_⟩
 ·rw [z,I.free] at hit; cases hit
 ·rw [← z,I.freeC x c e] at hit; cases hit
 ·rw [← z,(I.pin p hp).2.1] at hit; cases hit
end
end L2
namespace L2
open PySem PySem.Spec PyProof.Rows
section
variable {prog:Program} {w:World} {A:Around} {E:Value→Shared→Prop} {s:Shared}
theorem a8h {h h2:Heap} {a b:Addr} {its:Array Value} (x:h.IsList a its) (hs:Heap.ExtBut b h h2) (ne:a≠b):h2.IsList a its:=x.at fun o e=>hs a o ne e
theorem a5Z {it l:Addr} {its:Array Value} (hne:l≠it):∀ (n i:Nat) (s:Shared) (Q:List Value→Shared→Prop),s.heap.IsListIter it l i→s.heap.IsList l its→i+n≤its.size →
  (∀ h2,h2.IsListIter it l (i+n)→Heap.SameBut it s.heap h2→Q ((its.toList.drop i).take n) { s with heap:=h2 })→wpAny (model prog w) A (draw (.ref it) n) Q E s
 | 0,i,s,Q,hi,_,_,k=>by
  show wpAny _ _ (pure []) Q E s
  refine wpAny_pure ?_
  simpa using k s.heap hi (Heap.SameBut.refl ..)
 | n+1,i,s,Q,hi,hl,hle,k=>by
  have lt:i<its.size:=by omega
  show wpAny _ _ (pyNext (.ref it) >>= _) Q E s
  refine wpAny_bind (wpAny_pyNext_list_item hi hl (x:=its[i]) (by simp [lt]) fun h1 hi1 hs1=>wpAny_bind (wpAny_holding ?_))
  refine a5Z hne n (i+1) _ _ hi1 (a8h hl hs1.extBut hne) (by omega) fun h2 hi2 hs2=>wpAny_pure ?_
  have e:its.toList.drop i=its[i] :: its.toList.drop (i+1):=by simp [List.drop_eq_getElem_cons,lt]
  have z:=k h2 (by rw [show i+(n+1)=i+1+n by omega]; exact hi2) (hs1.trans hs2)
  rw [e,List.take_succ_cons] at z
  exact z
theorem a6m {l:Addr} {its:Array Value} {ts:List (Bool × (Value→Sem Unit))} {Q:Unit→Shared→Prop} (hh:A.handled=none) (hl:s.heap.IsList l its) (hn:ts.length=its.size) (hst:ts.findIdx? (·.1)=none)
  (k:∀ h2,Heap.ExtBut s.heap.objs.size s.heap h2→wpAny (model prog w) A (assignInOrder (ts.map (·.2)) its.toList) Q E { s with heap:=h2 }):wpAny (model prog w) A (unpack (.ref l) ts) Q E s:=by
 have ne:l≠s.heap.objs.size:=by obtain ⟨o,ho,_⟩:=hl; exact Nat.ne_of_lt (Heap.lt_size ho)
 unfold unpack
 rw [hn,hst]
 refine wpAny_bind (wpAny_holding ?_)
 unfold unpackItems
 refine wpAny_bind ?_
 unfold notIterableAtAll
 refine wpAny_bind (wpAny_specialOf hl.typeIs F.slot_list_iter.lookup (wpAny_pure ?_))
 simp only [Bool.false_eq_true,if_false]
 refine wpAny_bind (wpAny_holding (wpAny_pyIter_list hl ?_))
 refine wpAny_bind (wpAny_holding (a5Z ne its.size 0 _ _ ⟨_,Heap.get?_push_size _ rfl,rfl,rfl⟩ (hl.at fun o e=>Heap.get?_push_of_some _ e) (by omega) fun h1 hi1 hs1=>?_))
 have all:List.take its.size (List.drop 0 its.toList)=its.toList:=by
  rw [List.drop_zero]; exact List.take_of_length_le (by simp)
 rw [all,if_neg (by simp)]
 have hl1:h1.IsList l its:=a8h (hl.at fun o e=>Heap.get?_push_of_some _ e) hs1.extBut ne
 refine wpAny_bind (wpAny_holding (wpAny_pyNext_list_end hh hi1 hl1 (by simp) fun h2 he=>?_))
 simp only [Option.isSome_none,Bool.false_eq_true,if_false]
 exact wpAny_pure (k h2 fun b o hb e=>he b o hb (hs1.extBut b o hb (Heap.get?_push_of_some _ e)))
end
section
variable {X:Cx} {pos:Pos}
def b7w (K:PySem.W.Frag) (n:Nat) (t:TGs):TG:=fun v σ H Q=>∃ a xs,v = .ref a∧SqL K H a xs∧xs.length=n∧t xs σ H Q
theorem b3R {es:List Expr} {k:Nat} {t:TGs} {n:Nat} (hc:X.calm=true) (h:PGs X es t) (hn:(assignEach es X.env).length=n:=by rfl)
  (hst:(assignEach es X.env).findIdx? (·.1)=none:=by rfl):PG X (.Tuple es k pos) (b7w X.K n t):=by
 intro pins s σ H v u Q I r hw
 obtain ⟨a,xs,e1,hq,hl,hw⟩:=hw
 subst e1
 cases r
 obtain ⟨its,rv,ht,hz⟩:=I.list hq
 rw [assign_Tuple]
 refine wpAny_bind (wpAny_standAt (a6m (I.ok.hd hc) ht.isList (by simp [hn,← hl,rv.length]) hst fun h2 hx=>?_))
 have I1:Inv X pins σ H { s with heap:=h2 }:=I.kept (t':=s.toks) fun b o e=>hx b o (Nat.ne_of_lt (Heap.lt_size e)) e
 exact h pins _ σ H xs _ Q I1 (by simpa using rv) hw
end
end L2
namespace L2
open PySem PySem.Spec PyProof.Rows
def Itb (K:PySem.W.Frag) (a:Addr) (n:Nat):It :=
 ⟨fun i H=>i<n∧∃ xs x,SqL K H a xs∧xs[n - 1 - i]? = some x,fun i H x H'=>H'=H∧∀ xs,SqL K H a xs→xs[n - 1 - i]? = some x,fun i _=>n≤i⟩
theorem a8W {P:Program} {w:World} {K:PySem.W.Frag} {tg:Expr} (a it:Addr) (n:Nat):a6f P w K tg (Itb K a n) [it] it (fun i h=>i≤n∧h.IsRevIter it a ((n:Int) - 1 - (i:Int))) where
 mem:=by simp
 obj:=fun i h st b hb=>by
  obtain rfl:b=it:=by simpa using hb
  obtain ⟨_,o,e,c,d⟩:=st
  exact ⟨o,e,fun v z=>by rw [d] at z; cases z⟩
 keep:=fun i h h2 st k=>⟨st.1,st.2.at fun o e=>k it (by simp) o e⟩
 item:=by
  intro X hP hw hK hc i pins s σ H E I hf st hg
  subst hP hw hK
  obtain ⟨hi,xs,x,hq,hx⟩:=hg
  obtain ⟨its,rv,p,hz⟩:=I.list hq
  obtain ⟨u,hu,ru⟩:=rv.get hx
  obtain ⟨f0,f1,f2,f3,f4,f5⟩:=hf it (by simp)
  have e:(n:Int) - 1 - (i:Int)=((n - 1 - i:Nat):Int):=by omega
  have st2:=st.2
  rw [e] at st2
  refine wpAny_pyNext_rev_item st2 p.isList (x:=u) (by simpa using hu) fun h2 st3 sb=>?_
  have I1:Inv X pins σ H { s with heap:=h2 }:=I.turned (t':=s.toks) (fun b o hb e=>(sb.2 b hb).trans e) f0 f1 f3 f4 f5
  have e2:((n - 1 - i:Nat):Int) - 1=(n:Int) - 1 - ((i+1:Nat):Int):=by omega
  rw [e2] at st3
  obtain ⟨o,e3,c,d⟩:=id st3
  exact ⟨u,rfl,a8v (s:={ s with heap:=h2 }) e3 c d (by decide) ⟨x,H,I1,ru,⟨rfl,fun ys hy=>by rw [I.list_inj hy hq]; exact hx⟩,⟨by omega,st3⟩,fun b hb=>(hf b hb).1⟩⟩
 done:=by
  intro X hP hw hK hc i pins s σ H E I hf st hg
  subst hP hw hK
  have hi:i=n:=Nat.le_antisymm st.1 hg
  obtain ⟨f0,f1,f2,f3,f4,f5⟩:=hf it (by simp)
  have st2:=st.2
  rw [hi,show (n:Int) - 1 - (n:Int) = -1 by omega] at st2
  refine wpAny_pyNext_rev_end (I.ok.hd hc) st2 fun h2 he=>?_
  exact ⟨rfl,I.turned (t':=s.toks) (fun b o hb e=>he b o hb e) f0 f1 f3 f4 f5⟩
 self:=fun A i s Q E st k=>wpAny_pyIter_revIter st.2 k
section
variable {X:Cx}
def b9C (K:PySem.W.Frag) (ta:TA):TI:=fun σ H R=>ta σ H fun vs H1=>∃ a xs,vs=[.ref a]∧SqL K H1 a xs∧R (Itb K a xs.length) H1
theorem b3P {tg e:Expr} {ta:TA} {p pos:Pos} (hg:Gl X "reversed") (hm:X.mg "reversed" = none) (hv:bootBuiltins "reversed" = some (.type "reversed")) (ha:PA X [e] ta)
  (hs:starEach [e] X.env=[(false,eval e X.env)]:=by rfl):PI X tg (.Call (.Name "reversed" p) [e] [] pos) (b9C X.K ta):=by
 intro pins s σ H R I h
 refine Call_ (K0 I hg hm hv (PyProof.Rows.callWith_type1 (thn (ha pos pins s σ H _ I h) fun us s1 zz=>?_) hs rfl))
 ·obtain ⟨vs,H1,I1,r1,a,xs,rfl,hq,q⟩:=zz
  obtain ⟨u,rfl,ru⟩:=Y1 r1
  cases ru
  obtain ⟨its,rv,pl,hz⟩:=I1.list hq
  have hl:=rv.length
  refine call_reversed_list pl.isList ?_
  have I2:Inv X pins σ H1 { s1 with heap:=s1.heap.push (revObj a ((its.toArray.size:Int) - 1)) }:=I1.kept (t':=s1.toks) fun b o e=>Heap.get?_push_of_some _ e
  have st:(s1.heap.push (revObj a ((its.toArray.size:Int) - 1))).IsRevIter s1.heap.objs.size a ((xs.length:Int) - 1 - ((0:Nat):Int)):=by
   refine ⟨_,Heap.get?_push_size _ rfl,rfl,?_⟩
   rw [List.size_toArray,← hl]
   show Data.fields _=_
   rw [show (xs.length:Int) - 1 - ((0:Nat):Int)=(xs.length:Int) - 1 by omega]
  refine wpAny_pyIter_revIter st ⟨s1.heap.objs.size,[s1.heap.objs.size],_,_,H1,rfl,I2,a8W a _ xs.length,⟨Nat.zero_le _,st⟩,fun b hb=>?_,q⟩
  obtain rfl:b=s1.heap.objs.size:=by simpa using hb
  exact I1.fpOk (Nat.le_refl _) (I1.hok.fresh (Nat.le_refl _))
end
end L2
namespace L2
open PySem PySem.Spec PyProof.Rows
section
variable {prog:Program} {w:World} {A:Around} {E:Value→Shared→Prop} {s:Shared}
end
end L2
namespace L2
open PySem
section
variable {prog:Program} {w:World} {A:Around} {E:Value→Shared→Prop} {s:Shared}
theorem b1E {k:Bool} {e p l:Addr} {n:Nat} {xs:Array Value} {v old:Value} {Q:Option Value→Shared→Prop} (ie:IsEnum s.heap e p n old) (g:SI k s.heap p l n) (m:SS k s.heap l xs) (hv:xs[n]? = some v) (hne:e≠p)
  (q:∀ h',IsEnumOut h' e p ((n:Int)+1) v s.heap.objs.size→SI k h' p l (n+1)→h'.get? s.heap.objs.size=some { cls:=.type "tuple",data:=.seq #[.int n s.toks,v] }→h'.objs.size=s.heap.objs.size+1 →
   (∀ b o,b≠e→b≠p→s.heap.get? b=some o→h'.get? b=some o)→Q (some (.ref s.heap.objs.size)) { s with heap:=h',toks:=s.toks+1 }):wpAny (model prog w) A (pyNext (.ref e)) Q E s:=by
 have ty:s.TypeIs (.ref e) "enumerate" := ⟨_,ie,rfl⟩
 unfold pyNext
 refine wpAny_bind (wpAny_attempt (wpAny_callSpecial?_slot (name:=Str.ofString "__next__") ty F.slot_enumerate_next (wpAny_call_entry F.slot_enumerate_next ty F.entry_enumerate_next ?_ (F.args_enumerate_next_1 _))))
 obtain ⟨hp,gs,dr,tk,os⟩:=s
 show wpAny _ _ (field (.ref e) 2 >>= _) _ _ _
 refine wpAny_bind (wpAny_field ie rfl (x:=.ref p) rfl (wpAny_bind (a00 g m hv fun ha ga sa=>?_)))
 replace sa:Heap.SameBut p hp ha:=sa
 have ea:IsEnum ha e p n old:=(sa.2 e hne).trans ie
 show wpAny _ _ (field (.ref e) 3 >>= _) _ _ ⟨ha,gs,dr,tk,os⟩
 refine wpAny_bind (wpAny_field ea rfl (x:=rawInt n) rfl ?_)
 show wpAny _ _ (field (.ref e) 4 >>= _) _ _ ⟨ha,gs,dr,tk,os⟩
 refine wpAny_bind (wpAny_field ea rfl (x:=.none) rfl ?_)
 show wpAny _ _ (mkInt n >>= _) _ _ ⟨ha,gs,dr,tk,os⟩
 refine wpAny_bind (wpAny_mkInt ?_)
 show wpAny _ _ (setField (.ref e) 3 (rawInt ((n:Int)+1)) >>= _) _ _ ⟨ha,gs,dr,tk+1,os⟩
 refine wpAny_bind (wpAny_setField_rec ea (by simp) fun hb eb sb=>?_)
 replace sb:Heap.SameBut e ha hb:=sb
 replace eb:IsEnum hb e p ((n:Int)+1) old:=eb
 show wpAny _ _ (setField (.ref e) 4 .none >>= _) _ _ ⟨hb,gs,dr,tk+1,os⟩
 refine wpAny_bind (wpAny_setField_rec eb (by simp) fun hc ec sc=>?_)
 replace sc:Heap.SameBut e hb hc:=sc
 replace ec:IsEnum hc e p ((n:Int)+1) old:=ec
 show wpAny _ _ (newTuple [.int n tk,v] >>= _) _ _ ⟨hc,gs,dr,tk+1,os⟩
 refine wpAny_bind (wpAny_newTuple ?_)
 have zc:hc.objs.size=hp.objs.size:=by rw [sc.1,sb.1,sa.1]
 have ltE:e<hp.objs.size:=Heap.lt_size ie
 obtain ⟨hd,hhd⟩:∃ hd,hd=hc.push { cls:=.type "tuple",data:=.seq #[.int n tk,v] }:=⟨_,rfl⟩
 have ed:IsEnum hd e p ((n:Int)+1) old:=by rw [hhd]; exact Heap.get?_push_of_some _ ec
 have td:hd.get? hp.objs.size=some { cls:=.type "tuple",data:=.seq #[.int n tk,v] }:=by rw [hhd,← zc]; exact Heap.get?_push_size _ rfl
 have zd:hd.objs.size=hp.objs.size+1:=by rw [hhd,Heap.size_push,zc]
 have kd:∀ b o,b≠e→b≠p→hp.get? b=some o→hd.get? b=some o:=fun b o b1 b2 z=>by rw [hhd]; exact Heap.get?_push_of_some _ (sc.extBut b o b1 (sb.extBut b o b1 (sa.extBut b o b2 z)))
 have gd:SI k hd p l (n+1):=((ga.but sb.extBut (Ne.symm hne)).but sc.extBut (Ne.symm hne)).at fun o z=>by rw [hhd]; exact Heap.get?_push_of_some _ z
 show wpAny _ _ (Builtin.SmallTypes.ownedTupleIsFree (.ref e) >>= _) _ _ ⟨hc.push { cls:=.type "tuple",data:=.seq #[.int n tk,v] },gs,dr,tk+1,os⟩
 rw [← hhd,zc]
 refine wpAny_bind ?_; unfold Builtin.SmallTypes.ownedTupleIsFree
 refine wpAny_bind (wpAny_field ed rfl (x:=.none) rfl (wpAny_pure ?_)); simp only [if_true]
 refine wpAny_bind (wpAny_rule (wpAny_bind (wpAny_field ed rfl (x:=old) rfl (wpAny_bind (wpAny_setField_rec ed (by simp) fun hf ef sf=>?_)))))
 replace sf:Heap.SameBut e hd hf:=sf
 replace ef:IsEnum hf e p ((n:Int)+1) v:=ef
 show wpAny _ _ (Builtin.SmallTypes.ownedTupleHandOut (.ref e) (.ref hp.objs.size) >>= _) _ _ ⟨hf,gs,dr,tk+1,os⟩
 refine wpAny_bind ?_; unfold Builtin.SmallTypes.ownedTupleHandOut
 refine wpAny_bind (wpAny_setField_rec ef (by simp) fun hg eg sg=>?_)
 replace sg:Heap.SameBut e hf hg:=sg
 replace eg:IsEnumOut hg e p ((n:Int)+1) v hp.objs.size:=eg
 refine wpAny_setField_rec eg (by simp) fun hh eh sh=>?_
 replace sh:Heap.SameBut e hg hh:=sh
 replace eh:IsEnumOut hh e p ((n:Int)+1) v hp.objs.size:=eh
 refine wpAny_bind (wpAny_letGo (wpAny_pure ⟨_,rfl,wpAny_pure (q hh eh ?_ ?_ ?_ ?_)⟩))
 ·exact ((gd.but sf.extBut (Ne.symm hne)).but sg.extBut (Ne.symm hne)).but sh.extBut (Ne.symm hne)
 ·exact sh.extBut _ _ (Nat.ne_of_gt ltE) (sg.extBut _ _ (Nat.ne_of_gt ltE) (sf.extBut _ _ (Nat.ne_of_gt ltE) td))
 ·show hh.objs.size=hp.objs.size+1
  rw [sh.1,sg.1,sf.1,zd]
 ·exact fun b o b1 b2 z=>sh.extBut b o b1 (sg.extBut b o b1 (sf.extBut b o b1 (kd b o b1 b2 z)))
theorem b4H {k:Bool} {e p l:Addr} {n:Nat} {xs:Array Value} {old:Value} {Q:Option Value→Shared→Prop} (hA:A.handled=none) (ie:IsEnum s.heap e p n old) (g:SI k s.heap p l n) (m:SS k s.heap l xs) (hv:xs[n]? = none)
  (q:∀ h',Heap.ExtBut p s.heap h'→Q none { s with heap:=h' }):wpAny (model prog w) A (pyNext (.ref e)) Q E s:=by
 have ty:s.TypeIs (.ref e) "enumerate" := ⟨_,ie,rfl⟩
 unfold pyNext
 refine wpAny_bind (wpAny_attempt (wpAny_callSpecial?_slot (name:=Str.ofString "__next__") ty F.slot_enumerate_next (wpAny_call_entry F.slot_enumerate_next ty F.entry_enumerate_next ?_ (F.args_enumerate_next_1 _))))
 show wpAny _ _ (field (.ref e) 2 >>= _) _ _ _
 refine wpAny_bind (wpAny_field ie rfl (x:=.ref p) rfl (wpAny_bind (a6z hA g m hv fun h' x he' zz=>?_)))
 obtain ⟨o,ho,hc⟩:=zz
 exact wpAny_bind (wpAny_isInstance (T := "StopIteration") (b:=true) ⟨o,ho,hc⟩ isSubtype_stop (wpAny_pure (q _ he')))
end
set_option maxHeartbeats 2000000 in
theorem b1F (l:Addr) (xs:Array Value) (n:Nat) (dct:Option Addr) (sl:Array (Option Value)) :
  Meets (Builtin.«enumerate.__new__» ⟨[.type "enumerate",.ref l],[]⟩) (fun _ R s=>s.heap.get? l=some { cls:=.type "tuple",dict:=dct,data:=.seq xs n,slots:=sl } ∧
   R (.ok (.ret (.ref (zA false s.heap l).objs.size))) { s with heap:=(zA false s.heap l).push { cls:=.type "enumerate",data:=.fields #[.none,.bool false,.ref s.heap.objs.size,rawInt 0,.none,.none] } }) :=
 .of_wp fun prog w A R s h=>by
  obtain ⟨hp,g,d,tk,os⟩:=s
  obtain ⟨hl,h⟩:=h
  have hsub:=sub_enumerate
  have hT:Heap.IsTuple (Shared.heap ⟨hp,g,d,tk,os⟩) l xs:=⟨_,hl,rfl,n,rfl⟩
  wp_walk using AutoSeq1.wpAny_loadPart' hl
  refine wpAny_stack_any fun st=>wpAny_pure ?_
  split
  ·rename_i c _ _ _ _ _
   cases (c == Value.type "enumerate")
   ·wp_walk using AutoSeq1.wpAny_loadPart' hl,wpAny_pyIter_tuple hT
    exact ⟨_,rfl,h⟩
   ·wp_walk using AutoSeq1.wpAny_loadPart' hl,wpAny_pyIter_tuple hT
    exact ⟨_,rfl,h⟩
  ·wp_walk using AutoSeq1.wpAny_loadPart' hl,wpAny_pyIter_tuple hT
   exact ⟨_,rfl,h⟩
section
variable {prog:Program} {w:World} {A:Around} {E:Value→Shared→Prop} {s:Shared}
theorem b2f {k:Bool} {l:Addr} {xs:Array Value} {Q:Value→Shared→Prop} (m:SS k s.heap l xs)
  (q:∀ h',IsEnum h' (s.heap.objs.size+1) s.heap.objs.size 0 .none→SI k h' s.heap.objs.size l 0→h'.objs.size=s.heap.objs.size+2→(∀ b o,s.heap.get? b=some o→h'.get? b=some o)→Q (.ref (s.heap.objs.size+1)) { s with heap:=h' }) :
  wpAny (model prog w) A (call (.type "enumerate") [.ref l]) Q E s:=by
 cases k with
 | true=>exact call_enumerate_list m q
 | false =>
  obtain ⟨⟨c,dct,dt,sl⟩,hl,hc,n,hd⟩:=m
  simp only at hc hd
  subst hc; subst hd
  refine callType_new F.called_enumerate (by decide) (F.typeCall_enumerate_1 _) (F.newCall_enumerate_1 _) (fun obj=>F.args_object_init_2 obj _) F.entry_enumerate_new (b1F l xs n dct sl) ⟨hl,?_⟩
  have s1:(zA false s.heap l).objs.size=s.heap.objs.size+1:=Heap.size_push ..
  have o1:((zA false s.heap l).push { cls:=.type "enumerate",data:=.fields #[.none,.bool false,.ref s.heap.objs.size,rawInt 0,.none,.none] }).get? (zA false s.heap l).objs.size=some _:=Heap.get?_push_size _ rfl
  show _∧_
  rw [s1] at o1 ⊢
  exact ⟨⟨_,o1,rfl⟩,q _ o1 ⟨_,Heap.get?_push_of_some _ (Heap.get?_push_size _ rfl),rfl,rfl⟩ (by rw [Heap.size_push,s1]) fun b o e=>Heap.get?_push_of_some _ (Heap.get?_push_of_some _ e)⟩
end
end L2
namespace L2
open PySem PySem.Spec PyProof.Rows
def Ite (K:PySem.W.Frag) (k:Bool) (l:Addr):It :=
 ⟨fun i H=>∃ xs x,SqK K k H l xs∧xs[i]? = some x,
  fun i H v H'=>∃ T x,H T=none∧v = .ref T∧H'=upd H T (.tup [.int i,x])∧∀ xs,SqK K k H l xs→xs[i]? = some x,
  fun i H=>∃ xs,SqK K k H l xs∧xs.length≤i⟩
def b8t (k:Bool) (e p l:Addr) (i:Nat) (h:Heap):Prop:=(∃ old,IsEnum h e p i old)∧SI k h p l i
theorem a8V {P:Program} {w:World} {K:PySem.W.Frag} {elts:List Expr} {kx:Nat} {tp:Pos} {k:Bool} {e p l:Addr} (hne:e≠p):a6f P w K (.Tuple elts kx tp) (Ite K k l) [e,p] e (b8t k e p l) where
 mem:=by simp
 obj:=fun i h ⟨⟨old,ie⟩,g⟩ c hc=>by
  simp only [List.mem_cons,List.not_mem_nil,or_false] at hc
  rcases hc with rfl | rfl
  ·exact ⟨_,ie,fun v z=>by cases z⟩
  ·exact g.obj
 keep:=fun i h h' ⟨⟨old,ie⟩,g⟩ kk=>⟨⟨old,kk e (by simp) _ ie⟩,g.at fun o z=>kk p (by simp) o z⟩
 item:=by
  intro X hP hw hK hc i pins s σ H E I hf st hg
  subst hP hw hK
  obtain ⟨⟨old,ie⟩,g⟩:=st
  obtain ⟨xs,x,q1,hx⟩:=hg
  obtain ⟨is1,r1,m1⟩:=I.sqk q1
  obtain ⟨u1,hu1,ru1⟩:=r1.get hx
  refine b1E ie g m1 (v:=u1) (by simpa using hu1) hne fun h' a1 a2 a3 a4 kk=>?_
  refine ⟨_,rfl,?_⟩
  refine wpAny_letOwnedTupleGo_enum (s:={ s with heap:=h',toks:=s.toks+1 }) a1 fun h2 b1 b2=>?_
  have lt:∀ {c o},s.heap.get? c=some o→c≠s.heap.objs.size:=fun z=>Nat.ne_of_lt (Heap.lt_size z)
  have I1:Inv X pins σ (upd H s.heap.objs.size (.tup [.int i,x])) { s with heap:=s.heap.push { cls:=.type "tuple",data:=.seq #[.int i s.toks,u1] },toks:=s.toks+1 } :=
   I.laid (o:=.tup [.int i,x]) (fun b ob q=>Heap.get?_push_of_some _ q) (Nat.le_refl _) ⟨(show 2≤sizeLine by decide),[.int i s.toks,u1],.cons ⟨_,rfl⟩ (.cons ru1 .nil),IsTup.new _ _⟩
  have nfp:∀ c∈[e,p],c≠s.heap.objs.size:=fun c hc=>by
   simp only [List.mem_cons,List.not_mem_nil,or_false] at hc
   rcases hc with rfl | rfl
   ·exact lt ie
   ·obtain ⟨o,z,_⟩:=g.obj; exact lt z
  have hf':∀ c∈[e,p],X5 X pins (upd H s.heap.objs.size (.tup [.int i,x])) c:=fun c hc=>by
   obtain ⟨f0,f1⟩:=hf c hc
   exact ⟨by rw [i7 (nfp c hc)]; exact f0,f1⟩
  have I2:Inv X pins σ (upd H s.heap.objs.size (.tup [.int i,x])) { s with heap:=h2,toks:=s.toks+1 }:=by
   refine Inv.turnedN (s:={ s with heap:=s.heap.push { cls:=.type "tuple",data:=.seq #[.int i s.toks,u1] },toks:=s.toks+1 }) (t':=s.toks+1) (h':=h2) (ch:=[e,p]) I1 (fun c o hcn z=>?_) hf'
   simp only [List.mem_cons,List.not_mem_nil,or_false,not_or] at hcn
   obtain ⟨n1,n2⟩:=hcn
   refine b2.extBut c o n1 ?_
   have z':(s.heap.push { cls:=.type "tuple",data:=.seq #[.int i s.toks,u1] }).get? c=some o:=z
   by_cases hcs:c=s.heap.objs.size
   ·subst hcs
    rw [Heap.get?_push_size _ rfl] at z'
    cases z'
    exact a3
   ·rw [Heap.get?_push_ne _ _ _ hcs] at z'
    exact kk c o n1 n2 z'
  refine ⟨.ref s.heap.objs.size,_,I2,rfl,⟨_,x,I.hok.fresh (Nat.le_refl _),rfl,rfl,fun zs hz=>by rw [I.sqk_inj hz q1]; exact hx⟩,?_,fun c hc=>(hf' c hc).1⟩
  have ec:((i+1:Nat):Int)=(i:Int)+1:=by omega
  exact ⟨⟨u1,by rw [ec]; exact b1⟩,a2.at fun o z=>b2.extBut p o (Ne.symm hne) z⟩
 done:=by
  intro X hP hw hK hc i pins s σ H E I hf st hg
  subst hP hw hK
  obtain ⟨⟨old,ie⟩,g⟩:=st
  obtain ⟨xs,q1,hx⟩:=hg
  obtain ⟨is1,r1,m1⟩:=I.sqk q1
  have e1:=r1.length
  refine b4H (I.ok.hd hc) ie g m1 (by simp; omega) fun h' kk=>⟨rfl,?_⟩
  refine I.turnedN (t':=s.toks) (ch:=[e,p]) (fun c o hcn z=>?_) hf
  simp only [List.mem_cons,List.not_mem_nil,or_false,not_or] at hcn
  exact kk c o hcn.2 z
 self:=fun _ _ _ _ _ st h=>let ⟨⟨_,ie⟩,_⟩:=st; wpAny_pyIter_enum ie h
def b9B (K:PySem.W.Frag) (ta:TA):TI:=fun σ H R=>ta σ H fun vs H1=>∃ k l,vs=[.ref l]∧(∃ xs,SqK K k H1 l xs)∧R (Ite K k l) H1
theorem b3O {X:Cx} {elts:List Expr} {kx:Nat} {tp:Pos} {a:Expr} {ta:TA} {p pos:Pos} (hg:Gl X "enumerate") (hm:X.mg "enumerate" = none) (ha:PA X [a] ta) (hs:starEach [a] X.env=[(false,eval a X.env)]:=by rfl) :
  PI X (.Tuple elts kx tp) (.Call (.Name "enumerate" p) [a] [] pos) (b9B X.K ta):=by
 intro pins s σ H R I h
 refine Call_ (K0 I hg hm PyProof.Rows.boot_enumerate (PyProof.Rows.callWith_type1 (thn (ha pos pins s σ H _ I h) fun us s1 ⟨vs,H1,I1,r1,q1⟩=>?_) hs rfl))
 obtain ⟨k,l,e,⟨xs,q2⟩,q⟩:=q1
 subst e
 cases r1 with
 | cons r rr =>
  cases rr
  cases r
  obtain ⟨is1,_,m1⟩:=I1.sqk q2
  refine b2f m1 fun h' a1 a2 a3 kk=>?_
  refine wpAny_pyIter_enum (s:={ s1 with heap:=h' }) a1 ?_
  refine ⟨s1.heap.objs.size+1,_,_,_,H1,rfl,I1.kept (t':=s1.toks) kk,a8V (Nat.succ_ne_self _),⟨⟨_,a1⟩,a2⟩,fun c hc=>?_,q⟩
  have hge:s1.heap.objs.size≤c:=by
   simp only [List.mem_cons,List.not_mem_nil,or_false] at hc
   rcases hc with rfl | rfl
   ·exact Nat.le_add_right _ _
   ·exact Nat.le_refl _
  exact I1.fpOk hge (I1.hok.fresh hge)
end L2
namespace L2
open PySem
theorem PE.imp {X:Cx} {x:Expr} {t t':TE} (h:PE X x t) (i:∀ σ H Q,t' σ H Q→t σ H Q):PE X x t':=fun pins s σ H Q I q=>h pins s σ H Q I (i σ H Q q)
theorem PT.imp {X:Cx} {x:Expr} {t t':TT} (h:PT X x t) (i:∀ σ H Q,t' σ H Q→t σ H Q):PT X x t':=fun pins s σ H Q I q=>h pins s σ H Q I (i σ H Q q)
theorem PW.imp {X:Cx} {x:Expr} {t t':TT} (h:PW X x t) (i:∀ σ H Q,t' σ H Q→t σ H Q):PW X x t':=fun wh pins s σ H Q I q=>h wh pins s σ H Q I (i σ H Q q)
theorem PA.imp {X:Cx} {x:List Expr} {t t':TA} (h:PA X x t) (i:∀ σ H Q,t' σ H Q→t σ H Q):PA X x t':=fun pos pins s σ H Q I q=>h pos pins s σ H Q I (i σ H Q q)
theorem PS.imp {X:Cx} {x:Stmt} {t t':TS} (h:PS X x t) (i:∀ E σ H,t' E σ H→t E σ H):PS X x t':=fun pins s σ H D I q=>h pins s σ H D I (i D σ H q)
theorem PSs.imp {X:Cx} {x:List Stmt} {t t':TS} (h:PSs X x t) (i:∀ E σ H,t' E σ H→t E σ H):PSs X x t':=fun pins s σ H D I q=>h pins s σ H D I (i D σ H q)
theorem OpR.imp {X:Cx} {f:Value→Value→Sem Value} {r r':R2} (h:OpR X f r) (i:∀ x y H Q,r' x y H Q→r x y H Q):OpR X f r':=fun pins s σ H x y v u Q I rx ry q=>h pins s σ H x y v u Q I rx ry (i x y H Q q)
theorem IxR.imp {X:Cx} {r r':R2} (h:IxR X r) (i:∀ x y H Q,r' x y H Q→r x y H Q):IxR X r':=fun va sl pins s σ H x y v u Q I rx ry q=>h va sl pins s σ H x y v u Q I rx ry (i x y H Q q)
theorem PG.imp {X:Cx} {x:Expr} {t t':TG} (h:PG X x t) (i:∀ v σ H Q,t' v σ H Q→t v σ H Q):PG X x t':=fun pins s σ H v u Q I r q=>h pins s σ H v u Q I r (i v σ H Q q)
theorem PGs.imp {X:Cx} {x:List Expr} {t t':TGs} (h:PGs X x t) (i:∀ v σ H Q,t' v σ H Q→t v σ H Q):PGs X x t':=fun pins s σ H v u Q I r q=>h pins s σ H v u Q I r (i v σ H Q q)
end L2
namespace DL
open PySem PySem.Spec L2
open PyProof.Rows hiding St
inductive D where
 | non | bl (b:Bool) | int (i:Int) | str (x:Str) | ref (a:Addr) | tup (ds:List D) | vl (ds:List D) | ty (n:String) | dic
def KL (K:PySem.W.Frag) (a:Addr) (xs:List V):Prop:=∀ H:Hp,SqL K H a xs
mutual
inductive Has (K:PySem.W.Frag) (H:Hp):V→D→Prop
 | non:Has K H .non .non
 | bl (b:Bool):Has K H (.bl b) (.bl b)
 | int (i:Int):Has K H (.int i) (.int i)
 | str (x:Str):Has K H (.str x) (.str x)
 | ref (a:Addr):Has K H (.ref a) (.ref a)
 | ty (n:String):Has K H (.ty n) (.ty n)
 | tup {a:Addr} {xs:List V} {ds:List D}:SqT K H a xs→HasL K H xs ds→Has K H (.ref a) (.tup ds)
 | vl {a:Addr} {xs:List V} {ds:List D}:((∃ o,H a=some (.frz o (.lst xs)))∨KL K a xs)→HasL K H xs ds→Has K H (.ref a) (.vl ds)
 | dic {a:Addr}:(∃ o:Obj,H a=some (.frz o (.own 0))∧o.cls = .type "dict")→Has K H (.ref a) .dic
inductive HasL (K:PySem.W.Frag) (H:Hp):List V→List D→Prop
 | nil:HasL K H [] []
 | cons {v:V} {d:D} {vs:List V} {ds:List D}:Has K H v d→HasL K H vs ds→HasL K H (v :: vs) (d :: ds)
end
structure KT0 (H H':Hp):Prop where
 tp:∀ a xs,Rd H a (.tup xs)→Rd H' a (.tup xs)
 fz:∀ a o u,H a=some (.frz o u)→H' a=some (.frz o u)
structure KT (H H':Hp):Prop extends KT0 H H' where
 ex:∀ a φ,H a=some (.ext φ)→H' a=some (.ext φ)
theorem KT.refl (H:Hp):KT H H:=⟨⟨fun _ _ h=>h,fun _ _ _ h=>h⟩,fun _ _ h=>h⟩
theorem KT.trans {H H1 H2:Hp} (a:KT H H1) (b:KT H1 H2):KT H H2:=⟨⟨fun p xs h=>b.tp p xs (a.tp p xs h),fun p o xs h=>b.fz p o xs (a.fz p o xs h)⟩,fun p φ h=>b.ex p φ (a.ex p φ h)⟩
theorem KT0.sq {K:PySem.W.Frag} {H H':Hp} (k:KT0 H H') {a:Addr} {xs:List V} (h:SqT K H a xs):SqT K H' a xs:=h.elim (fun z=>.inl (k.tp a xs z)) .inr
theorem KT.sq {K:PySem.W.Frag} {H H':Hp} (k:KT H H') {a:Addr} {xs:List V} (h:SqT K H a xs):SqT K H' a xs:=k.toKT0.sq h
theorem KT0.at {H:Hp} {p:Addr} {o:HO} (h1:∀ xs,¬ Rd H p (.tup xs)) (h2:∀ q u,H p≠some (.frz q u)):KT0 H (upd H p o) where
 tp:=fun a xs r=>by
  have hn:a≠p:=by intro e; subst e; exact h1 xs r
  rcases r with r | ⟨q,r⟩
  ·exact .inl (by rw [i7 hn]; exact r)
  ·exact .inr ⟨q,by rw [i7 hn]; exact r⟩
 fz:=fun a q xs r=>by
  have hn:a≠p:=by intro e; subst e; exact h2 q xs r
  rw [i7 hn]; exact r
theorem KT.at {H:Hp} {p:Addr} {o:HO} (h1:∀ xs,¬ Rd H p (.tup xs)) (h2:∀ q u,H p≠some (.frz q u)) (h3:∀ φ,H p≠some (.ext φ)):KT H (upd H p o):=⟨KT0.at h1 h2,fun a φ r=>by
  have hn:a≠p:=by intro e; subst e; exact h3 φ r
  rw [i7 hn]; exact r⟩
theorem KT.alloc {H:Hp} {p:Addr} {o:HO} (h:H p=none):KT H (upd H p o):=KT.at (fun xs r=>by rcases r with r | ⟨_,r⟩ <;> (rw [h] at r; cases r)) (fun q xs r=>by rw [h] at r; cases r) fun φ r=>by rw [h] at r; cases r
theorem KT.any {H:Hp} {p:Addr} {xs:List V} {o:HO} (h:H p=some (.lst xs)):KT H (upd H p o):=KT.at (fun xs r=>by rcases r with r | ⟨_,r⟩ <;> (rw [h] at r; cases r)) (fun q xs r=>by rw [h] at r; cases r) fun φ r=>by rw [h] at r; cases r
theorem KT.write {H:Hp} {p:Addr} {xs ys:List V} (h:H p=some (.lst xs)):KT H (upd H p (.lst ys)):=KT.any h
theorem KT0.ext {H:Hp} {p:Addr} {φ:Heap→Prop} {o:HO} (h:H p=some (.ext φ)):KT0 H (upd H p o):=KT0.at (fun xs r=>by rcases r with r | ⟨_,r⟩ <;> (rw [h] at r; cases r)) fun q xs r=>by rw [h] at r; cases r
theorem KT.new {H H':Hp} {p:Addr} {o:HO} (k:KT H H') (h:H p=none):KT H (upd H' p o) where
 tp:=fun a xs r=>by
  have hn:a≠p:=by intro e; subst e; rcases r with r | ⟨_,r⟩ <;> (rw [h] at r; cases r)
  rcases k.tp a xs r with r | ⟨q,r⟩
  ·exact .inl (by rw [i7 hn]; exact r)
  ·exact .inr ⟨q,by rw [i7 hn]; exact r⟩
 fz:=fun a q xs r=>by
  have hn:a≠p:=by intro e; subst e; rw [h] at r; cases r
  rw [i7 hn]; exact k.fz a q xs r
 ex:=fun a φ r=>by
  have hn:a≠p:=by intro e; subst e; rw [h] at r; cases r
  rw [i7 hn]; exact k.ex a φ r
mutual
theorem Has.mono0 {K:PySem.W.Frag} {H H':Hp} (k:KT0 H H'):∀ {v:V} {d:D},Has K H v d→Has K H' v d
 | _,_,.non=>.non
 | _,_,.bl b=>.bl b
 | _,_,.int i=>.int i
 | _,_,.str x=>.str x
 | _,_,.ref a=>.ref a
 | _,_,.ty n=>.ty n
 | _,_,.tup s l=>.tup (k.sq s) (HasL.mono0 k l)
 | _,_,.vl h l=>.vl (h.elim (fun ⟨o,e⟩=>.inl ⟨o,k.fz _ _ _ e⟩) .inr) (HasL.mono0 k l)
 | _,_,.dic h=>.dic (let ⟨o,e,c⟩:=h; ⟨o,k.fz _ _ _ e,c⟩)
theorem HasL.mono0 {K:PySem.W.Frag} {H H':Hp} (k:KT0 H H'):∀ {v:List V} {d:List D},HasL K H v d→HasL K H' v d
 | _,_,.nil=>.nil
 | _,_,.cons a b=>.cons (Has.mono0 k a) (HasL.mono0 k b)
end
theorem Has.mono {K:PySem.W.Frag} {H H':Hp} (k:KT H H') {v:V} {d:D} (h:Has K H v d):Has K H' v d:=h.mono0 k.toKT0
theorem HasL.mono {K:PySem.W.Frag} {H H':Hp} (k:KT H H') {v:List V} {d:List D} (h:HasL K H v d):HasL K H' v d:=h.mono0 k.toKT0
section
variable {K:PySem.W.Frag} {H H':Hp}
theorem HasL.length:∀ {vs:List V} {ds:List D},HasL K H vs ds→vs.length=ds.length
 | _,_,.nil=>rfl
 | _,_,.cons _ b=>congrArg Nat.succ (HasL.length b)
theorem HasL.get:∀ {vs:List V} {ds:List D} {i:Nat} {d:D},HasL K H vs ds→ds[i]? = some d→∃ v,vs[i]? = some v∧Has K H v d
 | _,_,_,_,.nil,e=>by simp at e
 | _,_,0,_,.cons a _,e=>by simp at e; subst e; exact ⟨_,rfl,a⟩
 | _,_,i+1,d,.cons _ b,e=>by
  obtain ⟨v,h1,h2⟩:=HasL.get (i:=i) (d:=d) b (by simpa using e)
  exact ⟨v,by simpa using h1,h2⟩
theorem HasL.getV:∀ {vs:List V} {ds:List D} {i:Nat} {v:V},HasL K H vs ds→vs[i]? = some v→∃ d,ds[i]? = some d∧Has K H v d
 | _,_,_,_,.nil,e=>by simp at e
 | _,_,0,_,.cons a _,e=>by simp at e; subst e; exact ⟨_,rfl,a⟩
 | _,_,i+1,d,.cons _ b,e=>by
  obtain ⟨v,h1,h2⟩:=HasL.getV (i:=i) (v:=d) b (by simpa using e)
  exact ⟨v,by simpa using h1,h2⟩
theorem HasL.set {v:V} {d:D} (r:Has K H v d):∀ {vs:List V} {ds:List D} (i:Nat),HasL K H vs ds→HasL K H (vs.set i v) (ds.set i d)
 | _,_,_,.nil=>.nil
 | _,_,0,.cons _ t=>.cons r t
 | _,_,i+1,.cons q t=>.cons q (HasL.set r i t)
theorem HasL.append:∀ {xs ys:List V} {us ws:List D},HasL K H xs us→HasL K H ys ws→HasL K H (xs++ys) (us++ws)
 | _,_,_,_,.nil,s=>s
 | _,_,_,_,.cons r t,s=>.cons r (HasL.append t s)
theorem HasL.take:∀ {xs:List V} {us:List D} (n:Nat),HasL K H xs us→HasL K H (xs.take n) (us.take n)
 | _,_,0,_=>.nil
 | _,_,_+1,.nil=>.nil
 | _,_,n+1,.cons r t=>.cons r (HasL.take n t)
theorem HasL.drop:∀ {xs:List V} {us:List D} (n:Nat),HasL K H xs us→HasL K H (xs.drop n) (us.drop n)
 | _,_,0,r=>r
 | _,_,_+1,.nil=>.nil
 | _,_,n+1,.cons _ t=>HasL.drop n t
theorem HasL.ints:∀ (ns:List Int),HasL K H (ns.map V.int) (ns.map D.int)
 | []=>.nil
 | n :: r=>.cons (.int n) (HasL.ints r)
end
inductive MO where
 | lst (ds:List D)
abbrev Mem:=Addr→Option MO
def v8 (M:Mem) (a:Addr) (o:MO):Mem:=fun b=>if b=a then some o else M b
theorem i8 {M:Mem} {a:Addr} {o:MO}:v8 M a o a=some o:=by unfold v8; rw [if_pos rfl]
theorem B7 {M:Mem} {a b:Addr} {o:MO} (h:b≠a):v8 M a o b=M b:=by unfold v8; rw [if_neg h]
theorem a1x {M:Mem} {a:Addr} {o u:MO}:v8 (v8 M a o) a u=v8 M a u:=by
 funext b; unfold v8; by_cases h:b=a <;> simp [h]
def MOk (K:PySem.W.Frag) (H:Hp) (a:Addr):MO→Prop
 | .lst ds=>∃ xs,H a=some (.lst xs)∧HasL K H xs ds
def p0 (K:PySem.W.Frag) (H:Hp) (M:Mem):Prop:=∀ a o,M a=some o→MOk K H a o
section
variable {K:PySem.W.Frag} {H H':Hp} {M:Mem}
theorem p0.fresh (h:p0 K H M) {p:Addr} (e:H p=none):M p=none:=by
 cases q:M p with
 | none=>rfl
 | some o =>
  cases o with
  | lst ds=>obtain ⟨xs,z,_⟩:=h p _ q; rw [e] at z; cases z
theorem p0.alloc (h:p0 K H M) {p:Addr} {u:HO} (e:H p=none):p0 K (upd H p u) M:=fun a o m=>by
 have k:KT H (upd H p u):=KT.alloc e
 cases o with
 | lst ds =>
  obtain ⟨xs,z,l⟩:=h a _ m
  have hn:a≠p:=C5 z e
  exact ⟨xs,by rw [i7 hn]; exact z,l.mono k⟩
theorem p0.new (h:p0 K H M) {p:Addr} {xs:List V} {ds:List D} (e:H p=none) (l:HasL K H xs ds):p0 K (upd H p (.lst xs)) (v8 M p (.lst ds)):=fun a o m=>by
 by_cases q:a=p
 ·subst q
  rw [i8] at m; cases m
  exact ⟨xs,j2,l.mono (KT.alloc e)⟩
 ·rw [B7 q] at m
  exact h.alloc e a o m
theorem p0.write (h:p0 K H M) {p:Addr} {xs ys:List V} {ds:List D} (e:H p=some (.lst xs)) (l:HasL K H ys ds):p0 K (upd H p (.lst ys)) (v8 M p (.lst ds)):=fun a o m=>by
 have k:KT H (upd H p (.lst ys)):=KT.write e
 by_cases q:a=p
 ·subst q
  rw [i8] at m; cases m
  exact ⟨ys,j2,l.mono k⟩
 ·rw [B7 q] at m
  cases o with
  | lst es =>
   obtain ⟨zs,z,l⟩:=h a _ m
   exact ⟨zs,by rw [i7 q]; exact z,l.mono k⟩
theorem p0.lst (h:p0 K H M) {a:Addr} {ds:List D} (m:M a=some (.lst ds)):∃ xs,H a=some (.lst xs)∧HasL K H xs ds:=h a _ m
end
abbrev Ev:=List (Option D)
structure y4 (K:PySem.W.Frag) (H:Hp) (σ:St) (e:Ev):Prop where
 len:σ.length=e.length
 has:∀ (i:Nat) (d:D),e[i]? = some (some d)→∃ v,σ[i]? = some (some v)∧Has K H v d
section
variable {K:PySem.W.Frag} {H H':Hp} {σ:St} {e:Ev}
theorem y4.mono (k:KT H H') (h:y4 K H σ e):y4 K H' σ e:=⟨h.len,fun i d z=>let ⟨v,a,b⟩:=h.has i d z; ⟨v,a,b.mono k⟩⟩
theorem y4.set (h:y4 K H σ e) {v:V} {d:D} (r:Has K H v d) (i:Nat):y4 K H (σ.set i (some v)) (e.set i (some d)):=by
 refine ⟨by simp [h.len],fun j x z=>?_⟩
 rw [List.getElem?_set] at z ⊢
 by_cases q:i=j
 ·subst q
  rw [if_pos rfl] at z ⊢
  by_cases l:i<e.length
  ·rw [if_pos l] at z
   rw [if_pos (by rw [h.len]; exact l)]
   cases z
   exact ⟨v,rfl,r⟩
  ·rw [if_neg l] at z; cases z
 ·rw [if_neg q] at z ⊢
  exact h.has j x z
end
def W8 (N:List Str) (ds:List D):Ev:=ds.map some++List.replicate (N.length - ds.length) none
theorem y4.start0 {K:PySem.W.Frag} {H:Hp} {N:List Str} {vs:List V} {ds:List D} (h:HasL K H vs ds):y4 K H (L2.start N vs) (W8 N ds):=by
 have hl:=h.length
 refine ⟨by simp [L2.start,W8,hl],fun i d z=>?_⟩
 unfold W8 at z
 unfold L2.start
 rw [List.getElem?_append] at z ⊢
 simp only [List.length_map] at z ⊢
 rw [hl]
 by_cases q:i<ds.length
 ·rw [if_pos q] at z ⊢
  rw [List.getElem?_map] at z ⊢
  cases e:ds[i]? with
  | none=>rw [e] at z; cases z
  | some x =>
   rw [e] at z
   have z':x=d:=by simpa using z
   subst z'
   obtain ⟨v,a,b⟩:=h.get e
   exact ⟨v,by rw [a]; rfl,b⟩
 ·rw [if_neg q] at z
  rw [List.getElem?_replicate] at z
  split at z <;> cases z
abbrev DK:=D→Mem→Prop
abbrev DTE:=Ev→Mem→DK→Prop
abbrev DTT:=Ev→Mem→(Bool→Mem→Prop)→Prop
abbrev DTA:=Ev→Mem→(List D→Mem→Prop)→Prop
structure a0R where
 nx:Ev→Mem→Prop
 rt:DK
 bk:Ev→Mem→Prop:=fun _ _=>False
 ct:Ev→Mem→Prop:=fun _ _=>False
abbrev DTS:=a0R→Ev→Mem→Prop
def a2c (K:PySem.W.Frag) (H:Hp) (R:DK) (Q:VK):Prop:=∀ d M',R d M'→∀ v H',KT H H'→p0 K H' M'→Has K H' v d→Q v H'
def b2t (K:PySem.W.Frag) (H:Hp) (R:Bool→Mem→Prop) (Q:Bool→Hp→Prop):Prop:=∀ b M',R b M'→∀ H',KT H H'→p0 K H' M'→Q b H'
def b5b (K:PySem.W.Frag) (H:Hp) (R:List D→Mem→Prop) (Q:List V→Hp→Prop):Prop:=∀ ds M',R ds M'→∀ vs H',KT H H'→p0 K H' M'→HasL K H' vs ds→Q vs H'
def a6i (K:PySem.W.Frag) (H:Hp) (R:Ev→Mem→Prop) (Q:St→Hp→Prop):Prop:=∀ e M',R e M'→∀ σ H',KT H H'→p0 K H' M'→y4 K H' σ e→Q σ H'
structure Fit (K:PySem.W.Frag) (H:Hp) (F:a0R) (E:a6k):Prop where
 nx:a6i K H F.nx E.nx
 rt:a2c K H F.rt E.rt
 bk:a6i K H F.bk E.bk
 ct:a6i K H F.ct E.ct
section
variable {K:PySem.W.Frag} {H H':Hp}
theorem a2c.mono {R:DK} {Q:VK} (h:a2c K H R Q) (k:KT H H'):a2c K H' R Q:=fun d M r v H2 k2 a b=>h d M r v H2 (k.trans k2) a b
theorem b2t.mono {R:Bool→Mem→Prop} {Q:Bool→Hp→Prop} (h:b2t K H R Q) (k:KT H H'):b2t K H' R Q:=fun d M r H2 k2 a=>h d M r H2 (k.trans k2) a
theorem b5b.mono {R:List D→Mem→Prop} {Q:List V→Hp→Prop} (h:b5b K H R Q) (k:KT H H'):b5b K H' R Q:=fun d M r v H2 k2 a b=>h d M r v H2 (k.trans k2) a b
theorem a6i.mono {R:Ev→Mem→Prop} {Q:St→Hp→Prop} (h:a6i K H R Q) (k:KT H H'):a6i K H' R Q:=fun d M r v H2 k2 a b=>h d M r v H2 (k.trans k2) a b
theorem Fit.mono {F:a0R} {E:a6k} (h:Fit K H F E) (k:KT H H'):Fit K H' F E:=⟨h.nx.mono k,h.rt.mono k,h.bk.mono k,h.ct.mono k⟩
end
def up (K:PySem.W.Frag) (t:DTE):TE:=fun σ H Q=>∃ e M R,y4 K H σ e∧p0 K H M∧t e M R∧a2c K H R Q
def upT (K:PySem.W.Frag) (t:DTT):TT:=fun σ H Q=>∃ e M R,y4 K H σ e∧p0 K H M∧t e M R∧b2t K H R Q
def upA (K:PySem.W.Frag) (t:DTA):TA:=fun σ H Q=>∃ e M R,y4 K H σ e∧p0 K H M∧t e M R∧b5b K H R Q
def upS (K:PySem.W.Frag) (t:DTS):TS:=fun E σ H=>∃ e M F,y4 K H σ e∧p0 K H M∧t F e M∧Fit K H F E
abbrev DPE (X:Cx) (x:Expr) (t:DTE):Prop:=PE X x (up X.K t)
abbrev DPT (X:Cx) (x:Expr) (t:DTT):Prop:=PT X x (upT X.K t)
abbrev DPW (X:Cx) (x:Expr) (t:DTT):Prop:=PW X x (upT X.K t)
abbrev DPA (X:Cx) (x:List Expr) (t:DTA):Prop:=PA X x (upA X.K t)
abbrev DPS (X:Cx) (x:Stmt) (t:DTS):Prop:=PS X x (upS X.K t)
abbrev a2d (X:Cx) (x:List Stmt) (t:DTS):Prop:=PSs X x (upS X.K t)
structure JE (X:Cx) (x:Expr) (t:DTE):Prop where
 out:DPE X x t
structure JT (X:Cx) (x:Expr) (t:DTT):Prop where
 out:DPT X x t
structure JW (X:Cx) (x:Expr) (t:DTT):Prop where
 out:DPW X x t
structure JA (X:Cx) (x:List Expr) (t:DTA):Prop where
 out:DPA X x t
structure JS (X:Cx) (x:Stmt) (t:DTS):Prop where
 out:DPS X x t
structure JSs (X:Cx) (x:List Stmt) (t:DTS):Prop where
 out:a2d X x t
section
variable {X:Cx} {a b c:Expr} {ta tb tc:DTE} {pos:Pos}
def N9 (i:Nat):DTE:=fun e M R=>∃ d,e[i]? = some (some d)∧R d M
def dC (d:D):DTE:=fun _ M R=>R d M
theorem b9M (i:Nat) {x:Str} {pos:Pos} (hN:X.N[i]? = some x:=by rfl) (hv:Vis X.env.scope x:=by first | exact Or.inl rfl | exact Or.inr (Or.inl rfl) | exact Or.inr (Or.inr rfl)) (hd:(x == ("__debug__" : Str))=false:=by decide)
  (hcd:(x == ("__classdict__" : Str))=false:=by decide):DPE X (.Name x pos) (N9 i) :=
 (b0X hN hv hd hcd).imp (by
  rintro σ H Q ⟨e,M,R,ok,am,⟨d,z,r⟩,f⟩
  obtain ⟨v,h1,h2⟩:=ok.has i d z
  exact ⟨v,h1,f d M r v H (KT.refl H) am h2⟩)
theorem a8 (i:Nat) {x:Str} {pos:Pos} (hN:X.N[i]? = some x:=by rfl) (hv:Vis X.env.scope x:=by first | exact Or.inl rfl | exact Or.inr (Or.inl rfl) | exact Or.inr (Or.inr rfl)) (hd:(x == ("__debug__" : Str))=false:=by decide)
  (hcd:(x == ("__classdict__" : Str))=false:=by decide):JE X (.Name x pos) (N9 i):=⟨b9M i hN hv hd hcd⟩
theorem T1 {v:V} {d:D} (h:PE X a (tC v)) (r:∀ H,Has X.K H v d):DPE X a (dC d) :=
 h.imp (by rintro σ H Q ⟨e,M,R,ok,am,z,f⟩; exact f d M z v H (KT.refl H) am (r H))
theorem b9U {i j pos}:DPE X (.Constant (.int i) j pos) (dC (.int i)):=T1 b62 fun _=>.int i
theorem d3 {i j pos}:JE X (.Constant (.int i) j pos) (dC (.int i)):=⟨b9U ⟩
theorem c0R {b j pos}:DPE X (.Constant (.bool b) j pos) (dC (.bl b)):=T1 b9m fun _=>.bl b
theorem Z3 {b j pos}:JE X (.Constant (.bool b) j pos) (dC (.bl b)):=⟨c0R ⟩
theorem b9R {j pos}:DPE X (.Constant .none j pos) (dC .non):=T1 b61 fun _=>.non
theorem K1 {j pos}:JE X (.Constant .none j pos) (dC .non):=⟨b9R ⟩
theorem b9O {x j pos}:DPE X (.Constant (.str x) j pos) (dC (.str x)):=T1 b6Y fun _=>.str x
theorem i9 {x j pos}:JE X (.Constant (.str x) j pos) (dC (.str x)):=⟨b9O ⟩
def c0b (K:PySem.W.Frag) (v:V) (d:D):Prop:=∀ H,Has K H v d
theorem b7T {x:Str} {v:V} {d:D} {u:Value} {pos:Pos} (hg:Gl X x) (hm:X.mg x=some u) (r:m9 v u) (hk:c0b X.K v d) (hd:(x == ("__debug__" : Str))=false:=by decide):DPE X (.Name x pos) (dC d) :=
 T1 (b3U hg hm r hd) hk
abbrev DR2:=D→D→Mem→DK→Prop
def upR (K:PySem.W.Frag) (g:DR2):R2:=fun x y H Q=>∃ dx dy M R,Has K H x dx∧Has K H y dy∧p0 K H M∧g dx dy M R∧a2c K H R Q
def DOp (X:Cx) (f:Value→Value→Sem Value) (g:DR2):Prop:=OpR X f (upR X.K g)
def dOp (g:DR2) (ta tb:DTE):DTE:=fun e M R=>ta e M fun x M1=>tb e M1 fun y M2=>g x y M2 R
theorem a3C {ta tb:DTE} {g:DR2} {σ:St} {H:Hp} {Q:VK} (h:up X.K (dOp g ta tb) σ H Q):tOp (upR X.K g) (up X.K ta) (up X.K tb) σ H Q:=by
 obtain ⟨e,M,R,ok,am,t,f⟩:=h
 refine ⟨e,M,_,ok,am,t,fun x M1 h1 v H1 k1 a1 r1=>?_⟩
 refine ⟨e,M1,_,ok.mono k1,a1,h1,fun y M2 h2 u H2 k2 a2 r2=>?_⟩
 exact ⟨x,y,M2,R,r1.mono k2,r2,a2,h2,f.mono (k1.trans k2)⟩
theorem c0O {op:Operator} {g:DR2} (ho:DOp X (binaryOp op) g) (ha:DPE X a ta) (hb:DPE X b tb):DPE X (.BinOp a op b pos) (dOp g ta tb) :=
 (b5P ho ha hb).imp fun _ _ _ h=>a3C h
theorem f8 {op:Operator} {g:DR2} (ho:DOp X (binaryOp op) g) (ha:JE X a ta) (hb:JE X b tb):JE X (.BinOp a op b pos) (dOp g ta tb):=⟨c0O ho ha.out hb.out⟩
theorem b9X {op:CmpOp} {g:DR2} (ho:DOp X (compareOp op) g) (ha:DPE X a ta) (hb:DPE X b tb) (hm:behindInMarks op b=false):DPE X (.Compare a [op] [b] pos) (dOp g ta tb) :=
 (b3V ho ha hb hm).imp fun _ _ _ h=>a3C h
theorem b7q {op:CmpOp} {g:DR2} (ho:DOp X (compareOp op) g) (ha:JE X a ta) (hb:JE X b tb) (hm:behindInMarks op b=false):JE X (.Compare a [op] [b] pos) (dOp g ta tb):=⟨b9X ho ha.out hb.out hm⟩
def a0N (t:DTE):DTT:=fun e M R=>t e M fun x M'=>∃ k,x = .bl k∧R k M'
theorem a5e {K:PySem.W.Frag} {H:Hp} {R:Bool→Mem→Prop} {Q:Bool→Hp→Prop} (f:b2t K H R Q):a2c K H (fun x M'=>∃ k,x = .bl k∧R k M') (fun x H'=>∃ k,x = .bl k∧Q k H'):=by
 rintro d M' ⟨k,rfl,r⟩ v H' kt am h
 cases h
 exact ⟨k,rfl,f k M' r H' kt am⟩
theorem b7R {op:CmpOp} {g:DR2} (ho:DOp X (compareOp op) g) (ha:DPE X a ta) (hb:DPE X b tb) (hm:behindInMarks op b=false):DPT X (.Compare a [op] [b] pos) (a0N (dOp g ta tb)) :=
 (b3J ho ha hb hm).imp (by rintro σ H Q ⟨e,M,R,ok,am,t,f⟩; exact a3C (Q:=fun x H'=>∃ k,x = .bl k∧Q k H') ⟨e,M,_,ok,am,t,a5e f⟩)
theorem b4t {op:CmpOp} {g:DR2} (ho:DOp X (compareOp op) g) (ha:JE X a ta) (hb:JE X b tb) (hm:behindInMarks op b=false):JT X (.Compare a [op] [b] pos) (a0N (dOp g ta tb)):=⟨b7R ho ha.out hb.out hm⟩
theorem b7Q {x:Expr} {t:DTE} (h:DPE X x t) (he:∀ whole,isTrue x X.env whole=(do let v ← whole; standAt x.pos; holding [v] (truthy v)):=by intro _; rfl):DPT X x (a0N t) :=
 (b6M h he).imp (by rintro σ H Q ⟨e,M,R,ok,am,t,f⟩; exact ⟨e,M,_,ok,am,t,a5e f⟩)
theorem N4 {x:Expr} {t:DTE} (h:JE X x t) (he:∀ whole,isTrue x X.env whole=(do let v ← whole; standAt x.pos; holding [v] (truthy v)):=by intro _; rfl):JT X x (a0N t):=⟨b7Q h.out he⟩
def fI (f:Int→Int→D):D→D→Option D
 | .int i,.int j=>some (f i j)
 | _,_=>none
def gF (f:D→D→Option D):DR2:=fun x y M R=>∃ z,f x y=some z∧R z M
def gI (C:Int→Int→Prop) (f:Int→Int→D):DR2:=fun x y M R=>∃ i j,x = .int i∧y = .int j∧C i j∧R (f i j) M
theorem a4v {f:Int→Int→D} {x y z:D} (h:fI f x y=some z):∃ i j,x = .int i∧y = .int j∧z=f i j:=by
 cases x with
 | int i =>
  cases y with
  | int j=>exact ⟨i,j,rfl,rfl,(Option.some.inj h).symm⟩
  | _=>cases h
 | _=>cases h
theorem a8C {f:Value→Value→Sem Value} {C:Int→Int→Prop} {g:Int→Int→V} {g':Int→Int→D} (h:OpR X f (rI C g)) (hg:∀ i j H,Has X.K H (g i j) (g' i j)):DOp X f (gI C g') :=
 OpR.imp h (by
  rintro x y H Q ⟨dx,dy,M,R,hx,hy,am,⟨i,j,e1,e2,hc,r⟩,f⟩
  subst e1; subst e2
  cases hx; cases hy
  exact ⟨i,j,rfl,rfl,hc,f _ M r _ H (KT.refl H) am (hg i j H)⟩)
theorem a4x {f:Value→Value→Sem Value} {g:Int→Int→V} {g':Int→Int→D} (h:OpR X f (rI0 g)) (hg:∀ i j H,Has X.K H (g i j) (g' i j)):DOp X f (gF (fI g')) :=
 OpR.imp h (by
  rintro x y H Q ⟨dx,dy,M,R,hx,hy,am,⟨z,e,r⟩,f⟩
  obtain ⟨i,j,e1,e2,e3⟩:=a4v e
  subst e1; subst e2; subst e3
  cases hx; cases hy
  exact ⟨i,j,rfl,rfl,f _ M r _ H (KT.refl H) am (hg i j H)⟩)
theorem E5:DOp X (binaryOp .Add) (gF (fI fun i j=>.int (i+j))):=a4x b7b fun _ _ _=>.int _
theorem a1S:DOp X (binaryOp .Sub) (gF (fI fun i j=>.int (i - j))):=a4x b68 fun _ _ _=>.int _
theorem a2E:DOp X (compareOp .Lt) (gF (fI fun i j=>.bl (decide (i<j)))):=a4x b9o fun _ _ _=>.bl _
theorem b1a:DOp X (compareOp .Gt) (gF (fI fun i j=>.bl (decide (j<i)))):=a4x b9p fun _ _ _=>.bl _
theorem a1T:DOp X (binaryOp .Mod) (gI (fun _ j=>0<j) fun i j=>.int (i % j)):=a8C b7a fun _ _ _=>.int _
theorem a0H:DOp X (binaryOp .Pow) (gI a9A fun i j=>.int (i ^ j.toNat)):=a8C b69 fun _ _ _=>.int _
def gU (f:Int→D):D→Mem→DK→Prop:=fun x M R=>∃ i,x = .int i∧R (f i) M
def dUn (g:D→Mem→DK→Prop) (ta:DTE):DTE:=fun e M R=>ta e M fun x M1=>g x M1 R
theorem b9S (ha:DPE X a ta):DPE X (.UnaryOp .USub a pos) (dUn (gU fun i=>.int (-i)) ta) :=
 (b9i b6o ha).imp (by rintro σ H Q ⟨e,M,R,ok,am,t,f⟩; exact ⟨e,M,_,ok,am,t,fun x M1 ⟨i,z,r⟩ v H1 k1 a1 r1=>by
  subst z; cases r1; exact ⟨i,rfl,f _ M1 r _ H1 k1 a1 (.int _)⟩⟩)
theorem y3 (ha:JE X a ta):JE X (.UnaryOp .USub a pos) (dUn (gU fun i=>.int (-i)) ta):=⟨b9S ha.out⟩
variable {tA tB':DTT} {u5:List Expr}
def b8b (t u:DTT):DTT:=fun e M R=>t e M fun c M1=>if c=true then u e M1 R else R false M1
def dOr (t u:DTT):DTT:=fun e M R=>t e M fun c M1=>if c=true then R true M1 else u e M1 R
def b74 (t:DTT):DTT:=fun e M R=>t e M fun c M1=>R (!c) M1
theorem b7Y (ha:DPT X a tA):DPW X (.BoolOp .And [a] pos) tA:=b3I ha
theorem Z4 (ha:JT X a tA):JW X (.BoolOp .And [a] pos) tA:=⟨b7Y ha.out⟩
theorem b9P (ha:DPT X a tA):DPW X (.BoolOp .Or [a] pos) tA:=b6J ha
theorem a68 (ha:JT X a tA):JW X (.BoolOp .Or [a] pos) tA:=⟨b9P ha.out⟩
theorem b9Z (ha:DPT X a tA) (hb:DPW X (.BoolOp .And (b :: u5) pos) tB'):DPW X (.BoolOp .And (a :: b :: u5) pos) (b8b tA tB') :=
 (b6K ha hb).imp (by rintro σ H Q ⟨e,M,R,ok,am,t,f⟩; exact ⟨e,M,_,ok,am,t,fun k M1 h1 H1 k1 a1=>by
  cases k with
  | true=>exact ⟨e,M1,R,ok.mono k1,a1,h1,f.mono k1⟩
  | false=>exact f false M1 h1 H1 k1 a1⟩)
theorem a1Z (ha:JT X a tA) (hb:JW X (.BoolOp .And (b :: u5) pos) tB'):JW X (.BoolOp .And (a :: b :: u5) pos) (b8b tA tB'):=⟨b9Z ha.out hb.out⟩
theorem c0N (ha:DPT X a tA) (hb:DPW X (.BoolOp .Or (b :: u5) pos) tB'):DPW X (.BoolOp .Or (a :: b :: u5) pos) (dOr tA tB') :=
 (b9g ha hb).imp (by rintro σ H Q ⟨e,M,R,ok,am,t,f⟩; exact ⟨e,M,_,ok,am,t,fun k M1 h1 H1 k1 a1=>by
  cases k with
  | true=>exact f true M1 h1 H1 k1 a1
  | false=>exact ⟨e,M1,R,ok.mono k1,a1,h1,f.mono k1⟩⟩)
theorem a8o (ha:JT X a tA) (hb:JW X (.BoolOp .Or (b :: u5) pos) tB'):JW X (.BoolOp .Or (a :: b :: u5) pos) (dOr tA tB'):=⟨c0N ha.out hb.out⟩
theorem b9Q (ha:DPT X a tA):DPT X (.UnaryOp .Not a pos) (b74 tA) :=
 (b6N ha).imp (by rintro σ H Q ⟨e,M,R,ok,am,t,f⟩; exact ⟨e,M,_,ok,am,t,fun k M1 h1 H1 k1 a1=>f (!k) M1 h1 H1 k1 a1⟩)
theorem b1n (ha:JT X a tA):JT X (.UnaryOp .Not a pos) (b74 tA):=⟨b9Q ha.out⟩
theorem c0M {x:Expr} {t:DTT} (h:DPW X x t):DPT X x t:=PW.pt h
theorem a0K {x:Expr} {t:DTT} (h:JW X x t):JT X x t:=⟨c0M h.out⟩
def b2b (ta tb:DTE):DTE:=fun e M R=>ta e M fun x M1=>∃ c,x = .bl c∧if c=true then tb e M1 R else R (.bl false) M1
def b73 (ta tb:DTE):DTE:=fun e M R=>ta e M fun x M1=>∃ c,x = .bl c∧if c=true then R (.bl true) M1 else tb e M1 R
def b1V (ta:DTE):DTE:=fun e M R=>ta e M fun x M1=>∃ c,x = .bl c∧R (.bl (!c)) M1
theorem b7N {op} {t:DTE} (h:DPE X a t):DPE X (.BoolOp op [a] pos) t:=b6Z h
theorem a4q {op} {t:DTE} (h:JE X a t):JE X (.BoolOp op [a] pos) t:=⟨b7N h.out⟩
theorem b7P (ha:DPE X a ta) (hb:DPE X (.BoolOp .And (b :: u5) pos) tb):DPE X (.BoolOp .And (a :: b :: u5) pos) (b2b ta tb) :=
 (b64 ha hb).imp (by rintro σ H Q ⟨e,M,R,ok,am,t,f⟩; exact ⟨e,M,_,ok,am,t,fun x M1 ⟨k,z,h1⟩ v H1 k1 a1 r1=>by
  subst z; cases r1
  refine ⟨k,rfl,?_⟩
  cases k with
  | true=>exact ⟨e,M1,R,ok.mono k1,a1,h1,f.mono k1⟩
  | false=>exact f _ M1 h1 _ H1 k1 a1 (.bl _)⟩)
theorem a8n (ha:JE X a ta) (hb:JE X (.BoolOp .And (b :: u5) pos) tb):JE X (.BoolOp .And (a :: b :: u5) pos) (b2b ta tb):=⟨b7P ha.out hb.out⟩
theorem b9L (ha:DPE X a ta) (hb:DPE X (.BoolOp .Or (b :: u5) pos) tb):DPE X (.BoolOp .Or (a :: b :: u5) pos) (b73 ta tb) :=
 (b9j ha hb).imp (by rintro σ H Q ⟨e,M,R,ok,am,t,f⟩; exact ⟨e,M,_,ok,am,t,fun x M1 ⟨k,z,h1⟩ v H1 k1 a1 r1=>by
  subst z; cases r1
  refine ⟨k,rfl,?_⟩
  cases k with
  | true=>exact f _ M1 h1 _ H1 k1 a1 (.bl _)
  | false=>exact ⟨e,M1,R,ok.mono k1,a1,h1,f.mono k1⟩⟩)
theorem b7p (ha:JE X a ta) (hb:JE X (.BoolOp .Or (b :: u5) pos) tb):JE X (.BoolOp .Or (a :: b :: u5) pos) (b73 ta tb):=⟨b9L ha.out hb.out⟩
theorem b7O (ha:DPE X a ta):DPE X (.UnaryOp .Not a pos) (b1V ta) :=
 (b60 ha).imp (by rintro σ H Q ⟨e,M,R,ok,am,t,f⟩; exact ⟨e,M,_,ok,am,t,fun x M1 ⟨k,z,h1⟩ v H1 k1 a1 r1=>by
  subst z; cases r1
  exact ⟨k,rfl,f _ M1 h1 _ H1 k1 a1 (.bl _)⟩⟩)
theorem b4s (ha:JE X a ta):JE X (.UnaryOp .Not a pos) (b1V ta):=⟨b7O ha.out⟩
def dIf (t:DTT) (ta tb:DTE):DTE:=fun e M R=>t e M fun c M1=>if c=true then ta e M1 R else tb e M1 R
theorem b4R (hc:DPT X c tA) (ha:DPE X a ta) (hb:DPE X b tb):DPE X (.IfExp c a b pos) (dIf tA ta tb) :=
 (b0Z hc ha hb).imp (by rintro σ H Q ⟨e,M,R,ok,am,t,f⟩; exact ⟨e,M,_,ok,am,t,fun k M1 h1 H1 k1 a1=>by
  cases k with
  | true=>exact ⟨e,M1,R,ok.mono k1,a1,h1,f.mono k1⟩
  | false=>exact ⟨e,M1,R,ok.mono k1,a1,h1,f.mono k1⟩⟩)
theorem Z2 (hc:JT X c tA) (ha:JE X a ta) (hb:JE X b tb):JE X (.IfExp c a b pos) (dIf tA ta tb):=⟨b4R hc.out ha.out hb.out⟩
def b75:DTA:=fun _ M R=>R [] M
def b1Z (ta:DTE) (tr:DTA):DTA:=fun e M R=>ta e M fun x M1=>tr e M1 fun xs M2=>R (x :: xs) M2
variable {es:List Expr} {tr:DTA}
theorem b7M:DPA X [] b75:=a6U.imp (by rintro σ H Q ⟨e,M,R,ok,am,t,f⟩; exact f [] M t [] H (KT.refl H) am .nil)
theorem a9:JA X [] b75:=⟨b7M ⟩
theorem b4P (ha:DPE X a ta) (hr:DPA X es tr) (hs:starEach (a :: es) X.env=(false,eval a X.env) :: starEach es X.env:=by rfl):DPA X (a :: es) (b1Z ta tr) :=
 (a4c ha hr hs).imp (by rintro σ H Q ⟨e,M,R,ok,am,t,f⟩; exact ⟨e,M,_,ok,am,t,fun x M1 h1 v H1 k1 a1 r1 =>
  ⟨e,M1,_,ok.mono k1,a1,h1,fun xs M2 h2 vs H2 k2 a2 r2=>f _ M2 h2 _ H2 (k1.trans k2) a2 (.cons (r1.mono k2) r2)⟩⟩)
theorem a7 (ha:JE X a ta) (hr:JA X es tr) (hs:starEach (a :: es) X.env=(false,eval a X.env) :: starEach es X.env:=by rfl):JA X (a :: es) (b1Z ta tr):=⟨b4P ha.out hr.out hs⟩
def b7Z (t:DTA):DTE:=fun e M R=>t e M fun ds M1=>ds.length≤sizeLine∧R (.tup ds) M1
def b76 (t:DTA):DTE:=fun e M R=>t e M fun ds M1=>ds.length≤sizeLine∧∀ p,M1 p=none→R (.ref p) (v8 M1 p (.lst ds))
theorem b9N {x1} (h:DPA X es tr):DPE X (.Tuple es x1 pos) (b7Z tr) :=
 (b6X h).imp (by rintro σ H Q ⟨e,M,R,ok,am,t,f⟩; exact ⟨e,M,_,ok,am,t,fun ds M1 ⟨hz,h1⟩ vs H1 k1 a1 r1=>by
  refine ⟨by rw [r1.length]; exact hz,fun p hp=>?_⟩
  have k2:KT H1 (upd H1 p (.tup vs)):=KT.alloc hp
  exact f _ M1 h1 _ _ (k1.trans k2) (a1.alloc hp) (.tup (SqT.of j2) (r1.mono k2))⟩)
theorem e8 {x1} (h:JA X es tr):JE X (.Tuple es x1 pos) (b7Z tr):=⟨b9N h.out⟩
theorem b9T (h:DPA X es tr):DPE X (.List es pos) (b76 tr) :=
 (b0Y h).imp (by rintro σ H Q ⟨e,M,R,ok,am,t,f⟩; exact ⟨e,M,_,ok,am,t,fun ds M1 ⟨hz,h1⟩ vs H1 k1 a1 r1=>by
  refine ⟨by rw [r1.length]; exact hz,fun p hp=>?_⟩
  have k2:KT H1 (upd H1 p (.lst vs)):=KT.alloc hp
  exact f _ _ (h1 p (a1.fresh hp)) _ _ (k1.trans k2) (a1.new hp r1) (.ref p)⟩)
theorem a0r (h:JA X es tr):JE X (.List es pos) (b76 tr):=⟨b9T h.out⟩
theorem HasL.at {K:PySem.W.Frag} {H:Hp} {vs:List V} {ds:List D} (h:HasL K H vs ds) {i:Int} {z:D} (e:atI ds i=some z):∃ v,atI vs i=some v∧Has K H v z:=by
 unfold atI at e ⊢
 rw [h.length]
 cases q:ixN ds.length i with
 | none=>rw [q] at e; cases e
 | some j =>
  rw [q] at e
  exact h.get e
def DIx (X:Cx) (g:DR2):Prop:=IxR X (upR X.K g)
theorem c0Q {g:DR2} (hr:DIx X g) (ha:DPE X a ta) (hb:DPE X b tb) (hs:a07 b):DPE X (.Subscript a b pos) (dOp g ta tb) :=
 (b9k hr ha hb hs).imp fun _ _ _ h=>a3C h
theorem b9w {g:DR2} (hr:DIx X g) (ha:JE X a ta) (hb:JE X b tb) (hs:a07 b):JE X (.Subscript a b pos) (dOp g ta tb):=⟨c0Q hr ha.out hb.out hs⟩
abbrev DXK:=Value→Mem→Prop
abbrev DSp:=List D→Mem→DK→DXK→Prop
def b8s (K:PySem.W.Frag) (H:Hp) (Y:DXK) (E:XK):Prop:=∀ c M',Y c M'→∀ o H',KT H H'→p0 K H' M'→E c o H'
def a5d (K:PySem.W.Frag) (sp:DSp):Sp:=fun vs H Q E=>∃ ds M R Y,HasL K H vs ds∧p0 K H M∧sp ds M R Y∧a2c K H R Q∧b8s K H Y E
def a50 (sp:DSp) (dds:List D) (Y:DXK) (t:DTA):DTE:=fun e M R=>t e M fun ds M1=>sp (ds++dds) M1 R Y
end
section
variable {X:Cx} {CX:CXT} {k:Nat} {f C:Addr} {fd:FuncData} {ps:List Str} {sp:DSp} {dvs:List V} {dds:List D} {ds:List Value} {E:XK} {Y:DXK} {x m:Str} {p pos apos:Pos} {e o:Expr} {es:List Expr} {t:DTA}
theorem b7V (F:O6 X.prog X.w X.K X.mg X.base CX k f fd ps (a5d X.K sp)) (hr:D6 k X.A) (hg:Gl X x) (hm:X.mg x=some (.ref f)) (hk:PySem.W.keepIn X.K (.ref f)=true) (hb:a2g X.K fd ps ds) (hd:j9 dvs ds) (hdd:∀ H,HasL X.K H dvs dds) (hx:a4J CX X E) (hY:∀ H,b8s X.K H Y E)
  (ha:DPA X (e :: es) t) (hdb:(x == ("__debug__" : Str))=false:=by decide) (he:starEach (e :: es) X.env=(false,eval e X.env) :: starEach es X.env:=by rfl) (hpl:(backTo pos (starEach es X.env)).any (·.1)=false:=by rfl) :
  DPE X (.Call (.Name x p) (e :: es) [] pos) (a50 sp dds Y t) :=
 (b3W F hr hg hm hk hb hd hx ha hdb he hpl).imp (by rintro σ H Q ⟨e,M,R,ok,am,t,f⟩; exact ⟨e,M,_,ok,am,t,fun xs M1 h1 vs H1 k1 a1 r1 =>
  ⟨xs++dds,M1,R,Y,r1.append (hdd H1),a1,h1,f.mono k1,hY H1⟩⟩)
end
section
variable {X:Cx} {st:Stmt} {u5:List Stmt} {t u:DTS} {e:Expr} {te:DTE} {pos:Pos}
def b1W:DTS:=fun F e M=>F.nx e M
def b70 (t u:DTS):DTS:=fun F e M=>t { F with nx:=u F } e M
theorem b7F:a2d X [] b1W:=b3L.imp (by rintro E σ H ⟨e,M,F,ok,am,t,f⟩; exact f.nx e M t σ H (KT.refl H) am ok)
theorem g6:JSs X [] b1W:=⟨b7F ⟩
theorem b4K (h1:DPS X st t) (h2:a2d X u5 u):a2d X (st :: u5) (b70 t u) :=
 (a5y h1 h2).imp (by rintro E σ H ⟨e,M,F,ok,am,t,f⟩; exact ⟨e,M,{ F with nx:=u F },ok,am,t,⟨fun e' M' h σ' H' k a o=>⟨e',M',F,o,a,h,f.mono k⟩,f.rt,f.bk,f.ct⟩⟩)
theorem d4 (h1:JS X st t) (h2:JSs X u5 u):JSs X (st :: u5) (b70 t u):=⟨b4K h1.out h2.out⟩
theorem b7E (h1:DPS X st t):a2d X [st] t:=b3K h1
theorem d5 (h1:JS X st t):JSs X [st] t:=⟨b7E h1.out⟩
def b1Y (te:DTE):DTS:=fun F e M=>te e M fun _ M1=>F.nx e M1
theorem b4J (he:DPE X e te) (hs:swapsWith e none pos.line X.env=pure false:=by rfl):DPS X (.Expr e pos) (b1Y te) :=
 (b3M he hs).imp (by rintro E σ H ⟨e,M,F,ok,am,t,f⟩; exact ⟨e,M,_,ok,am,t,fun d M1 h1 v H1 k1 a1 r1=>f.nx e M1 h1 σ H1 k1 a1 (ok.mono k1)⟩)
theorem G2 (he:JE X e te) (hs:swapsWith e none pos.line X.env=pure false:=by rfl):JS X (.Expr e pos) (b1Y te):=⟨b4J he.out hs⟩
def b71 (te:DTE):DTS:=fun F e M=>te e M F.rt
theorem b7C (he:DPE X e te):DPS X (.Return (some e) pos) (b71 te) :=
 (b6P he).imp (by rintro E σ H ⟨e,M,F,ok,am,t,f⟩; exact ⟨e,M,_,ok,am,t,f.rt⟩)
theorem d8 (he:JE X e te):JS X (.Return (some e) pos) (b71 te):=⟨b7C he.out⟩
def b77 (c:DTT) (t u:DTS):DTS:=fun F e M=>c e M fun b M1=>if b=true then t F e M1 else u F e M1
theorem b9K {c:Expr} {a b:List Stmt} {tc:DTT} (hc:DPT X c tc) (ha:a2d X a t) (hb:a2d X b u):DPS X (.If c a b pos) (b77 tc t u) :=
 (b9h hc ha hb).imp (by rintro E σ H ⟨e,M,F,ok,am,t,f⟩; exact ⟨e,M,_,ok,am,t,fun k M1 h1 H1 k1 a1=>by
  cases k with
  | true=>exact ⟨e,M1,F,ok.mono k1,a1,h1,f.mono k1⟩
  | false=>exact ⟨e,M1,F,ok.mono k1,a1,h1,f.mono k1⟩⟩)
theorem h9 {c:Expr} {a b:List Stmt} {tc:DTT} (hc:JT X c tc) (ha:JSs X a t) (hb:JSs X b u):JS X (.If c a b pos) (b77 tc t u):=⟨b9K hc.out ha.out hb.out⟩
def a7j:DTS:=fun _ _ _=>False
theorem b1H:DPS X st a7j:=b0S.imp (by rintro E σ H ⟨_,_,_,_,_,t,_⟩; exact t)
theorem a9g:JS X st a7j:=⟨b1H ⟩
abbrev DTG:=D→Ev→Mem→(Ev→Mem→Prop)→Prop
abbrev L1:=List D→Ev→Mem→(Ev→Mem→Prop)→Prop
def upG (K:PySem.W.Frag) (g:DTG):TG:=fun v σ H Q=>∃ d e M R,Has K H v d∧y4 K H σ e∧p0 K H M∧g d e M R∧a6i K H R Q
def c0g (K:PySem.W.Frag) (g:L1):TGs:=fun vs σ H Q=>∃ ds e M R,HasL K H vs ds∧y4 K H σ e∧p0 K H M∧g ds e M R∧a6i K H R Q
abbrev DPG (X:Cx) (x:Expr) (g:DTG):Prop:=PG X x (upG X.K g)
abbrev a9z (X:Cx) (x:List Expr) (g:L1):Prop:=PGs X x (c0g X.K g)
structure JG (X:Cx) (x:Expr) (g:DTG):Prop where
 out:DPG X x g
structure JGs (X:Cx) (x:List Expr) (g:L1):Prop where
 out:a9z X x g
def B8 (i:Nat):DTG:=fun d e M R=>R (e.set i (some d)) M
theorem b4O {i:Nat} {x:Str} (hN:X.N.Nodup) (hi:X.N[i]? = some x) (hx:Loc X.env.scope x) (hf:X.fn x=true∨X.env.scope.names.lookup x=some .local:=by first | exact .inl rfl | exact .inr rfl | assumption):DPG X (.Name x pos) (B8 i) :=
 PG.imp (b3S hN hi hx hf) (by rintro v σ H Q ⟨d,e,M,R,r,ok,am,g,f⟩; exact f _ M g _ H (KT.refl H) am (ok.set r i))
theorem b1m {i:Nat} {x:Str} (hN:X.N.Nodup) (hi:X.N[i]? = some x) (hx:Loc X.env.scope x) (hf:X.fn x=true∨X.env.scope.names.lookup x=some .local:=by first | exact .inl rfl | exact .inr rfl | assumption):JG X (.Name x pos) (B8 i):=⟨b4O hN hi hx hf⟩
def b1R:L1:=fun ds e M R=>ds=[]∧R e M
def a7f (t:DTG) (u:L1):L1:=fun ds e M R=>∃ d r,ds=d :: r∧t d e M fun e' M'=>u r e' M' R
theorem b4M:a9z X [] b1R:=PGs.imp b3Q (by
 rintro v σ H Q ⟨ds,e,M,R,r,ok,am,⟨z,g⟩,f⟩
 subst z; cases r; exact ⟨rfl,f e M g σ H (KT.refl H) am ok⟩)
theorem i4:JGs X [] b1R:=⟨b4M ⟩
end
end DL
namespace DL
open PySem PySem.Spec L2
open PyProof.Rows hiding St
section
variable {X:Cx} {st:Stmt} {u5:List Stmt} {t u:DTS} {e:Expr} {te:DTE} {pos:Pos}
theorem b1P {x:Expr} {xs:List Expr} {t:DTG} {u:L1} (h1:DPG X x t) (h2:a9z X xs u)
  (hs:(assignEach (x :: xs) X.env).map (·.2)=assign x X.env :: (assignEach xs X.env).map (·.2):=by rfl):a9z X (x :: xs) (a7f t u) :=
 PGs.imp (b0W h1 h2 hs) (by
  rintro vs σ H Q ⟨ds,e,M,R,r,ok,am,⟨d,dr,z,g⟩,f⟩
  subst z
  cases r with
  | cons r rr=>exact ⟨_,_,rfl,d,e,M,_,r,ok,am,g,fun e1 M1 h1 σ1 H1 k1 a1 ok1=>⟨dr,e1,M1,R,rr.mono k1,ok1,a1,h1,f.mono k1⟩⟩)
theorem d6 {x:Expr} {xs:List Expr} {t:DTG} {u:L1} (h1:JG X x t) (h2:JGs X xs u)
  (hs:(assignEach (x :: xs) X.env).map (·.2)=assign x X.env :: (assignEach xs X.env).map (·.2):=by rfl):JGs X (x :: xs) (a7f t u):=⟨b1P h1.out h2.out hs⟩
def a3u (n:Nat) (t:L1):DTG:=fun d e M R=>∃ ds,d = .tup ds∧ds.length=n∧t ds e M R
theorem b7H {xs:List Expr} {k:Nat} {t:L1} {n:Nat} (hc:X.calm=true) (h:a9z X xs t)
  (hn:(assignEach xs X.env).length=n:=by rfl) (hst:(assignEach xs X.env).findIdx? (·.1)=none:=by rfl):DPG X (.Tuple xs k pos) (a3u n t) :=
 PG.imp (b6V hc h hn hst) (by
  rintro v σ H Q ⟨d,e,M,R,r,ok,am,⟨ds,z,hl,g⟩,f⟩
  subst z
  cases r with
  | tup s l=>exact ⟨_,_,rfl,s,by rw [l.length]; exact hl,ds,e,M,R,l,ok,am,g,f⟩)
theorem m7 {xs:List Expr} {k:Nat} {t:L1} {n:Nat} (hc:X.calm=true) (h:JGs X xs t)
  (hn:(assignEach xs X.env).length=n:=by rfl) (hst:(assignEach xs X.env).findIdx? (·.1)=none:=by rfl):JG X (.Tuple xs k pos) (a3u n t):=⟨b7H hc h.out hn hst⟩
abbrev b2w:=D→D→D→Mem→(Mem→Prop)→Prop
def b5W:b2w:=fun o i v M R=>∃ p ds k j,o = .ref p∧i = .int k∧M p=some (.lst ds)∧ixN ds.length k=some j∧R (v8 M p (.lst (ds.set j v)))
def b1Q (to ti:DTE) (t:b2w):DTG:=fun d e M R=>to e M fun o M1=>ti e M1 fun i M2=>t o i d M2 fun M3=>R e M3
theorem b7I {o i:Expr} {to ti:DTE} (ho:DPE X o to) (hi:DPE X i ti)
  (ha:∀ v,assign (.Subscript o i pos) X.env v=(do
   let ov ← holding [v] (eval o X.env)
   let iv ← holding [v,ov] (eval i X.env)
   standAt pos
   holding [v,ov,iv] (setItem ov iv v)
   release [v,ov,iv] []):=by intro _; rfl):DPG X (.Subscript o i pos) (b1Q to ti b5W) :=
 PG.imp (b6W ho hi b0z ha) fun v σ H Q ⟨d,e,M,R,r,ok,am,g,f⟩ =>
  ⟨e,M,_,ok,am,g,fun x M1 h1 vo H1 k1 a1 r1=>⟨e,M1,_,ok.mono k1,a1,h1,fun y M2 ⟨p,ds,k,j,e1,e2,e3,e4,h2⟩ vi H2 k2 a2 r2=>by
   subst e1; subst e2
   cases r1; cases r2
   obtain ⟨xs,hx,l⟩:=a2.lst e3
   have kt:KT H H2:=k1.trans k2
   have kw:KT H2 (upd H2 p (.lst (xs.set j v))):=KT.write hx
   exact ⟨p,xs,k,j,rfl,rfl,hx,by rw [l.length]; exact e4,f e _ h2 σ _ (kt.trans kw) (a2.write hx (l.set (r.mono kt) j)) ((ok.mono kt).mono kw)⟩⟩⟩
theorem a8m {o i:Expr} {to ti:DTE} (ho:JE X o to) (hi:JE X i ti)
  (ha:∀ v,assign (.Subscript o i pos) X.env v=(do
   let ov ← holding [v] (eval o X.env)
   let iv ← holding [v,ov] (eval i X.env)
   standAt pos
   holding [v,ov,iv] (setItem ov iv v)
   release [v,ov,iv] []):=by intro _; rfl):JG X (.Subscript o i pos) (b1Q to ti b5W):=⟨b7I ho.out hi.out ha⟩
def a2F (te:DTE) (g:DTG):DTS:=fun F e M=>te e M fun x M1=>g x e M1 F.nx
theorem b7G {tg x:Expr} {tx:DTE} {g:DTG} (he:DPE X x tx) (hg:DPG X tg g) (hs:swapsWithSole [tg] x pos.line X.env=pure false:=by rfl) (hw:swappedStores [tg] x X.env=pure none:=by rfl)
  (h1:(assignEach [tg] X.env).map (·.2)=[assign tg X.env]:=by rfl):DPS X (.Assign [tg] x pos) (a2F tx g) :=
 (b6S he hg hs hw h1).imp (by rintro E σ H ⟨e,M,F,ok,am,t,f⟩; exact ⟨e,M,_,ok,am,t,fun d M1 h1 v H1 k1 a1 r1=>⟨d,e,M1,F.nx,r1,ok.mono k1,a1,h1,f.nx.mono k1⟩⟩)
theorem q9 {tg x:Expr} {tx:DTE} {g:DTG} (he:JE X x tx) (hg:JG X tg g) (hs:swapsWithSole [tg] x pos.line X.env=pure false:=by rfl) (hw:swappedStores [tg] x X.env=pure none:=by rfl)
  (h1:(assignEach [tg] X.env).map (·.2)=[assign tg X.env]:=by rfl):JS X (.Assign [tg] x pos) (a2F tx g):=⟨b7G he.out hg.out hs hw h1⟩
theorem b7B {i:Nat} {x:Str} {tx:DTE} {pos':Pos} (hN:X.N.Nodup) (hi:X.N[i]? = some x) (hx:Loc X.env.scope x) (he:DPE X e tx) (hs:swapsWith e (some (.Name x pos')) pos.line X.env=pure false:=by rfl) (hf:X.fn x=true∨X.env.scope.names.lookup x=some .local:=by first | exact .inl rfl | exact .inr rfl | assumption) :
  DPS X (.Assign [.Name x pos'] e pos) (a2F tx (B8 i)) :=
 (b6O hN hi hx he hs hf).imp (by rintro E σ H ⟨e,M,F,ok,am,t,f⟩; exact ⟨e,M,_,ok,am,t,fun d M1 h1 v H1 k1 a1 r1=>f.nx _ M1 h1 _ H1 k1 a1 ((ok.mono k1).set r1 i)⟩)
theorem b4q {i:Nat} {x:Str} {tx:DTE} {pos':Pos} (hN:X.N.Nodup) (hi:X.N[i]? = some x) (hx:Loc X.env.scope x) (he:JE X e tx) (hs:swapsWith e (some (.Name x pos')) pos.line X.env=pure false:=by rfl) (hf:X.fn x=true∨X.env.scope.names.lookup x=some .local:=by first | exact .inl rfl | exact .inr rfl | assumption):JS X (.Assign [.Name x pos'] e pos) (a2F tx (B8 i)):=⟨b7B hN hi hx he.out hs hf⟩
def b72 (i j:Nat) (ta:DTA):DTS:=fun F e M=>ta e M fun ds M1=>∃ x y,ds=[x,y]∧F.nx ((e.set i (some x)).set j (some y)) M1
theorem b7D {i j:Nat} {x y:Str} {a b:Expr} {ta:DTA} {px py pt:Pos} {kt k2 pt2} (hc:X.calm=true) (hN:X.N.Nodup) (hi:X.N[i]? = some x) (hj:X.N[j]? = some y) (hij:i≠j)
  (hx:X.env.scope.names.lookup x=some .local) (hy:X.env.scope.names.lookup y=some .local) (ha:DPA X [a,b] ta)
  (hw:swappedStores [.Tuple [.Name x px,.Name y py] kt pt] (.Tuple [a,b] k2 pt2) X.env=pure (some [x,y]):=by rfl)
  (hs:swapsWithSole [.Tuple [.Name x px,.Name y py] kt pt] (.Tuple [a,b] k2 pt2) pos.line X.env=pure false:=by rfl):DPS X (.Assign [.Tuple [.Name x px,.Name y py] kt pt] (.Tuple [a,b] k2 pt2) pos) (b72 i j ta) :=
 (b6Q hc hN hi hj hij hx hy ha hw hs).imp (by rintro E σ H ⟨e,M,F,ok,am,t,f⟩; exact ⟨e,M,_,ok,am,t,fun ds M1 ⟨x,y,z,h1⟩ vs H1 k1 a1 r1=>by
  subst z
  cases r1 with
  | cons r1 rr =>
   cases rr with
   | cons r2 rr =>
    cases rr
    exact ⟨_,_,rfl,f.nx _ M1 h1 _ H1 k1 a1 (((ok.mono k1).set r1 i).set r2 j)⟩⟩)
theorem b4r {i j:Nat} {x y:Str} {a b:Expr} {ta:DTA} {px py pt:Pos} {kt k2 pt2} (hc:X.calm=true) (hN:X.N.Nodup) (hi:X.N[i]? = some x) (hj:X.N[j]? = some y) (hij:i≠j)
  (hx:X.env.scope.names.lookup x=some .local) (hy:X.env.scope.names.lookup y=some .local) (ha:JA X [a,b] ta)
  (hw:swappedStores [.Tuple [.Name x px,.Name y py] kt pt] (.Tuple [a,b] k2 pt2) X.env=pure (some [x,y]):=by rfl)
  (hs:swapsWithSole [.Tuple [.Name x px,.Name y py] kt pt] (.Tuple [a,b] k2 pt2) pos.line X.env=pure false:=by rfl):JS X (.Assign [.Tuple [.Name x px,.Name y py] kt pt] (.Tuple [a,b] k2 pt2) pos) (b72 i j ta):=⟨b7D hc hN hi hj hij hx hy ha.out hw hs⟩
def b1S (c:DTT) (tb:DTS):DTS:=fun F e M=>∃ W:Nat→Ev→Mem→Prop,(∃ m,W m e M)∧∀ m e M,W m e M →
 c e M fun b M1=>if b=true then tb { F with nx:=fun e' M'=>∃ m',m'<m∧W m' e' M',ct:=fun e' M'=>∃ m',m'<m∧W m' e' M',bk:=F.nx } e M1 else F.nx e M1
theorem b1G {c:Expr} {body:List Stmt} {tc:DTT} {tb:DTS} (hp:PassesOwn (model X.prog X.w) X.A X.env X.xe) (hc:DPT X c tc) (hb:a2d X body tb):DPS X (.While c body [] pos) (b1S tc tb) :=
 (b0R hp hc hb).imp (by
  rintro E σ H ⟨e,M,F,ok,am,⟨W,⟨m0,w0⟩,turn⟩,f⟩
  refine ⟨fun m σ' H'=>∃ e' M',KT H H'∧y4 X.K H' σ' e'∧p0 X.K H' M'∧W m e' M',⟨m0,e,M,KT.refl H,ok,am,w0⟩,?_⟩
  rintro m σ1 H1 ⟨e1,M1,k1,ok1,a1,w1⟩
  refine ⟨e1,M1,_,ok1,a1,turn m e1 M1 w1,fun b M2 h2 H2 k2 a2=>?_⟩
  cases b with
  | false=>exact f.nx e1 M2 h2 σ1 H2 (k1.trans k2) a2 (ok1.mono k2)
  | true =>
   refine ⟨fun σ' H'=>∃ m',m'<m∧∃ e' M',KT H H'∧y4 X.K H' σ' e'∧p0 X.K H' M'∧W m' e' M',fun σ' H' h=>h,e1,M2,_,ok1.mono k2,a2,h2,?_⟩
   have kk:=k1.trans k2
   exact ⟨fun e' M' ⟨m',l,w⟩ σ' H' k' a' o'=>⟨m',l,e',M',kk.trans k',o',a',w⟩,f.rt.mono kk,f.nx.mono kk,fun e' M' ⟨m',l,w⟩ σ' H' k' a' o'=>⟨m',l,e',M',kk.trans k',o',a',w⟩⟩)
theorem a3r {c:Expr} {body:List Stmt} {tc:DTT} {tb:DTS} (hp:PassesOwn (model X.prog X.w) X.A X.env X.xe) (hc:JT X c tc) (hb:JSs X body tb):JS X (.While c body [] pos) (b1S tc tb):=⟨b1G hp hc.out hb.out⟩
abbrev DTI:=Ev→Mem→(List D→(Mem→Prop)→Mem→Prop)→Prop
def b79 (ti:DTI) (g:DTG) (tb:DTS):DTS:=fun F e M=>ti e M fun ds stay M1=>∃ W:Nat→Ev→Mem→Prop,W 0 e M1∧(∀ i e M,i≤ds.length→W i e M→stay M) ∧
 (∀ (i:Nat) (d:D) e M,ds[i]? = some d→W i e M→g d e M fun e2 M2=>tb { F with nx:=W (i+1),ct:=W (i+1),bk:=F.nx } e2 M2)∧∀ e M,W ds.length e M→F.nx e M
def N3 (lo:Int) (n:Nat):List D:=(List.range n).map fun (i:Nat)=>D.int (lo+(i:Int))
theorem j7 (lo:Int) (n:Nat):(N3 lo n).length=n:=by simp [N3]
theorem a1L {lo:Int} {n i:Nat} (h:i<n):(N3 lo n)[i]? = some (D.int (lo+(i:Int))):=by simp [N3,h]
theorem a3m {lo:Int} {n i:Nat} {d:D} (h:(N3 lo n)[i]? = some d):i<n∧d=D.int (lo+(i:Int)):=by
 have hl:i<n:=by
  have:=(List.getElem?_eq_some_iff.mp h).1
  rw [j7] at this; exact this
 rw [a1L hl] at h
 exact ⟨hl,(Option.some.inj h).symm⟩
def b1O (ta:DTA):DTI:=fun e M R=>ta e M fun ds M1=>∃ j:Int,ds=[.int j]∧-(2 ^ 62)≤j∧j<2 ^ 62∧R (N3 0 j.toNat) (fun _=>True) M1
theorem b1B {K:PySem.W.Frag} {H H1 H2:Hp} {F:a0R} {E:a6k} {W:Nat→Ev→Mem→Prop} {g:DTG} {tb:DTS} {i:Nat} {x:V} {d:D} {σ2:St} {e2:Ev} {M2:Mem} (f:Fit K H F E) (k1:KT H H1) (k2:KT H1 H2) (ok2:y4 K H2 σ2 e2) (a2:p0 K H2 M2) (r:Has K H2 x d)
  (h:g d e2 M2 fun e3 M3=>tb { F with nx:=W (i+1),ct:=W (i+1),bk:=F.nx } e3 M3) :
  upG K g x σ2 H2 fun σ3 H3=>upS K tb { E with nx:=fun σ' H'=>∃ e' M',KT H1 H'∧y4 K H' σ' e'∧p0 K H' M'∧W (i+1) e' M',ct:=fun σ' H'=>∃ e' M',KT H1 H'∧y4 K H' σ' e'∧p0 K H' M'∧W (i+1) e' M',bk:=E.nx } σ3 H3:=by
 refine ⟨d,e2,M2,_,r,ok2,a2,h,fun e3 M3 h3 σ3 H3 k3 a3 ok3=>⟨e3,M3,_,ok3,a3,h3,?_⟩⟩
 have kk:KT H H3:=k1.trans (k2.trans k3)
 exact ⟨fun e' M' w σ' H' k' a' o'=>⟨e',M',k2.trans (k3.trans k'),o',a',w⟩,f.rt.mono kk,f.nx.mono kk,fun e' M' w σ' H' k' a' o'=>⟨e',M',k2.trans (k3.trans k'),o',a',w⟩⟩
variable {tg iter:Expr} {body:List Stmt} {ti:DTE} {ta:DTA} {g:DTG} {tb:DTS}
theorem Has.il {K:PySem.W.Frag} {H:Hp} {v:V} {ds:List D} (h:Has K H v (.vl ds)):∃ a xs,v = .ref a∧SqL K H a xs∧HasL K H xs ds:=by
 cases h with
 | vl h l=>exact ⟨_,_,rfl,h.elim (fun ⟨o,e⟩=>.inl (.inr ⟨o,e⟩)) (fun k=>k H),l⟩
end
section
variable {P:Program} {w:World} {K:PySem.W.Frag} {mg:Str→Option Value} {base:Heap}
end
section
variable {X:Cx} {x:Str} {p pos:Pos} {e:Expr} {es:List Expr} {t:DTA} {id T:String}
abbrev DRC:=List D→Mem→DK→Prop
def upC (K:PySem.W.Frag) (g:DRC):List V→Hp→VK→Prop:=fun xs H Q=>∃ ds M R,HasL K H xs ds∧p0 K H M∧g ds M R∧a2c K H R Q
def R6 (X:Cx) (f:Value) (g:DRC):Prop:=A7 X f (upC X.K g)
def dCB (g:DRC) (t:DTA):DTE:=fun e M R=>t e M fun ds M1=>g ds M1 R
theorem b57 {g:DRC} {σ:St} {H:Hp} {Q:VK} (h:up X.K (dCB g t) σ H Q):tCB (upC X.K g) (upA X.K t) σ H Q:=by
 obtain ⟨e,M,R,ok,am,t,f⟩:=h
 exact ⟨e,M,_,ok,am,t,fun ds M1 h1 vs H1 k1 a1 r1=>⟨ds,M1,R,r1,a1,h1,f.mono k1⟩⟩
theorem A7.imp {f:Value} {r r':List V→Hp→VK→Prop} (h:A7 X f r) (i:∀ xs H Q,r' xs H Q→r xs H Q):A7 X f r':=fun pins s σ H xs us Q I rv q=>h pins s σ H xs us Q I rv (i xs H Q q)
theorem HasL.one {K:PySem.W.Frag} {H:Hp} {vs:List V} {d:D} (h:HasL K H vs [d]):∃ v,vs=[v]∧Has K H v d:=by
 cases h with
 | cons r rr=>cases rr; exact ⟨_,rfl,r⟩
theorem HasL.two {K:PySem.W.Frag} {H:Hp} {vs:List V} {d d':D} (h:HasL K H vs [d,d']):∃ v v',vs=[v,v']∧Has K H v d∧Has K H v' d':=by
 cases h with
 | cons r rr=>cases rr with | cons r2 rr=>cases rr; exact ⟨_,_,rfl,r,r2⟩
def b9H:DRC:=fun ds M R=>∃ i:Int,ds=[.int i]∧R (.int (i.natAbs:Int)) M
theorem a56:R6 X (.builtin "abs") b9H:=A7.imp b2e (by
 rintro xs H Q ⟨ds,M,R,hl,am,⟨i,z,r⟩,f⟩
 subst z
 obtain ⟨v,rfl,h⟩:=hl.one
 cases h
 have e:(if i<0 then -i else i)=(i.natAbs:Int):=by split <;> omega
 exact ⟨i,rfl,by rw [e]; exact f _ M r _ H (KT.refl H) am (.int _)⟩)
def b9E:DRC:=fun ds M R=>∃ i j:Int,ds=[.int i,.int j]∧R (.int (max i j)) M
theorem b93 (hc:X.calm=true):R6 X (.builtin "max") b9E:=A7.imp (a9t hc) (by
 rintro xs H Q ⟨ds,M,R,hl,am,⟨i,j,z,r⟩,f⟩
 subst z
 obtain ⟨v,v',rfl,h,h'⟩:=hl.two
 cases h; cases h'
 have e:(if j > i then j else i)=max i j:=by
  rw [Int.max_def]; split <;> split <;> omega
 exact ⟨i,j,rfl,by rw [e]; exact f _ M r _ H (KT.refl H) am (.int _)⟩)
def b1g (M:Mem):D→Option Nat
 | .tup ds=>some ds.length
 | .ref p=>match M p with
  | some (.lst ds)=>some ds.length
  | _=>none
 | .vl ds=>some ds.length
 | _=>none
def a9m:DRC:=fun ds M R=>∃ d n,ds=[d]∧b1g M d=some n∧R (.int (n:Int)) M
theorem U4:R6 X (.builtin "len") a9m:=A7.imp a4C (by
 rintro xs H Q ⟨ds,M,R,hl,am,⟨d,n,z,hn,r⟩,f⟩
 subst z
 obtain ⟨v,rfl,h⟩:=hl.one
 cases d with
 | tup es =>
  cases h with
  | tup s l =>
   cases hn
   exact ⟨_,_,rfl,.inr s,by rw [l.length]; exact f _ M r _ H (KT.refl H) am (.int _)⟩
 | ref p =>
  cases h
  unfold b1g at hn
  cases q:M p with
  | none=>simp [q] at hn
  | some o =>
   cases o with
   | lst es =>
    simp only [q] at hn
    cases hn
    obtain ⟨ys,hy,l⟩:=am.lst q
    exact ⟨p,ys,rfl,.inl (SqL.of hy),by rw [l.length]; exact f _ M r _ H (KT.refl H) am (.int _)⟩
 | vl es =>
  cases hn
  obtain ⟨a,xs,rfl,sq,l⟩:=h.il
  exact ⟨a,_,rfl,.inl sq,by rw [l.length]; exact f _ M r _ H (KT.refl H) am (.int _)⟩
 | _=>cases hn)
end
end DL
namespace DL
open PySem PySem.Spec L2
open PyProof.Rows hiding St
theorem a2a:bootBuiltins "abs" = some (.builtin "abs"):=by decide +kernel
theorem b8g:bootBuiltins "max" = some (.builtin "max"):=by decide +kernel
theorem b2i:bootBuiltins "min" = some (.builtin "min"):=by decide +kernel
theorem K2:bootBuiltins "len" = some (.builtin "len"):=by decide +kernel
theorem U5:bootBuiltins "isinstance" = some (.builtin "isinstance"):=by decide +kernel
theorem b8h:bootBuiltins "int" = some (.type "int"):=by decide +kernel
theorem b4X:bootBuiltins "bool" = some (.type "bool"):=by decide +kernel
theorem b2h:bootBuiltins "tuple" = some (.type "tuple"):=by decide +kernel
theorem a06:bootBuiltins "list" = some (.type "list"):=by decide +kernel
theorem a0O:bootBuiltins "reversed" = some (.type "reversed"):=by decide +kernel
section
variable {X:Cx} {a b c:Expr} {ta tb tc:DTE} {pos:Pos}
theorem b4c:OpR X (binaryOp .Mult) (rI IntMulOk fun i j=>.int (i*j)):=opI fun _ _ _ _ _ _ _ hc q=>mul_int q hc
def CFd (i j:Int):Prop:=j≠0∧j.natAbs.log2<9000
theorem b02:OpR X (binaryOp .FloorDiv) (rI CFd fun i j=>.int (i.fdiv j)):=opI fun _ _ _ _ _ _ _ hc q=>floordiv_int hc.1 q (.inl (PyProof.noPylong_of_log2 hc.2))
theorem o6:DOp X (binaryOp .Mult) (gI IntMulOk fun i j=>.int (i*j)):=a8C b4c fun _ _ _=>.int _
theorem E4:DOp X (binaryOp .FloorDiv) (gI CFd fun i j=>.int (i.fdiv j)):=a8C b02 fun _ _ _=>.int _
def ixD (M:Mem):D→D→Option D
 | .tup ds,.int i=>atI ds i
 | .ref p,.int i=>match M p with
  | some (.lst ds)=>atI ds i
  | _=>none
 | .vl ds,.int i=>atI ds i
 | _,_=>none
def gIx:DR2:=fun x y M R=>∃ z,ixD M x y=some z∧R z M
theorem IxR.or' {r r':R2} (h:IxR X r) (h':IxR X r') {g:R2} (i:∀ x y H Q,g x y H Q→r x y H Q∨r' x y H Q):IxR X g:=IxR.imp (IxR.or h h') i
theorem b9z:DIx X gIx:=IxR.or' b7r b4w (by
 rintro x y H Q ⟨dx,dy,M,R,hx,hy,am,⟨z,e,r⟩,f⟩
 cases dy with
 | int i =>
  cases hy
  cases dx with
  | tup ds =>
   cases hx with
   | tup s l =>
    obtain ⟨v,h1,h2⟩:=l.at (show atI ds i=some z from e)
    exact .inl ⟨_,_,i,v,rfl,rfl,s,h1,f z M r v H (KT.refl H) am h2⟩
  | ref p =>
   cases hx
   unfold ixD at e
   cases q:M p with
   | none=>simp [q] at e
   | some o =>
    cases o with
    | lst ds =>
     simp only [q] at e
     obtain ⟨xs,h1,h2⟩:=am.lst q
     obtain ⟨v,h3,h4⟩:=h2.at e
     exact .inr ⟨_,_,i,v,rfl,rfl,SqL.of h1,h3,f z M r v H (KT.refl H) am h4⟩
  | vl ds =>
   obtain ⟨a,xs,rfl,sq,l⟩:=hx.il
   obtain ⟨v,h1,h2⟩:=l.at (show atI ds i=some z from e)
   exact .inr ⟨_,_,i,v,rfl,rfl,sq,h1,f z M r v H (KT.refl H) am h2⟩
  | _=>simp [ixD] at e
 | _=>cases dx <;> simp [ixD] at e)
theorem S8 {M:Mem} {p:Addr} {ds:List D} {i:Int} {z:D} (m:M p=some (.lst ds)) (h:atI ds i=some z):ixD M (.ref p) (.int i)=some z:=by
 unfold ixD; simp only [m]; exact h
def isD:D→D→Option Bool
 | .bl a,.bl b=>some (a == b)
 | .non,.non=>some true
 | .bl _,.non=>some false
 | .int _,.non=>some false
 | .str _,.non=>some false
 | .ref _,.non=>some false
 | .tup _,.non=>some false
 | .vl _,.non=>some false
 | _,_=>none
theorem a3s {x y:D} {b:Bool} (h:isD x y=some b):(∃ p q,x = .bl p∧y = .bl q∧b=(p == q))∨(y = .non∧((x = .non∧b=true)∨(x ≠ .non∧b=false))):=by
 cases x <;> cases y <;> simp [isD] at h <;> simp [h]
theorem a8r {K:PySem.W.Frag} {H:Hp} {v:V} {x:D} (h:Has K H v x) (n:x ≠ .non):v ≠ .non:=by
 intro e; subst e; cases h; exact n rfl
def gIs (neg:Bool):DR2:=fun x y M R=>∃ b,isD x y=some b∧R (.bl (neg.xor b)) M
theorem c0y:DOp X (compareOp .Is) (gIs false):=by
 intro pins s σ H x y v u Q I rx ry h
 obtain ⟨dx,dy,M,R,hx,hy,am,⟨b,e,r⟩,f⟩:=h
 have fin:EP X pins σ Q (.bool b) s:=⟨.bl b,H,I,rfl,by have:=f _ M r (.bl b) H (KT.refl H) am (by simpa using Has.bl (K:=X.K) (H:=H) b); exact this⟩
 rcases a3s e with ⟨p,q,rfl,rfl,rfl⟩ | ⟨rfl,hx'⟩
 ·cases hx; cases hy; cases rx; cases ry
  exact is_bool fin
 ·cases hy; cases ry
  refine is_none_gen ?_
  rw [m9.none_iff rx]
  rcases hx' with ⟨rfl,rfl⟩ | ⟨n,rfl⟩
  ·cases hx; exact fin
  ·rw [decide_eq_false (a8r hx n)]; exact fin
theorem a4n:DOp X (compareOp .IsNot) (gIs true):=by
 intro pins s σ H x y v u Q I rx ry h
 obtain ⟨dx,dy,M,R,hx,hy,am,⟨b,e,r⟩,f⟩:=h
 have fin:EP X pins σ Q (.bool (!b)) s:=⟨.bl (!b),H,I,rfl,by have:=f _ M r (.bl (!b)) H (KT.refl H) am (by simpa using Has.bl (K:=X.K) (H:=H) (!b)); exact this⟩
 rcases a3s e with ⟨p,q,rfl,rfl,rfl⟩ | ⟨rfl,hx'⟩
 ·cases hx; cases hy; cases rx; cases ry
  exact isnot_bool fin
 ·cases hy; cases ry
  refine isnot_none_gen ?_
  rw [m9.none_iff rx]
  rcases hx' with ⟨rfl,rfl⟩ | ⟨n,rfl⟩
  ·cases hx; exact fin
  ·rw [decide_eq_false (a8r hx n)]; exact fin
mutual
inductive PyR (M:Mem):D→PyData→Prop
 | non:PyR M .non .none
 | bl (b:Bool):PyR M (.bl b) (.bool b)
 | int (i:Int):PyR M (.int i) (.int i)
 | str (x:Str):PyR M (.str x) (.str x)
 | tup {ds:List D} {ps:List PyData}:PyRL M ds ps→PyR M (.tup ds) (.tuple ps)
 | lst {p:Addr} {ds:List D} {ps:List PyData}:M p=some (.lst ds)→PyRL M ds ps→PyR M (.ref p) (.list ps)
 | vl {ds:List D} {ps:List PyData}:PyRL M ds ps→PyR M (.vl ds) (.list ps)
inductive PyRL (M:Mem):List D→List PyData→Prop
 | nil:PyRL M [] []
 | cons {d:D} {p:PyData} {ds:List D} {ps:List PyData}:PyR M d p→PyRL M ds ps→PyRL M (d :: ds) (p :: ps)
end
mutual
theorem F7 {pins:List (Addr × Obj)} {s:Shared} {σ:St} {H:Hp} {M:Mem} (I:Inv X pins σ H s) (am:p0 X.K H M):∀ {d:D} {p:PyData},PyR M d p→∀ {v:V} {u:Value},Has X.K H v d→m9 v u→∃ as,Reads s.heap u p as
 | _,_,.non,_,_,h,r=>by cases h; cases r; exact ⟨_,.none⟩
 | _,_,.bl b,_,_,h,r=>by cases h; cases r; exact ⟨_,.bool b⟩
 | _,_,.int i,_,_,h,r=>by cases h; obtain ⟨t,rfl⟩:=r; exact ⟨_,.int i t⟩
 | _,_,.str x,_,_,h,r=>by cases h; obtain ⟨t,rfl⟩:=r; exact ⟨_,.str x t⟩
 | _,_,.tup l,_,_,h,r=>by
  cases h with
  | tup s' hl =>
   cases r
   obtain ⟨its,rv,⟨o,e,hc,n,hd⟩,_⟩:=I.tuple s'
   obtain ⟨as,ra⟩:=readsL_of I am l hl rv
   exact ⟨as,.tuple e hc hd (by simpa using ra)⟩
 | _,_,.lst m l,_,_,h,r=>by
  cases h
  cases r
  obtain ⟨xs,hx,hl⟩:=am.lst m
  obtain ⟨its,rv,⟨o,n,e,hc,_,hd⟩,_⟩:=I.list (SqL.of hx)
  obtain ⟨as,ra⟩:=readsL_of I am l hl rv
  exact ⟨_,.list e hc hd (by simpa using ra)⟩
 | _,_,.vl l,_,_,h,r=>by
  obtain ⟨a,xs,rfl,sq,hl⟩:=h.il
  cases r
  obtain ⟨its,rv,⟨o,n,e,hc,_,hd⟩,_⟩:=I.list sq
  obtain ⟨as,ra⟩:=readsL_of I am l hl rv
  exact ⟨_,.list e hc hd (by simpa using ra)⟩
theorem readsL_of {pins:List (Addr × Obj)} {s:Shared} {σ:St} {H:Hp} {M:Mem} (I:Inv X pins σ H s) (am:p0 X.K H M):∀ {ds:List D} {ps:List PyData},PyRL M ds ps→∀ {vs:List V} {us:List Value},HasL X.K H vs ds→j9 vs us→∃ as,ReadsAll s.heap us ps as
 | _,_,.nil,_,_,h,r=>by cases h; cases r; exact ⟨_,.nil⟩
 | _,_,.cons a l,_,_,h,r=>by
  cases h with
  | cons h hl =>
   cases r with
   | cons r rl =>
    obtain ⟨as,q⟩:=F7 I am a h r
    obtain ⟨bs,q2⟩:=readsL_of I am l hl rl
    exact ⟨_,.cons q q2⟩
end
def gEq (neg:Bool):DR2:=fun x y M R=>∃ px py,PyR M x px∧PyR M y py∧SeqAt.shaped px=true∧SeqAt.shaped py=true∧R (.bl (neg.xor (PyData.eqv px py))) M
theorem c0z (hu:X.A.units+64<cLine):DOp X (compareOp .Eq) (gEq false):=by
 intro pins s σ H x y v u Q I rx ry h
 obtain ⟨dx,dy,M,R,hx,hy,am,⟨px,py,p1,p2,s1,s2,r⟩,f⟩:=h
 obtain ⟨as,r1⟩:=F7 I am p1 hx rx
 obtain ⟨bs,r2⟩:=F7 I am p2 hy ry
 exact eq_dataH r1 r2 s1 s2 hu ⟨.bl _,H,I,rfl,by have:=f _ M r _ H (KT.refl H) am (.bl _); simpa using this⟩
theorem c0x (hu:X.A.units+64<cLine):DOp X (compareOp .NotEq) (gEq true):=by
 intro pins s σ H x y v u Q I rx ry h
 obtain ⟨dx,dy,M,R,hx,hy,am,⟨px,py,p1,p2,s1,s2,r⟩,f⟩:=h
 obtain ⟨as,r1⟩:=F7 I am p1 hx rx
 obtain ⟨bs,r2⟩:=F7 I am p2 hy ry
 exact ne_dataH r1 r2 s1 s2 hu ⟨.bl _,H,I,rfl,by have:=f _ M r _ H (KT.refl H) am (.bl _); simpa using this⟩
mutual
def pyD:D→PyData
 | .int i=>.int i
 | .str x=>.str x
 | .bl b=>.bool b
 | .tup ds=>.tuple (pyDL ds)
 | .vl ds=>.list (pyDL ds)
 | _=>.none
def pyDL:List D→List PyData
 | []=>[]
 | d :: r=>pyD d :: pyDL r
end
mutual
def cl:Nat→D→Bool
 | _,.int _=>true
 | _,.non=>true
 | _,.str x=>PyData.canLay0 (.str x)
 | k+1,.tup ds=>clL k ds
 | k+1,.vl ds=>clL k ds
 | _,_=>false
def clL:Nat→List D→Bool
 | _,[]=>true
 | k,d :: r=>cl k d && clL k r
end
mutual
theorem a3w {M:Mem}:∀ {k:Nat} {d:D},cl k d=true→PyR M d (pyD d)∧(pyD d).canLay0=true∧(pyD d).depth≤k
 | _,.int i,_=>⟨.int i,rfl,Nat.zero_le _⟩
 | _,.non,_=>⟨.non,rfl,Nat.zero_le _⟩
 | 0,.tup ds,h=>by simp [cl] at h
 | k+1,.tup ds,h=>by
  obtain ⟨a,b,c⟩:=clL_py (M:=M) (k:=k) (ds:=ds) (by simpa [cl] using h)
  exact ⟨.tup a,by simpa [pyD,PyData.canLay0] using b,by simp only [pyD,PyData.depth]; omega⟩
 | _,.str x,h=>⟨.str x,by simpa [cl,pyD] using h,Nat.zero_le _⟩
 | _,.bl _,h=>by simp [cl] at h
 | _,.ref _,h=>by simp [cl] at h
 | 0,.vl ds,h=>by simp [cl] at h
 | k+1,.vl ds,h=>by
  obtain ⟨a,b,c⟩:=clL_py (M:=M) (k:=k) (ds:=ds) (by simpa [cl] using h)
  exact ⟨.vl a,by simpa [pyD,PyData.canLay0] using b,by simp only [pyD,PyData.depth]; omega⟩
 | _,.ty _,h=>by simp [cl] at h
theorem clL_py {M:Mem}:∀ {k:Nat} {ds:List D},clL k ds=true→PyRL M ds (pyDL ds)∧PyData.canLayAll0 (pyDL ds)=true∧PyData.depthAll (pyDL ds)≤k
 | _,[],_=>⟨.nil,rfl,Nat.zero_le _⟩
 | k,d :: r,h=>by
  have h':cl k d=true∧clL k r=true:=by simpa [clL] using h
  obtain ⟨a,b,c⟩:=a3w (M:=M) h'.1
  obtain ⟨a2,b2,c2⟩:=clL_py (M:=M) h'.2
  exact ⟨.cons a a2,by simp [pyDL,PyData.canLayAll0,b,b2],by simp only [pyDL,PyData.depthAll]; omega⟩
end
mutual
theorem a7m:∀ {k j:Nat} {x y:D},cl k x=true→cl j y=true→(PyData.eqv (pyD x) (pyD y)=true↔x=y)
 | _,_,.int i,.int j,_,_=>by simp [pyD,PyData.eqv]
 | _,_,.int i,.non,_,_=>by simp [pyD,PyData.eqv]
 | _,_,.non,.int i,_,_=>by simp [pyD,PyData.eqv]
 | _,_,.non,.non,_,_=>by simp [pyD,PyData.eqv]
 | _,_,.int i,.tup ds,_,_=>by simp [pyD,PyData.eqv]
 | _,_,.non,.tup ds,_,_=>by simp [pyD,PyData.eqv]
 | _,_,.tup ds,.int i,_,_=>by simp [pyD,PyData.eqv]
 | _,_,.tup ds,.non,_,_=>by simp [pyD,PyData.eqv]
 | k+1,j+1,.tup ds,.tup es,h,h'=>by
  have:=clL_eqv (k:=k) (j:=j) (xs:=ds) (ys:=es) (by simpa [cl] using h) (by simpa [cl] using h')
  simp only [pyD,PyData.eqv,D.tup.injEq]
  exact this
 | 0,_,.tup ds,.tup es,h,_=>by simp [cl] at h
 | _,0,.tup ds,.tup es,_,h=>by simp [cl] at h
 | _,_,.str x,.str y,_,_=>by simp [pyD,PyData.eqv]
 | _,_,.str x,.int i,_,_=>by simp [pyD,PyData.eqv]
 | _,_,.str x,.non,_,_=>by simp [pyD,PyData.eqv]
 | _,_,.str x,.tup ds,_,_=>by simp [pyD,PyData.eqv]
 | _,_,.int i,.str x,_,_=>by simp [pyD,PyData.eqv]
 | _,_,.non,.str x,_,_=>by simp [pyD,PyData.eqv]
 | _,_,.tup ds,.str x,_,_=>by simp [pyD,PyData.eqv]
 | k+1,j+1,.vl ds,.vl es,h,h'=>by
  have:=clL_eqv (k:=k) (j:=j) (xs:=ds) (ys:=es) (by simpa [cl] using h) (by simpa [cl] using h')
  simp only [pyD,PyData.eqv,D.vl.injEq]
  exact this
 | 0,_,.vl ds,.vl es,h,_=>by simp [cl] at h
 | _,0,.vl ds,.vl es,_,h=>by simp [cl] at h
 | _,_,.vl ds,.int i,_,_=>by simp [pyD,PyData.eqv]
 | _,_,.vl ds,.non,_,_=>by simp [pyD,PyData.eqv]
 | _,_,.vl ds,.str x,_,_=>by simp [pyD,PyData.eqv]
 | _,_,.vl ds,.tup es,_,_=>by simp [pyD,PyData.eqv]
 | _,_,.int i,.vl ds,_,_=>by simp [pyD,PyData.eqv]
 | _,_,.non,.vl ds,_,_=>by simp [pyD,PyData.eqv]
 | _,_,.str x,.vl ds,_,_=>by simp [pyD,PyData.eqv]
 | _,_,.tup es,.vl ds,_,_=>by simp [pyD,PyData.eqv]
 | _,_,.bl _,_,h,_=>by simp [cl] at h
 | _,_,.ref _,_,h,_=>by simp [cl] at h
 | _,_,.ty _,_,h,_=>by simp [cl] at h
 | _,_,_,.bl _,_,h=>by simp [cl] at h
 | _,_,_,.ref _,_,h=>by simp [cl] at h
 | _,_,_,.ty _,_,h=>by simp [cl] at h
theorem clL_eqv:∀ {k j:Nat} {xs ys:List D},clL k xs=true→clL j ys=true→(PyData.eqvAll (pyDL xs) (pyDL ys)=true↔xs=ys)
 | _,_,[],[],_,_=>by simp [pyDL,PyData.eqvAll]
 | _,_,[],_ :: _,_,_=>by simp [pyDL,PyData.eqvAll]
 | _,_,_ :: _,[],_,_=>by simp [pyDL,PyData.eqvAll]
 | k,j,x :: xs,y :: ys,h,h'=>by
  have h1:cl k x=true∧clL k xs=true:=by simpa [clL] using h
  have h2:cl j y=true∧clL j ys=true:=by simpa [clL] using h'
  have e1:=a7m h1.1 h2.1
  have e2:=clL_eqv h1.2 h2.2
  simp only [pyDL,PyData.eqvAll,Bool.and_eq_true,e1,e2,List.cons.injEq]
end
open Classical in
theorem b1z {neg:Bool} {x y:D} {M:Mem} {R:DK} (h:R (.bl (neg.xor (decide (x=y)))) M) (hx:cl 60 x=true:=by rfl) (hy:cl 60 y=true:=by rfl):gEq neg x y M R:=by
 obtain ⟨a,b,c⟩:=a3w (M:=M) hx
 obtain ⟨a2,b2,c2⟩:=a3w (M:=M) hy
 refine ⟨_,_,a,a2,?_,?_,?_⟩
 ·simp only [SeqAt.shaped,b,Bool.true_and]; exact decide_eq_true (by omega)
 ·simp only [SeqAt.shaped,b2,Bool.true_and]; exact decide_eq_true (by omega)
 ·have e:PyData.eqv (pyD x) (pyD y)=decide (x=y):=by
   have:=a7m hx hy
   by_cases q:x=y
   ·rw [decide_eq_true q]; exact this.mpr q
   ·rw [decide_eq_false q]
    cases z:PyData.eqv (pyD x) (pyD y) with
    | false=>rfl
    | true=>exact absurd (this.mp z) q
  rw [e]; exact h
def tyD (M:Mem):D→Option String
 | .non=>some "NoneType"
 | .bl _=>some "bool"
 | .int _=>some "int"
 | .str _=>some "str"
 | .tup _=>some "tuple"
 | .ref p=>match M p with
  | some (.lst _)=>some "list"
  | _=>none
 | .vl _=>some "list"
 | .ty _=>none
 | .dic=>some "dict"
def b3v (t T:String):Option Bool:=if t=T then some true else
 match t,T with
 | "bool", "int" => some true
 | _,_=>if (t∈["NoneType", "bool", "int", "str", "tuple", "list", "dict"])∧(T∈["bool", "int", "str", "tuple", "list"]) then some false else none
def b2q (K:PySem.W.Frag):Prop:=∀ t T b,b3v t T=some b→PySem.W.kitOne K (.type t) (.type T)=some b
theorem c0L {x:Str} {n:String} (hg:Gl X x) (hm:X.mg x=none) (hv:bootBuiltins x=some (.type n)) (hn:x ≠ "__name__" := by decide) (hd:(x == ("__debug__" : Str))=false:=by decide):DPE X (.Name x pos) (dC (.ty n)) :=
 T1 (v:=.ty n) (b3X hg hm hv rfl hn hd) fun _=>.ty n
theorem b5U {x:Str} {n:String} (hg:Gl X x) (hm:X.mg x=none) (hv:bootBuiltins x=some (.type n)) (hn:x ≠ "__name__" := by decide) (hd:(x == ("__debug__" : Str))=false:=by decide):JE X (.Name x pos) (dC (.ty n)):=⟨c0L hg hm hv hn hd⟩
def z9:DRC:=fun ds M R=>∃ d t T b,ds=[d,.ty T]∧tyD M d=some t∧b3v t T=some b∧R (.bl b) M
theorem b58 (hk:b2q X.K):R6 X (.builtin "isinstance") z9:=by
 intro pins s σ H xs us Q I rv h
 obtain ⟨ds,M,R,hl,am,⟨d,t,T,b,rfl,ht,hb,r⟩,f⟩:=h
 obtain ⟨v,v',rfl,h1,h2⟩:=hl.two
 cases h2
 obtain ⟨u,w',rfl,r1,r2⟩:=b0o rv
 cases (show w'=Value.type T from r2)
 have e:=hk t T b hb
 have fin:∀ tk,EP X pins σ Q (.bool b) { s with toks:=tk }:=fun tk=>⟨.bl b,H,I.tok tk,rfl,f _ M r _ H (KT.refl H) am (.bl b)⟩
 cases h1 with
 | non=>cases ht; exact K6 I r1 .non e fin
 | bl q=>cases ht; exact K6 I r1 (.bl q) e fin
 | int q=>cases ht; exact K6 I r1 (.int q) e fin
 | str q=>cases ht; exact K6 I r1 (.str q) e fin
 | ty q=>cases ht
 | ref p =>
  unfold tyD at ht
  cases q:M p with
  | none=>simp [q] at ht
  | some o =>
   cases o with
   | lst es =>
    simp only [q] at ht
    cases ht
    obtain ⟨ys,hy,_⟩:=am.lst q
    exact K6 I r1 (.lst hy) e fin
 | tup s' l =>
  cases ht
  cases (show u=Value.ref _ from r1)
  obtain ⟨its,_,⟨o,h1,h2,_⟩,_⟩:=I.tuple s'
  exact PySem.W.kia_one PySem.W.kitx_tuple I.kIn ⟨o,h1,h2⟩ e (fun z=>nomatch z) fin
 | vl hq hl' =>
  cases ht
  cases (show u=Value.ref _ from r1)
  obtain ⟨_,_,ea,sq,_⟩:=Has.il (.vl hq hl')
  cases ea
  obtain ⟨its,_,⟨o,n,h1,h2,_⟩,_⟩:=I.list sq
  exact PySem.W.kia_one PySem.W.kitx_list I.kIn ⟨o,h1,h2⟩ e (fun z=>nomatch z) fin
 | dic hq =>
  cases ht
  cases (show u=Value.ref _ from r1)
  obtain ⟨o,g1,g2⟩:=hq
  exact PySem.W.kia_one PySem.W.kitx_dict I.kIn ⟨o,(I.hok _ _ g1).1,g2⟩ e (fun z=>nomatch z) fin
theorem b4m:MtR X "int.bit_length" (fun x xs H Q=>∃ i,x = .int i∧xs=[]∧Q (.int (Builtin.Int.intBits i:Nat)) H):=by
 intro pins s σ H x xs v us Q I rx rv h
 obtain ⟨i,rfl,rfl,q⟩:=h
 cases rv
 obtain ⟨t,rfl⟩:=rx
 exact call_int_bit_length ⟨.int _,H,I.tok _,⟨_,rfl⟩,q⟩
end
end DL
namespace DL
open PySem PySem.Spec L2
open PyProof.Rows hiding St
section
variable {X:Cx} {a b c:Expr} {ta tb tc:DTE} {pos:Pos}
def Y0:DXK:=fun _ _=>False
theorem c0K {K:PySem.W.Frag} {H:Hp} {E:XK}:b8s K H Y0 E:=fun _ _ h=>h.elim
structure b5a (K:PySem.W.Frag) (x:Str) (st:Stmt) (f:Addr) (fd:FuncData):Prop where
 ex:∃ (oc:Value) (od:Option Addr) (dV kV doc pm:Value) (an:Option Addr) (cdv ct:Value) (osl:Array (Option Value)),
  fd=PySem.W.fnOf x x (N8 st) (F2 st) (d9 st) dV kV doc pm an cdv ct∧K.lookup f=some ⟨oc,od,.func fd,osl⟩∧PySem.W.codeIn K cdv x=true
 kp:PySem.W.keepIn K (.ref f)=true
structure Df (K:PySem.W.Frag) (mg:Str→Option Value) (x:Str) (st:Stmt) (ps:List Str):Prop where
 ex:∃ (f:Addr) (fd:FuncData),b5a K x st f fd∧mg x=some (.ref f)∧a2g K fd ps []
structure DfL (K:PySem.W.Frag) (mg:Str→Option Value) (x:Str) (st:Stmt) (ps:List Str):Prop where
 ex:∃ (f:Addr) (fd:FuncData),b5a K x st f fd∧mg x=some (.ref f)∧∀ us:List Value,us.length=ps.length→bindArgs fd ⟨us,[]⟩=pure (ps.zip us)
structure Fn (P:Program) (w:World) (K:PySem.W.Frag) (mg:Str→Option Value) (base:Heap) (x:Str) (k:Nat) (ps:List Str) (sp:DSp):Prop where
 ex:∃ (f:Addr) (fd:FuncData),O6 P w K mg base CX0 k f fd ps (a5d K sp)∧mg x=some (.ref f)∧PySem.W.keepIn K (.ref f)=true∧a2g K fd ps []
theorem b4V {x:Str} {j:Nat} {ps:List Str} {sp:DSp} {p:Pos} {e:Expr} {es:List Expr} {t:DTA} (G:Fn X.prog X.w X.K X.mg X.base x j ps sp) (hr:D6 j X.A) (hg:Gl X x) (ha:DPA X (e :: es) t)
  (hdb:(x == ("__debug__" : Str))=false:=by decide) (he:starEach (e :: es) X.env=(false,eval e X.env) :: starEach es X.env:=by rfl) (hpl:(backTo pos (starEach es X.env)).any (·.1)=false:=by rfl) :
  DPE X (.Call (.Name x p) (e :: es) [] pos) (a50 sp [] Y0 t):=by
 obtain ⟨f,fd,F,hm,hk,hb⟩:=G.ex
 exact b7V F hr hg hm hk hb .nil (fun _=>.nil) b9n (fun _=>c0K) ha hdb he hpl
theorem b1q {x:Str} {j:Nat} {ps:List Str} {sp:DSp} {p:Pos} {e:Expr} {es:List Expr} {t:DTA} (G:Fn X.prog X.w X.K X.mg X.base x j ps sp) (hr:D6 j X.A) (hg:Gl X x) (ha:JA X (e :: es) t)
  (hdb:(x == ("__debug__" : Str))=false:=by decide) (he:starEach (e :: es) X.env=(false,eval e X.env) :: starEach es X.env:=by rfl) (hpl:(backTo pos (starEach es X.env)).any (·.1)=false:=by rfl):JE X (.Call (.Name x p) (e :: es) [] pos) (a50 sp [] Y0 t):=⟨b4V G hr hg ha.out hdb he hpl⟩
end
section
variable {P:Program} {w:World} {K:PySem.W.Frag} {mg:Str→Option Value} {base:Heap}
theorem b5Z {x:Str} {st:Stmt} {f:Addr} {fd:FuncData} {N ps:List Str} {k:Nat} {sp:DSp} (F:b5a K x st f fd) (S:f6 N ps (d9 st)) (len:∀ ds M R Y,sp ds M R Y→ds.length=ps.length)
  (hbody:∀ (cdv:Value) (A:Around) (outer:List Env) (s:Shared) (H:Hp) (E:XK) (ds:List D) (M:Mem) (R:DK) (Y:DXK),D6 k (A.deeper (envOfC x (d9 st) s.heap.objs.size f cdv))→sp ds M R Y →
   ∃ t,JSs (a7l CX0 P w K mg base N x (d9 st) f cdv A outer s H E).nox (F2 st) t∧t { nx:=fun _ M'=>R .non M',rt:=R } (W8 N ds) M):O6 P w K mg base CX0 (k+1) f fd ps (a5d K sp):=by
 obtain ⟨oc,od,dV,kV,doc,pm,an,cdv,ct,osl,rfl,lk,hcd⟩:=F.ex
 refine b9I lk hcd S (fun vs H Q E ⟨ds,M,R,Y,hl,_,hs,_,_⟩=>by rw [hl.length]; exact len ds M R Y hs) fun A outer s H vs Q E hr zz=>?_
 obtain ⟨ds,M,R,Y,hl,am,hs,fv,fx⟩:=zz
 obtain ⟨t,h1,h2⟩:=hbody cdv A outer s H E ds M R Y hr hs
 refine ⟨_,h1.out.nox,W8 N ds,M,_,y4.start0 hl,am,h2,⟨?_,fv,fun _ _ h=>h.elim,fun _ _ h=>h.elim⟩⟩
 exact fun e M' h σ' H' kt a o=>fv .non M' h .non H' kt a .non
theorem j4 {x:Str} {st:Stmt} {N ps:List Str} {k:Nat} {sp:DSp} (d:Df K mg x st ps) (S:f6 N ps (d9 st)) (len:∀ ds M R Y,sp ds M R Y→ds.length=ps.length)
  (hbody:∀ (f:Addr) (cdv:Value) (A:Around) (outer:List Env) (s:Shared) (H:Hp) (E:XK) (ds:List D) (M:Mem) (R:DK) (Y:DXK),D6 k (A.deeper (envOfC x (d9 st) s.heap.objs.size f cdv))→sp ds M R Y →
   ∃ t,JSs (a7l CX0 P w K mg base N x (d9 st) f cdv A outer s H E).nox (F2 st) t∧t { nx:=fun _ M'=>R .non M',rt:=R } (W8 N ds) M):Fn P w K mg base x (k+1) ps sp:=by
 obtain ⟨f,fd,F,hm,hb⟩:=d.ex
 exact ⟨f,fd,b5Z F S len (hbody f),hm,F.kp,hb⟩
theorem j8 {x:Str} {st:Stmt} {ps:List Str} {h:Heap} {f:Addr} {oc:Value} {od an:Option Addr} {osl:Array (Option Value)} {dV kV doc pm cdv ct:Value} (X:K.In h) (G:h.Ns mainGlobals mg)
  (n:PySem.W.nsIn K mainGlobals x=some (some (.ref f)))
  (l:K.lookup f=some ⟨oc,od,.func (PySem.W.fnOf x x (N8 st) (F2 st) (d9 st) dV kV doc pm an cdv ct),osl⟩)
  (c:PySem.W.codeIn K cdv x=true) (k:PySem.W.keepIn K (.ref f)=true)
  (hb:∀ us:List Value,us.length=ps.length→bindArgs (PySem.W.fnOf x x (N8 st) (F2 st) (d9 st) dV kV doc pm an cdv ct) ⟨us,[]⟩=pure (ps.zip us)):Df K mg x st ps :=
 ⟨f,_,⟨⟨oc,od,dV,kV,doc,pm,an,cdv,ct,osl,rfl,l,c⟩,k⟩,PySem.W.mg_of X G n,.all hb⟩
theorem b7J {x:Str} {st:Stmt} {ps:List Str} {h:Heap} {f:Addr} {oc:Value} {od an:Option Addr} {osl:Array (Option Value)} {dV kV doc pm cdv ct:Value} (X:K.In h) (G:h.Ns mainGlobals mg)
  (n:PySem.W.nsIn K mainGlobals x=some (some (.ref f)))
  (l:K.lookup f=some ⟨oc,od,.func (PySem.W.fnOf x x (N8 st) (F2 st) (d9 st) dV kV doc pm an cdv ct),osl⟩)
  (c:PySem.W.codeIn K cdv x=true) (k:PySem.W.keepIn K (.ref f)=true)
  (hb:∀ us:List Value,us.length=ps.length→bindArgs (PySem.W.fnOf x x (N8 st) (F2 st) (d9 st) dV kV doc pm an cdv ct) ⟨us,[]⟩=pure (ps.zip us)):DfL K mg x st ps :=
 ⟨f,_,⟨⟨oc,od,dV,kV,doc,pm,an,cdv,ct,osl,rfl,l,c⟩,k⟩,PySem.W.mg_of X G n,hb⟩
theorem b7K {x:Str} {st:Stmt} {ps:List Str} {h:Heap} {f:Addr} {oc:Value} {od an:Option Addr} {osl:Array (Option Value)} {dV kV doc pm cdv ct:Value} (X:K.In h) (G:h.Ns mainGlobals mg)
  (n:PySem.W.nsIn K mainGlobals x=some (some (.ref f)))
  (l:K.lookup f=some ⟨oc,od,.func (PySem.W.fnOf x x (N8 st) (F2 st) (d9 st) dV kV doc pm an cdv ct),osl⟩)
  (c:PySem.W.codeIn K cdv x=true) (k:PySem.W.keepIn K (.ref f)=true)
  (hb:∀ us:List Value,us.length=ps.length→∀ S,PySem.W.peek K S (bindArgs (PySem.W.fnOf x x (N8 st) (F2 st) (d9 st) dV kV doc pm an cdv ct) ⟨us,[]⟩)=some (ps.zip us)):Df K mg x st ps :=
 ⟨f,_,⟨⟨oc,od,dV,kV,doc,pm,an,cdv,ct,osl,rfl,l,c⟩,k⟩,PySem.W.mg_of X G n,fun s us X' hl=>by rw [List.append_nil] at hl ⊢; exact PySem.W.kp_binds X' (hb us hl)⟩
end
section
variable {X:Cx} {x:Str} {p pos:Pos} {e:Expr} {es:List Expr} {t:DTA} {id T:String} {o:Expr} {to:DTE} {a b c:Expr} {ta tb tc:DTE}
theorem b9Y {g:DRC} (hc:R6 X (.builtin id) g) (hg:Gl X x) (hm:X.mg x=none) (hv:bootBuiltins x=some (.builtin id)) (ha:DPA X (e :: es) t)
  (hn:x ≠ "__name__" := by decide) (hdb:(x == ("__debug__" : Str))=false:=by decide) (he:starEach (e :: es) X.env=(false,eval e X.env) :: starEach es X.env:=by rfl) (hpl:(backTo pos (starEach es X.env)).any (·.1)=false:=by rfl):DPE X (.Call (.Name x p) (e :: es) [] pos) (dCB g t) :=
 (b00 hc hg hm hv ha hn hdb he hpl).imp fun _ _ _ h=>b57 h
theorem y8 {g:DRC} (hc:R6 X (.builtin id) g) (hg:Gl X x) (hm:X.mg x=none) (hv:bootBuiltins x=some (.builtin id)) (ha:JA X (e :: es) t)
  (hn:x ≠ "__name__" := by decide) (hdb:(x == ("__debug__" : Str))=false:=by decide) (he:starEach (e :: es) X.env=(false,eval e X.env) :: starEach es X.env:=by rfl) (hpl:(backTo pos (starEach es X.env)).any (·.1)=false:=by rfl):JE X (.Call (.Name x p) (e :: es) [] pos) (dCB g t):=⟨b9Y hc hg hm hv ha.out hn hdb he hpl⟩
theorem b7W {g:DRC} (hc:R6 X (.type T) g) (hg:Gl X x) (hm:X.mg x=none) (hv:bootBuiltins x=some (.type T)) (ha:DPA X (e :: es) t)
  (hn:x ≠ "__name__" := by decide) (hdb:(x == ("__debug__" : Str))=false:=by decide) (he:starEach (e :: es) X.env=(false,eval e X.env) :: starEach es X.env:=by rfl) (hpl:(backTo pos (starEach es X.env)).any (·.1)=false:=by rfl):DPE X (.Call (.Name x p) (e :: es) [] pos) (dCB g t) :=
 (S2 hc hg hm hv ha hn hdb he hpl).imp fun _ _ _ h=>b57 h
theorem a8p {g:DRC} (hc:R6 X (.type T) g) (hg:Gl X x) (hm:X.mg x=none) (hv:bootBuiltins x=some (.type T)) (ha:JA X (e :: es) t)
  (hn:x ≠ "__name__" := by decide) (hdb:(x == ("__debug__" : Str))=false:=by decide) (he:starEach (e :: es) X.env=(false,eval e X.env) :: starEach es X.env:=by rfl) (hpl:(backTo pos (starEach es X.env)).any (·.1)=false:=by rfl):JE X (.Call (.Name x p) (e :: es) [] pos) (dCB g t):=⟨b7W hc hg hm hv ha.out hn hdb he hpl⟩
def b5Y:D→Mem→DK→Prop:=fun x M R=>∃ i,x = .int i∧R (.int (Builtin.Int.intBits i:Nat)) M
theorem b7X {apos cpos:Pos} (ho:DPE X o to) (hbase:attributeBase o "bit_length" X.env (eval o X.env)=eval o X.env:=by rfl) (hline:(apos.endLine == cpos.line)=true:=by rfl) :
  DPE X (.Call (.Attribute o "bit_length" apos) [] [] cpos) (dUn b5Y to) :=
 (b63 PySem.F.plainAttrs_int PySem.F.slot_int_bit_length PySem.F.type_int_bit_length b4m ho hbase hline).imp (by rintro σ H Q ⟨e,M,R,ok,am,t,f⟩; exact ⟨e,M,_,ok,am,t,fun x M1 ⟨i,z,r⟩ v H1 k1 a1 r1=>by
  subst z; cases r1; exact ⟨rfl,i,rfl,rfl,f _ M1 r _ H1 k1 a1 (.int _)⟩⟩)
theorem b4v {apos cpos:Pos} (ho:JE X o to) (hbase:attributeBase o "bit_length" X.env (eval o X.env)=eval o X.env:=by rfl) (hline:(apos.endLine == cpos.line)=true:=by rfl):JE X (.Call (.Attribute o "bit_length" apos) [] [] cpos) (dUn b5Y to):=⟨b7X ho.out hbase hline⟩
theorem b4d:OpR X (binaryOp .Add) (fun x y H Q=>∃ l b xs zs,x = .ref l∧y = .ref b∧SqL X.K H l xs∧SqL X.K H b zs∧xs.length+zs.length≤sizeLine∧∀ p,H p=none→Q (.ref p) (upd H p (.lst (xs++zs)))):=by
 intro pins s σ H x y v u Q I rx ry h
 obtain ⟨l,b,xs,zs,rfl,rfl,hH,hB,hz,q⟩:=h
 cases rx
 cases ry
 obtain ⟨its,r,pl,z1⟩:=I.list hH
 obtain ⟨its2,r2,pl2,z2⟩:=I.list hB
 have hl:=r.length
 have hl2:=r2.length
 obtain ⟨⟨cls,dd,data,sl⟩,ho,hc,n,hd⟩:=pl.isList
 obtain ⟨⟨cls2,dd2,data2,sl2⟩,ho2,hc2,n2,hd2⟩:=pl2.isList
 simp only at hc hd hc2 hd2
 subst hc hd hc2 hd2
 have ea:its.toArray++its2.toArray=(its++its2).toArray:=by simp
 refine concat_meets ⟨_,ho,rfl⟩ ⟨_,ho2,rfl⟩ noFill_list_add seq_list_add PySem.F.slot_list_add PySem.F.entry_list_add (PySem.F.args_list_add_2 _ _) (list_addW l b its.toArray its2.toArray n n2 dd dd2 sl sl2 (by simp only [List.size_toArray]; omega)) ⟨ho,ho2,?_⟩
 rw [ea]
 exact ⟨.ref _,_,I.lnew (t':=s.toks) (r.append r2) (by rw [List.length_append]; omega),rfl,q _ I.fresh⟩
def Q8 (M:Mem):D→Option (List D)
 | .ref p=>match M p with
  | some (.lst ds)=>some ds
  | _=>none
 | .vl ds=>some ds
 | _=>none
theorem C8 {K:PySem.W.Frag} {H:Hp} {M:Mem} {v:V} {d:D} {ds:List D} (am:p0 K H M) (h:Has K H v d) (e:Q8 M d=some ds):∃ a xs,v = .ref a∧SqL K H a xs∧HasL K H xs ds:=by
 cases h with
 | ref p =>
  unfold Q8 at e
  cases q:M p with
  | none=>simp [q] at e
  | some o =>
   cases o with
   | lst es =>
    simp only [q] at e
    cases e
    obtain ⟨xs,hx,l⟩:=am.lst q
    exact ⟨p,xs,rfl,SqL.of hx,l⟩
 | vl hq hl =>
  cases e
  exact Has.il (.vl hq hl)
 | _=>cases e
end
end DL
namespace DL
open PySem PySem.Spec L2
open PyProof.Rows hiding St
end DL
namespace DL
open PySem PySem.Spec L2
open PyProof.Rows hiding St
theorem sl (n:Nat) (h:n≤1000:=by decide):n≤sizeLine:=Nat.le_trans h (by decide)
section
variable {X:Cx}
open Classical in
def b7x (neg:Bool):DR2:=fun x y M R=>cl 60 x=true∧cl 60 y=true∧R (.bl (neg.xor (decide (x=y)))) M
theorem U1 (hu:X.A.units+64<cLine):DOp X (compareOp .Eq) (b7x false):=OpR.imp (c0z hu) (by rintro _ _ _ _ ⟨dx,dy,M,R,hx,hy,am,⟨h1,h2,h3⟩,f⟩; exact ⟨dx,dy,M,R,hx,hy,am,b1z h3 h1 h2,f⟩)
theorem b09 (hu:X.A.units+64<cLine):DOp X (compareOp .NotEq) (b7x true):=OpR.imp (c0x hu) (by rintro _ _ _ _ ⟨dx,dy,M,R,hx,hy,am,⟨h1,h2,h3⟩,f⟩; exact ⟨dx,dy,M,R,hx,hy,am,b1z h3 h1 h2,f⟩)
theorem a0I:DOp X (compareOp .Eq) (gF (fI fun i j=>.bl (decide (i=j)))):=OpR.imp b5R (by
 rintro x y H Q ⟨dx,dy,M,R,hx,hy,am,⟨z,e,r⟩,f⟩
 obtain ⟨i,j,e1,e2,e3⟩:=a4v e
 subst e1; subst e2; subst e3
 cases hx; cases hy
 refine ⟨rfl,?_⟩
 have e:decide (V.int i=V.int j)=decide (i=j):=by simp
 rw [e]
 exact f _ M r _ H (KT.refl H) am (.bl _))
theorem a5L:DOp X (compareOp .NotEq) (gF (fI fun i j=>.bl (!decide (i=j)))):=OpR.imp b5Q (by
 rintro x y H Q ⟨dx,dy,M,R,hx,hy,am,⟨z,e,r⟩,f⟩
 obtain ⟨i,j,e1,e2,e3⟩:=a4v e
 subst e1; subst e2; subst e3
 cases hx; cases hy
 refine ⟨rfl,?_⟩
 have e:decide (V.int i=V.int j)=decide (i=j):=by simp
 rw [e]
 exact f _ M r _ H (KT.refl H) am (.bl _))
end
theorem a9h {c:Prop} [Decidable c] {A B:Prop} (h1:c→A) (h2:¬ c→B):if decide c=true then A else B:=by
 by_cases h:c
 ·rw [if_pos (decide_eq_true h)]; exact h1 h
 ·rw [if_neg (by rw [decide_eq_false h]; exact Bool.false_ne_true)]; exact h2 h
theorem b1r {c:Prop} [Decidable c] {A B:Prop} (h1:¬ c→A) (h2:c→B):if (!decide c)=true then A else B:=by
 by_cases h:c
 ·rw [decide_eq_true h]; rw [if_neg (by decide)]; exact h2 h
 ·rw [decide_eq_false h]; rw [if_pos (by decide)]; exact h1 h
theorem F8 {n k:Nat} (h:n<2 ^ k) (hk:0<k):n.log2<k:=by
 rcases Nat.eq_zero_or_pos n with h0 | h0
 ·subst h0; rw [Nat.log2_zero]; exact hk
 ·exact (Nat.log2_lt (Nat.pos_iff_ne_zero.mp h0)).mpr h
theorem A2 {a b:Int} (m n:Nat) (ha:a.natAbs<2 ^ m) (hb:b.natAbs<2 ^ n) (h:m+n≤100000):IntMulOk a b:=by
 have hx:∀ (x:Int) (k:Nat),x.natAbs<2 ^ k→Builtin.Int.intBits x≤k:=fun x k hx=>by
  unfold Builtin.Int.intBits
  split
  ·exact Nat.zero_le _
  ·rename_i h0
   have:x.natAbs≠0:=by
    intro z; apply h0
    first | exact (by simpa using Int.natAbs_eq_zero.mp z) | (simp; omega)
   have:=(Nat.log2_lt this).mpr hx
   omega
 exact PySem.IntMulOk.of_le (hx a m ha) (hx b n hb) (by omega)
end DL
namespace DL
open PySem PySem.Spec L2
open PyProof.Rows hiding St
def c0B (t T:String):Option Bool:=if PySem.W.kitMeta T=true then (fastBuiltinMro t).map (·.contains (.type T)) else none
theorem b9a (K:PySem.W.Frag):b2q K:=by
 intro t T b h
 unfold b3v at h
 by_cases e:t=T
 ·subst e
  rw [if_pos rfl] at h
  cases h
  unfold PySem.W.kitOne
  rw [if_pos (beq_self_eq_true _)]
 ·rw [if_neg e] at h
  have hne:¬ (Value.type t == Value.type T)=true:=fun z=>e (by have:=eq_of_beq z; injection this)
  unfold PySem.W.kitOne
  rw [if_neg hne]
  show c0B t T=some b
  split at h
  ·cases h; decide +kernel
  ·split at h
   ·rename_i hh
    obtain ⟨ht,hT⟩:=hh
    simp only [List.mem_cons,List.not_mem_nil,or_false] at ht hT
    cases h
    rcases ht with rfl | rfl | rfl | rfl | rfl | rfl | rfl <;> rcases hT with rfl | rfl | rfl | rfl | rfl <;> first | exact absurd rfl e | decide +kernel | (exfalso; simp_all)
   ·cases h
theorem a7a {K:PySem.W.Frag} {H:Hp} {a:Addr} {ns:List Int} (hO:a9x H) (hS:SqL K H a (ns.map V.int)):Has K H (.ref a) (.vl (ns.map D.int)):=by
 rcases hS with (h | ⟨o,h⟩) | h
 ·rcases hO a with z | ⟨o,xs,z⟩
  ·rw [z] at h; cases h
  ·rw [z] at h; cases h
 ·exact .vl (.inl ⟨o,h⟩) (HasL.ints ns)
 ·exact .vl (.inr fun _=>.inr h) (HasL.ints ns)
theorem b7k {K:PySem.W.Frag} {H:Hp} {a:Addr} {ns:List Int} {sp:DSp} (hO:a9x H) (hS:SqL K H a (ns.map V.int)) (h:sp [.vl (ns.map D.int)] (fun _=>none) (fun d _=>d = .bl true) Y0) :
  a5d K sp [.ref a] H (fun v _=>v = .bl true) (fun _ _ _=>False) :=
 ⟨[.vl (ns.map D.int)],fun _=>none,fun d _=>d = .bl true,Y0,.cons (a7a hO hS) .nil,fun _ _ z=>(by cases z),h,fun d M' e v H' _ _ hv=>by subst e; cases hv; rfl,fun _ _ z=>z.elim⟩
end DL
namespace DL
open PySem PySem.Spec L2
open PyProof.Rows hiding St
section
variable {X:Cx} {o e:Expr} {es:List Expr} {to:DTE} {t:DTA} {name:Str} {apos cpos:Pos} {id:String}
abbrev DRM:=D→List D→Mem→DK→Prop
def upM (K:PySem.W.Frag) (g:DRM):V→List V→Hp→VK→Prop:=fun x xs H Q=>∃ dx ds M R,Has K H x dx∧HasL K H xs ds∧p0 K H M∧g dx ds M R∧a2c K H R Q
def DMt (X:Cx) (id:String) (g:DRM):Prop:=MtR X id (upM X.K g)
theorem MtR.imp {r r':V→List V→Hp→VK→Prop} (h:MtR X id r) (i:∀ x xs H Q,r' x xs H Q→r x xs H Q):MtR X id r':=fun pins s σ H x xs v us Q I rx rv q=>h pins s σ H x xs v us Q I rx rv (i x xs H Q q)
def dLM (g:DRM) (to:DTE) (t:DTA):DTE:=fun e M R=>to e M fun x M1=>(∃ l ds,x = .ref l∧M1 l=some (.lst ds))∧t e M1 fun xs M2=>g x xs M2 R
theorem c0P {g:DRM} (slot:Slot "list" name id) (hty:typeOf (.builtin id)=pure (.type "method_descriptor")) (hm:DMt X id g) (ho:DPE X o to) (ha:DPA X (e :: es) t)
  (hbase:attributeBase o name X.env (eval o X.env)=eval o X.env:=by rfl)
  (hfew:((backTo cpos (starEach (e :: es) X.env)).all (fun x=>!x.1) && (backToKw cpos (keywordEach [] X.env)).all (fun x=>x.1.isSome)
   && decide ((e :: es).length+([]:List Keyword).length+(if ([]:List Keyword).isEmpty then 0 else 1)<30))=true:=by rfl)
  (hline:(apos.endLine == cpos.line)=true:=by rfl) (hs:starEach (e :: es) X.env=(false,eval e X.env) :: starEach es X.env:=by rfl) (hplain:(backTo cpos (starEach es X.env)).any (·.1)=false:=by rfl) :
  DPE X (.Call (.Attribute o name apos) (e :: es) [] cpos) (dLM g to t) :=
 (b9l PySem.F.plainAttrs_list slot hty hm ho ha hbase hfew hline hs hplain).imp (by rintro σ H Q ⟨e,M,R,ok,am,t,f⟩; exact ⟨e,M,_,ok,am,t,fun x M1 ⟨⟨l,ds,z,hM⟩,h1⟩ v H1 k1 a1 r1=>by
  subst z
  have r1':=r1
  cases r1
  obtain ⟨xs,hx,_⟩:=a1.lst hM
  refine ⟨.inl ⟨rfl,xs,SqL.of hx⟩,e,M1,_,ok.mono k1,a1,h1,fun zs M2 h2 vs H2 k2 a2 r2=>?_⟩
  exact ⟨_,zs,M2,R,r1'.mono k2,r2,a2,h2,f.mono (k1.trans k2)⟩⟩)
theorem a0L {g:DRM} (slot:Slot "list" name id) (hty:typeOf (.builtin id)=pure (.type "method_descriptor")) (hm:DMt X id g) (ho:JE X o to) (ha:JA X (e :: es) t)
  (hbase:attributeBase o name X.env (eval o X.env)=eval o X.env:=by rfl)
  (hfew:((backTo cpos (starEach (e :: es) X.env)).all (fun x=>!x.1) && (backToKw cpos (keywordEach [] X.env)).all (fun x=>x.1.isSome)
   && decide ((e :: es).length+([]:List Keyword).length+(if ([]:List Keyword).isEmpty then 0 else 1)<30))=true:=by rfl)
  (hline:(apos.endLine == cpos.line)=true:=by rfl) (hs:starEach (e :: es) X.env=(false,eval e X.env) :: starEach es X.env:=by rfl) (hplain:(backTo cpos (starEach es X.env)).any (·.1)=false:=by rfl):JE X (.Call (.Attribute o name apos) (e :: es) [] cpos) (dLM g to t):=⟨c0P slot hty hm ho.out ha.out hbase hfew hline hs hplain⟩
def fB (f:Bool→Bool→D):D→D→Option D
 | .bl i,.bl j=>some (f i j)
 | _,_=>none
theorem b4F {f:Bool→Bool→D} {x y z:D} (h:fB f x y=some z):∃ i j,x = .bl i∧y = .bl j∧z=f i j:=by
 cases x with
 | bl i =>
  cases y with
  | bl j=>exact ⟨i,j,rfl,rfl,(Option.some.inj h).symm⟩
  | _=>cases h
 | _=>cases h
theorem b5S:DOp X (compareOp .NotEq) (gF (fB fun i j=>.bl (!(i == j)))):=OpR.imp b5Q (by
 rintro x y H Q ⟨dx,dy,M,R,hx,hy,am,⟨z,e,r⟩,f⟩
 obtain ⟨i,j,e1,e2,e3⟩:=b4F e
 subst e1; subst e2; subst e3
 cases hx; cases hy
 exact ⟨rfl,by rw [a7g]; exact f _ M r _ H (KT.refl H) am (.bl _)⟩)
end
end DL
namespace DL
open PySem PySem.Spec L2
open PyProof.Rows hiding St
section
variable {X:Cx}
def b5V:DRC:=fun ds M R=>∃ x ys,ds=[x]∧Q8 M x=some ys∧R (.tup ys) M
theorem b8e:R6 X (.type "tuple") b5V:=A7.imp a2H (by
 rintro xs H Q ⟨ds,M,R,hl,am,⟨x,ys,z,e,r⟩,f⟩
 subst z
 obtain ⟨v,rfl,hv⟩:=hl.one
 obtain ⟨a,vs,rfl,s,l⟩:=C8 am hv e
 exact ⟨a,vs,rfl,.inl ⟨s,fun p hp=>f _ M r _ _ (KT.alloc hp) (am.alloc hp) (.tup (SqT.of j2) (l.mono (KT.alloc hp)))⟩⟩)
end
end DL
namespace DL
open PySem PySem.Spec L2
open PyProof.Rows hiding St
section
variable {X:Cx} {st:Stmt} {u5:List Stmt} {t u:DTS}
def b1T (t u:DTS):DTS:=fun F e M=>∃ P:Ev→Mem→Prop,t { F with nx:=P } e M∧∀ e' M',P e' M'→u F e' M'
theorem b1I (h1:DPS X st t) (h2:a2d X u5 u):a2d X (st :: u5) (b1T t u) :=
 (a5y h1 h2).imp (by rintro E σ H ⟨e,M,F,ok,am,⟨P,t,hP⟩,f⟩; exact ⟨e,M,{ F with nx:=P },ok,am,t,⟨fun e' M' h σ' H' k a o=>⟨e',M',F,o,a,hP e' M' h,f.mono k⟩,f.rt,f.bk,f.ct⟩⟩)
theorem C7 (h1:JS X st t) (h2:JSs X u5 u):JSs X (st :: u5) (b1T t u):=⟨b1I h1.out h2.out⟩
end
section
variable {X:Cx}
end
structure GlD (K:PySem.W.Frag) (mg:Str→Option Value) (x:Str) (d:D):Prop where
 ex:∃ (v:V) (u:Value),mg x=some u∧m9 v u∧c0b K v d
theorem b4S {X:Cx} {x:Str} {d:D} {pos:Pos} (hg:Gl X x) (g:GlD X.K X.mg x d) (hd:(x == ("__debug__" : Str))=false:=by decide):DPE X (.Name x pos) (dC d):=by
 obtain ⟨v,u,h1,h2,h3⟩:=g.ex
 exact b7T hg h1 h2 h3 hd
theorem o8 {X:Cx} {x:Str} {d:D} {pos:Pos} (hg:Gl X x) (g:GlD X.K X.mg x d) (hd:(x == ("__debug__" : Str))=false:=by decide):JE X (.Name x pos) (dC d):=⟨b4S hg g hd⟩
theorem a05 {K:PySem.W.Frag} {mg:Str→Option Value} {h:Heap} {x:Str} {a:Addr} {od:Option Addr} {osl:Array (Option Value)} {i j:Int} {t u:Tok} {cap:Nat} (X:K.In h) (G:h.Ns mainGlobals mg)
  (n:PySem.W.nsIn K mainGlobals x=some (some (.ref a))) (l:K.lookup a=some ⟨.type "tuple",od,.seq #[.int i t,.int j u] cap,osl⟩):GlD K mg x (.tup [.int i,.int j]) :=
 ⟨.ref a,.ref a,PySem.W.mg_of X G n,rfl,fun H=>.tup (xs:=[.int i,.int j]) (.inr ⟨_,_,_,l,rfl,rfl,(show 2≤sizeLine by decide),.cons (show m9 (.int i) (.int i t) from ⟨t,rfl⟩) (.cons (show m9 (.int j) (.int j u) from ⟨u,rfl⟩) .nil)⟩) (.cons (.int i) (.cons (.int j) .nil))⟩
def fS (f:Str→Str→D):D→D→Option D
 | .str i,.str j=>some (f i j)
 | _,_=>none
theorem b4E {f:Str→Str→D} {x y z:D} (h:fS f x y=some z):∃ i j,x = .str i∧y = .str j∧z=f i j:=by
 cases x with
 | str i =>
  cases y with
  | str j=>exact ⟨i,j,rfl,rfl,(Option.some.inj h).symm⟩
  | _=>cases h
 | _=>cases h
section
variable {X:Cx}
theorem B5:DOp X (compareOp .Eq) (gF (fS fun i j=>.bl (decide (i=j)))):=OpR.imp b5R (by
 rintro x y H Q ⟨dx,dy,M,R,hx,hy,am,⟨z,e,r⟩,f⟩
 obtain ⟨i,j,e1,e2,e3⟩:=b4E e
 subst e1; subst e2; subst e3
 cases hx; cases hy
 refine ⟨rfl,?_⟩
 have e:decide (V.str i=V.str j)=decide (i=j):=by simp
 rw [e]
 exact f _ M r _ H (KT.refl H) am (.bl _))
end
end DL
namespace DL
open PySem PySem.Spec L2
open PyProof.Rows hiding St
structure a4H (K:PySem.W.Frag) (H1:Hp) (J:It) (ds:List D) (stay:Mem→Prop):Prop where
 go:∀ i H' M',i<ds.length→KT H1 H'→p0 K H' M'→stay M'→J.go i H'
 yld:∀ i H' M' x H'',i<ds.length→KT H1 H'→p0 K H' M'→stay M'→J.yld i H' x H''→∃ d,ds[i]? = some d∧KT H' H''∧p0 K H'' M'∧Has K H'' x d
 stop:∀ i H' M',ds.length≤i→KT H1 H'→p0 K H' M'→stay M'→J.stop i H'
 up:∀ M' p o,stay M'→M' p=none→stay (v8 M' p o)
def upI (K:PySem.W.Frag) (ti:DTI):TI:=fun σ H R=>∃ e M R',y4 K H σ e∧p0 K H M∧ti e M R'∧∀ ds stay M1,R' ds stay M1→∀ H1,KT H H1→p0 K H1 M1→∀ J,a4H K H1 J ds stay→R J H1
def DPI (X:Cx) (tg iter:Expr) (ti:DTI):Prop:=PI X tg iter (upI X.K ti)
structure JI (X:Cx) (tg iter:Expr) (ti:DTI):Prop where
 out:DPI X tg iter ti
theorem PI.imp {X:Cx} {tg iter:Expr} {wi wi':TI} (h:PI X tg iter wi) (i:∀ σ H R,wi' σ H R→wi σ H R):PI X tg iter wi':=fun pins s σ H R I q=>h pins s σ H R I (i σ H R q)
section
variable {X:Cx} {tg iter:Expr} {ti:DTE} {ta:DTA}
theorem b0k {K:PySem.W.Frag} {H1:Hp} {a:Addr} {xs:List V} {ds:List D} (s:SqT K H1 a xs) (l:HasL K H1 xs ds):a4H K H1 (Itt K a) ds (fun _=>True) where
 go:=fun i H' M' hi k _ _=>⟨xs,_,k.sq s,List.getElem?_eq_getElem (by rw [l.length]; exact hi)⟩
 yld:=fun i H' M' x H'' hi k am _ zz=>by
  obtain ⟨e,y⟩:=zz
  subst e
  obtain ⟨d,hd,r⟩:=l.getV (y xs (k.sq s))
  exact ⟨d,hd,KT.refl _,am,r.mono k⟩
 stop:=fun i H' M' hi k _ _=>⟨xs,k.sq s,by rw [l.length]; exact hi⟩
 up:=fun _ _ _ _ _=>trivial
theorem b0n {K:PySem.W.Frag} {H1:Hp} {p:Addr} {ds:List D}:a4H K H1 (Itl K p) ds (fun M'=>M' p=some (.lst ds)) where
 go:=fun i H' M' hi k am st=>by
  obtain ⟨ys,hy,ly⟩:=am.lst st
  exact ⟨ys,_,SqL.of hy,List.getElem?_eq_getElem (by rw [ly.length]; exact hi)⟩
 yld:=fun i H' M' x H'' hi k am st zz=>by
  obtain ⟨e,y⟩:=zz
  subst e
  obtain ⟨ys,hy,ly⟩:=am.lst st
  obtain ⟨d,hd,r⟩:=ly.getV (y ys (SqL.of hy))
  exact ⟨d,hd,KT.refl _,am,r⟩
 stop:=fun i H' M' hi k am st=>by
  obtain ⟨ys,hy,ly⟩:=am.lst st
  exact ⟨ys,SqL.of hy,by rw [ly.length]; exact hi⟩
 up:=fun M' q o st hq=>by rw [B7 (by intro e; subst e; rw [hq] at st; cases st)]; exact st
theorem b0l {K:PySem.W.Frag} {H1:Hp} {lo:Int} {n:Nat}:a4H K H1 (Itr lo n) (N3 lo n) (fun _=>True) where
 go:=fun i H' M' hi k am st=>by rw [j7] at hi; exact hi
 yld:=fun i H' M' x H'' hi k am st zz=>by
  obtain ⟨e,y⟩:=zz
  subst e; subst y
  rw [j7] at hi
  exact ⟨_,a1L hi,KT.refl _,am,.int _⟩
 stop:=fun i H' M' hi k am st=>by rw [j7] at hi; exact hi
 up:=fun _ _ _ _ _=>trivial
theorem b67 {a:Expr} {p p2:Pos} (hr:Gl X "range") (hm:X.mg "range" = none) (ha:DPA X [a] ta) (hs0:starEach [a] X.env=[(false,eval a X.env)]:=by rfl):DPI X tg (.Call (.Name "range" p) [a] [] p2) (b1O ta) :=
 PI.imp (a89 hr hm ha hs0) (by rintro σ H R ⟨e,M,R',ok,am,t,f⟩; exact ⟨e,M,_,ok,am,t,fun ds M1 ⟨j,z,b1,b2,r⟩ vs H1 k1 a1 r1=>by
  subst z
  obtain ⟨v,rfl,hv⟩:=r1.one
  cases hv
  exact ⟨j,rfl,b1,b2,f _ _ M1 r H1 k1 a1 _ b0l⟩⟩)
theorem S6 {a:Expr} {p p2:Pos} (hr:Gl X "range") (hm:X.mg "range" = none) (ha:JA X [a] ta) (hs0:starEach [a] X.env=[(false,eval a X.env)]:=by rfl):JI X tg (.Call (.Name "range" p) [a] [] p2) (b1O ta):=⟨b67 hr hm ha.out hs0⟩
def u4 (M:Mem) (x:D) (ds:List D):Prop:=x = .tup ds∨(∃ p,x = .ref p∧M p=some (.lst ds))∨x = .vl ds
def a0J:D→Bool
 | .tup _=>false
 | _=>true
theorem u3 {K:PySem.W.Frag} {H:Hp} {M:Mem} {v:V} {x:D} {ds:List D} (h:u4 M x ds) (am:p0 K H M) (r:Has K H v x):∃ a xs,v = .ref a∧SqK K (a0J x) H a xs∧HasL K H xs ds:=by
 rcases h with rfl | ⟨p,rfl,m⟩ | rfl
 rotate_left 2
 ·obtain ⟨a,xs,e,sq,l⟩:=r.il
  exact ⟨a,xs,e,sq,l⟩
 ·cases r with
  | tup s l=>exact ⟨_,_,rfl,s,l⟩
 ·cases r
  obtain ⟨xs,hx,l⟩:=am.lst m
  exact ⟨p,xs,rfl,SqL.of hx,l⟩
theorem R8 {M:Mem} {x:D} {ds:List D} {q:Addr} {o:MO} (h:u4 M x ds) (hq:M q=none):u4 (v8 M q o) x ds:=by
 rcases h with h | ⟨p,e,h⟩ | h
 ·exact .inl h
 ·exact .inr (.inl ⟨p,e,by rw [B7 (by intro e; subst e; rw [hq] at h; cases h)]; exact h⟩)
 ·exact .inr (.inr h)
def U6 (ds es:List D):List D:=List.zipWith (fun a b=>.tup [a,b]) ds es
theorem O7 (ds es:List D):(U6 ds es).length=min ds.length es.length:=by simp [U6]
theorem a9B {ds es:List D} {i:Nat} {a b:D} (h1:ds[i]? = some a) (h2:es[i]? = some b):(U6 ds es)[i]? = some (.tup [a,b]):=by
 unfold U6
 rw [List.getElem?_zipWith,h1,h2]
theorem b0j {K:PySem.W.Frag} {H1:Hp} {x y:D} {l1 l2:Addr} {ds es:List D} (h1:Has K H1 (.ref l1) x) (h2:Has K H1 (.ref l2) y) :
  a4H K H1 (Itz K (a0J x) (a0J y) l1 l2) (U6 ds es) (fun M'=>u4 M' x ds∧u4 M' y es) where
 go:=fun i H' M' hi k am zz=>by
  obtain ⟨s1,s2⟩:=zz
  rw [O7] at hi
  obtain ⟨a,xs,e1,q1,m1⟩:=u3 s1 am (h1.mono k)
  obtain ⟨b,ys,e2,q2,m2⟩:=u3 s2 am (h2.mono k)
  cases e1; cases e2
  exact ⟨xs,ys,_,_,q1,q2,List.getElem?_eq_getElem (by rw [m1.length]; omega),List.getElem?_eq_getElem (by rw [m2.length]; omega)⟩
 yld:=fun i H' M' v H'' hi k am ⟨s1,s2⟩ ⟨T,a,b,hT,ev,eH,u1,u2⟩=>by
  subst ev; subst eH
  obtain ⟨a',xs,e1,q1,m1⟩:=u3 s1 am (h1.mono k)
  obtain ⟨b',ys,e2,q2,m2⟩:=u3 s2 am (h2.mono k)
  cases e1; cases e2
  obtain ⟨d1,g1,r1⟩:=m1.getV (u1 xs q1)
  obtain ⟨d2,g2,r2⟩:=m2.getV (u2 ys q2)
  have kt:KT H' (upd H' T (.tup [a,b])):=KT.alloc hT
  exact ⟨_,a9B g1 g2,kt,am.alloc hT,.tup (SqT.of j2) (.cons (r1.mono kt) (.cons (r2.mono kt) .nil))⟩
 stop:=fun i H' M' hi k am zz=>by
  obtain ⟨s1,s2⟩:=zz
  rw [O7] at hi
  obtain ⟨a,xs,e1,q1,m1⟩:=u3 s1 am (h1.mono k)
  obtain ⟨b,ys,e2,q2,m2⟩:=u3 s2 am (h2.mono k)
  cases e1; cases e2
  refine ⟨xs,ys,q1,q2,?_⟩
  rw [m1.length,m2.length]
  omega
 up:=fun _ _ _ st hq=>⟨R8 st.1 hq,R8 st.2 hq⟩
def b1M (ta:DTA):DTI:=fun e M R=>ta e M fun xs M1=>∃ x y ds es,xs=[x,y]∧u4 M1 x ds∧u4 M1 y es∧R (U6 ds es) (fun M'=>u4 M' x ds∧u4 M' y es) M1
theorem b65 {elts:List Expr} {kx:Nat} {tp:Pos} {a b:Expr} {p pos:Pos} (hg:Gl X "zip") (hm:X.mg "zip" = none) (ha:DPA X [a,b] ta)
  (hs:starEach [a,b] X.env=[(false,eval a X.env),(false,eval b X.env)]:=by rfl) (hs2:starEach [b] X.env=[(false,eval b X.env)]:=by rfl):DPI X (.Tuple elts kx tp) (.Call (.Name "zip" p) [a,b] [] pos) (b1M ta) :=
 PI.imp (b6T hg hm ha hs hs2) (by rintro σ H R ⟨e,M,R',ok,am,t,f⟩; exact ⟨e,M,_,ok,am,t,fun xs M1 ⟨x,y,ds,es,z,s1,s2,r⟩ vs H1 k1 a1 r1=>by
  subst z
  obtain ⟨v,v',rfl,hv,hv'⟩:=r1.two
  obtain ⟨a,zs,rfl,q1,m1⟩:=u3 s1 a1 hv
  obtain ⟨b,ws,rfl,q2,m2⟩:=u3 s2 a1 hv'
  exact ⟨_,_,a,b,rfl,⟨zs,q1⟩,⟨ws,q2⟩,f _ _ M1 r H1 k1 a1 _ (b0j hv hv')⟩⟩)
theorem a8l {elts:List Expr} {kx:Nat} {tp:Pos} {a b:Expr} {p pos:Pos} (hg:Gl X "zip") (hm:X.mg "zip" = none) (ha:JA X [a,b] ta)
  (hs:starEach [a,b] X.env=[(false,eval a X.env),(false,eval b X.env)]:=by rfl) (hs2:starEach [b] X.env=[(false,eval b X.env)]:=by rfl):JI X (.Tuple elts kx tp) (.Call (.Name "zip" p) [a,b] [] pos) (b1M ta):=⟨b65 hg hm ha.out hs hs2⟩
end
section
variable {X:Cx} {tg iter:Expr} {body:List Stmt} {ti:DTI} {g:DTG} {tb:DTS} {pos:Pos}
theorem b4I (hp:PassesOwn (model X.prog X.w) X.A X.env X.xe) (hc:X.calm=true) (hi:DPI X tg iter ti) (hg:DPG X tg g) (hb:a2d X body tb)
  (hs:∀ x,foldedSetIterable iter X.env x=pure x:=by intro _; rfl):DPS X (.For tg iter body [] pos) (b79 ti g tb) :=
 (b6R hp hc hi hg hb hs).imp (by rintro E σ H ⟨e,M,F,ok,am,t,f⟩; exact ⟨e,M,_,ok,am,t,fun ds stay M1 ⟨W,w0,hst,step,done⟩ H1 k1 a1 J wk=>by
  refine ⟨fun i m σ' H'=>m=ds.length - i∧i≤ds.length∧∃ e' M',KT H1 H'∧y4 X.K H' σ' e'∧p0 X.K H' M'∧W i e' M',⟨ds.length,by simp,Nat.zero_le _,e,M1,KT.refl H1,ok.mono k1,a1,w0⟩,?_⟩
  rintro i m σ2 H2 ⟨rfl,hi,e2,M2,k2,ok2,a2,w2⟩
  have st:=hst i e2 M2 hi w2
  by_cases hlt:i<ds.length
  ·refine .inr ⟨wk.go i H2 M2 hlt k2 a2 st,fun σ' H'=>∃ e' M',KT H1 H'∧y4 X.K H' σ' e'∧p0 X.K H' M'∧W (i+1) e' M',fun σ' H' h=>⟨ds.length - (i+1),by omega,rfl,hlt,h⟩,fun y H' yl=>?_⟩
   obtain ⟨d,hd,k3,a3,r⟩:=wk.yld i H2 M2 y H' hlt k2 a2 st yl
   exact b1B f k1 (k2.trans k3) (ok2.mono k3) a3 r (step i d e2 M2 hd w2)
  ·have e':i=ds.length:=by omega
   subst e'
   exact .inl ⟨wk.stop _ H2 M2 (Nat.le_refl _) k2 a2 st,f.nx e2 M2 (done e2 M2 w2) σ2 H2 (k1.trans k2) a2 ok2⟩⟩)
theorem v9 (hp:PassesOwn (model X.prog X.w) X.A X.env X.xe) (hc:X.calm=true) (hi:JI X tg iter ti) (hg:JG X tg g) (hb:JSs X body tb)
  (hs:∀ x,foldedSetIterable iter X.env x=pure x:=by intro _; rfl):JS X (.For tg iter body [] pos) (b79 ti g tb):=⟨b4I hp hc hi.out hg.out hb.out hs⟩
end
def a2G (n:Nat) (caps:List Nat) (e:Ev):Ev:=List.replicate n none++caps.map fun i=>(e[i]?).getD none
theorem b4G {K:PySem.W.Frag} {H:Hp} {σ:St} {e:Ev} (n:Nat) (caps:List Nat) (ok:y4 K H σ e):y4 K H (a4B n caps σ) (a2G n caps e):=by
 refine ⟨by simp [a4B,a2G],fun i d h=>?_⟩
 unfold a2G at h
 unfold a4B
 rw [List.getElem?_append] at h ⊢
 rw [List.length_replicate] at h ⊢
 by_cases hi:i<n
 ·rw [if_pos hi] at h
  rw [List.getElem?_replicate] at h
  split at h <;> cases h
 ·rw [if_neg hi] at h ⊢
  rw [List.getElem?_map] at h ⊢
  cases hj:caps[i - n]? with
  | none=>rw [hj] at h; cases h
  | some j =>
   rw [hj] at h
   have h':(e[j]?).getD none=some d:=by simpa using h
   have he:e[j]? = some (some d):=by
    cases q:e[j]? with
    | none=>rw [q] at h'; cases h'
    | some z=>rw [q] at h'; rw [show z=some d by simpa using h']
   obtain ⟨v,h1,h2⟩:=ok.has j d he
   exact ⟨v,by simp [h1],h2⟩
theorem a6c {p:Str→Prop} {a:Str} (h:p a):∀ x∈[a],p x:=fun x hx=>by
 simp only [List.mem_cons,List.not_mem_nil,or_false] at hx
 subst hx; exact h
theorem a6b {p:Str→Prop} {a b:Str} (h:p a) (h2:p b):∀ x∈[a,b],p x:=fun x hx=>by
 simp only [List.mem_cons,List.not_mem_nil,or_false] at hx
 rcases hx with rfl | rfl
 ·exact h
 ·exact h2
end DL
namespace DL
open PySem PySem.Spec L2
open PyProof.Rows hiding St
section
variable {X:Cx}
def c0G (K:PySem.W.Frag) (tl:TE):TI:=fun σ H R=>tl σ H fun x H1=>∃ (a:Addr) (k:Bool),x = .ref a∧(∃ xs,SqK K k H1 a xs)∧R (if k=true then Itl K a else Itt K a) H1
theorem b6U {tg l:Expr} {tl:TE} (hl:PE X l tl):PI X tg l (c0G X.K tl):=by
 intro pins s σ H R I h
 refine thn (hl pins s σ H _ I h) fun v s1 zz=>?_
 obtain ⟨x,H1,I1,r1,q1⟩:=zz
 obtain ⟨a,k,e,⟨xs,hq⟩,q⟩:=q1
 subst e
 cases r1
 obtain ⟨its,rv,p⟩:=I1.sqk hq
 have nf:∀ b∈[s1.heap.objs.size],X5 X pins H1 b:=fun b hb=>by
  have e:b=s1.heap.objs.size:=by simpa using hb
  subst e
  exact I1.fpOk (Nat.le_refl _) (I1.hok.fresh (Nat.le_refl _))
 cases k with
 | true=>exact wpAny_pyIter_list p ⟨s1.heap.objs.size,[s1.heap.objs.size],_,_,H1,rfl,I1.kept (t':=s1.toks) fun b o e=>Heap.get?_push_of_some _ e,a8U a _,⟨_,Heap.get?_push_size _ rfl,rfl,rfl⟩,nf,q⟩
 | false=>exact wpAny_pyIter_tuple p ⟨s1.heap.objs.size,[s1.heap.objs.size],_,_,H1,rfl,I1.kept (t':=s1.toks) fun b o e=>Heap.get?_push_of_some _ e,a6n a _,⟨_,Heap.get?_push_size _ rfl,rfl,rfl⟩,nf,q⟩
def b1N (ti:DTE):DTI:=fun e M R=>ti e M fun x M1=>∃ ds,u4 M1 x ds∧R ds (fun M'=>u4 M' x ds) M1
theorem b66 {tg iter:Expr} {ti:DTE} (hi:DPE X iter ti):DPI X tg iter (b1N ti):=PI.imp (b6U hi) (by rintro σ H R ⟨e,M,R',ok,am,t,f⟩; exact ⟨e,M,_,ok,am,t,fun x M1 ⟨ds,sq,r⟩ v H1 k1 a1 r1=>by
 have sq':=sq
 rcases sq with rfl | ⟨p,rfl,hm⟩ | rfl
 rotate_left 2
 ·obtain ⟨a,xs,rfl,sq,l⟩:=r1.il
  have wk:a4H X.K H1 (Itl X.K a) ds (fun M'=>u4 M' (.vl ds) ds):=⟨fun i H' M' hi k am _=>by
    obtain ⟨a',ys,e,sq',l'⟩:=(r1.mono k).il
    cases e
    exact ⟨ys,_,sq',List.getElem?_eq_getElem (by rw [l'.length]; exact hi)⟩,
   fun i H' M' x H'' hi k am _ zz=>by
    obtain ⟨e,y⟩:=zz
    subst e
    obtain ⟨a',ys,e,sq',l'⟩:=(r1.mono k).il
    cases e
    obtain ⟨d,hd,r⟩:=l'.getV (y ys sq')
    exact ⟨d,hd,KT.refl _,am,r⟩,
   fun i H' M' hi k am _=>by
    obtain ⟨a',ys,e,sq',l'⟩:=(r1.mono k).il
    cases e
    exact ⟨ys,sq',by rw [l'.length]; exact hi⟩,fun _ _ _ st hq=>R8 st hq⟩
  exact ⟨a,true,rfl,⟨xs,sq⟩,f ds _ M1 r H1 k1 a1 _ wk⟩
 ·cases r1 with
  | tup s l =>
   refine ⟨_,false,rfl,⟨_,s⟩,f ds _ M1 r H1 k1 a1 _ ?_⟩
   have w:=b0k (K:=X.K) s l
   exact ⟨fun i H' M' a b c _=>w.go i H' M' a b c trivial,fun i H' M' y H2 a b c _ g=>w.yld i H' M' y H2 a b c trivial g,fun i H' M' a b c _=>w.stop i H' M' a b c trivial,fun _ _ _ st hq=>R8 st hq⟩
 ·cases r1
  obtain ⟨xs,hx,l⟩:=a1.lst hm
  refine ⟨p,true,rfl,⟨xs,SqL.of hx⟩,f ds _ M1 r H1 k1 a1 _ ?_⟩
  have w:=b0n (K:=X.K) (H1:=H1) (p:=p) (ds:=ds)
  have cv:∀ {M':Mem},u4 M' (.ref p) ds→M' p=some (.lst ds):=fun z=>by
   rcases z with z | ⟨p',z,h⟩ | z
   ·cases z
   ·cases z; exact h
   ·cases z
  exact ⟨fun i H' M' a b c z=>w.go i H' M' a b c (cv z),fun i H' M' y H2 a b c z g=>w.yld i H' M' y H2 a b c (cv z) g,fun i H' M' a b c z=>w.stop i H' M' a b c (cv z),fun _ _ _ st hq=>R8 st hq⟩⟩)
theorem y7 {tg iter:Expr} {ti:DTE} (hi:JE X iter ti):JI X tg iter (b1N ti):=⟨b66 hi.out⟩
end
theorem b1v {K:PySem.W.Frag} {mg:Str→Option Value} {h:Heap} {x:Str} {a b c:Addr} {od od1 od2:Option Addr} {osl osl1 osl2:Array (Option Value)} {i j k l:Int} {t1 t2 t3 t4:Tok} {cap cap1 cap2:Nat} (X:K.In h) (G:h.Ns mainGlobals mg)
  (n:PySem.W.nsIn K mainGlobals x=some (some (.ref a))) (l0:K.lookup a=some ⟨.type "tuple",od,.seq #[.ref b,.ref c] cap,osl⟩)
  (l1:K.lookup b=some ⟨.type "tuple",od1,.seq #[.int i t1,.int j t2] cap1,osl1⟩) (l2:K.lookup c=some ⟨.type "tuple",od2,.seq #[.int k t3,.int l t4] cap2,osl2⟩):GlD K mg x (.tup [.tup [.int i,.int j],.tup [.int k,.int l]]):=by
 have two:(2:Nat)≤sizeLine:=by decide
 have p1:∀ H:Hp,Has K H (.ref b) (.tup [.int i,.int j]):=fun H=>.tup (xs:=[.int i,.int j]) (.inr ⟨_,_,_,l1,rfl,rfl,two,.cons (show m9 (.int i) (.int i t1) from ⟨t1,rfl⟩) (.cons (show m9 (.int j) (.int j t2) from ⟨t2,rfl⟩) .nil)⟩) (.cons (.int i) (.cons (.int j) .nil))
 have p2:∀ H:Hp,Has K H (.ref c) (.tup [.int k,.int l]):=fun H=>.tup (xs:=[.int k,.int l]) (.inr ⟨_,_,_,l2,rfl,rfl,two,.cons (show m9 (.int k) (.int k t3) from ⟨t3,rfl⟩) (.cons (show m9 (.int l) (.int l t4) from ⟨t4,rfl⟩) .nil)⟩) (.cons (.int k) (.cons (.int l) .nil))
 exact ⟨.ref a,.ref a,PySem.W.mg_of X G n,rfl,fun H=>.tup (xs:=[.ref b,.ref c]) (.inr ⟨_,_,_,l0,rfl,rfl,two,.cons (show m9 (.ref b) (.ref b) from rfl) (.cons (show m9 (.ref c) (.ref c) from rfl) .nil)⟩) (.cons (p1 H) (.cons (p2 H) .nil))⟩
theorem b7t {K:PySem.W.Frag} {mg:Str→Option Value} {h:Heap} {x:Str} {a b c e g:Addr} {od od1 od2 od3 od4:Option Addr} {osl osl1 osl2 osl3 osl4:Array (Option Value)} {i j k l m n p q:Int} {t1 t2 t3 t4 t5 t6 t7 t8:Tok} {cap cap1 cap2 cap3 cap4:Nat} (X:K.In h) (G:h.Ns mainGlobals mg)
  (nn:PySem.W.nsIn K mainGlobals x=some (some (.ref a))) (l0:K.lookup a=some ⟨.type "tuple",od,.seq #[.ref b,.ref c,.ref e,.ref g] cap,osl⟩)
  (l1:K.lookup b=some ⟨.type "tuple",od1,.seq #[.int i t1,.int j t2] cap1,osl1⟩) (l2:K.lookup c=some ⟨.type "tuple",od2,.seq #[.int k t3,.int l t4] cap2,osl2⟩)
  (l3:K.lookup e=some ⟨.type "tuple",od3,.seq #[.int m t5,.int n t6] cap3,osl3⟩) (l4:K.lookup g=some ⟨.type "tuple",od4,.seq #[.int p t7,.int q t8] cap4,osl4⟩):GlD K mg x (.tup [.tup [.int i,.int j],.tup [.int k,.int l],.tup [.int m,.int n],.tup [.int p,.int q]]):=by
 have two:(2:Nat)≤sizeLine:=by decide
 have four:(4:Nat)≤sizeLine:=by decide
 have one:∀ {a:Addr} {i j:Int} {t1 t2:Tok} {od:Option Addr} {osl:Array (Option Value)} {cap:Nat},K.lookup a=some ⟨.type "tuple",od,.seq #[.int i t1,.int j t2] cap,osl⟩→∀ H:Hp,Has K H (.ref a) (.tup [.int i,.int j]):=fun {a i j t1 t2 od osl cap} l1 H=>.tup (xs:=[.int i,.int j]) (.inr ⟨_,_,_,l1,rfl,rfl,two,.cons (show m9 (.int i) (.int i t1) from ⟨t1,rfl⟩) (.cons (show m9 (.int j) (.int j t2) from ⟨t2,rfl⟩) .nil)⟩) (.cons (.int i) (.cons (.int j) .nil))
 exact ⟨.ref a,.ref a,PySem.W.mg_of X G nn,rfl,fun H=>.tup (xs:=[.ref b,.ref c,.ref e,.ref g]) (.inr ⟨_,_,_,l0,rfl,rfl,four,.cons (show m9 (.ref b) (.ref b) from rfl) (.cons (show m9 (.ref c) (.ref c) from rfl) (.cons (show m9 (.ref e) (.ref e) from rfl) (.cons (show m9 (.ref g) (.ref g) from rfl) .nil)))⟩) (.cons (one l1 H) (.cons (one l2 H) (.cons (one l3 H) (.cons (one l4 H) .nil))))⟩
theorem b7u {K:PySem.W.Frag} {mg:Str→Option Value} {h:Heap} {x:Str} {i:Int} {t:Tok} (X:K.In h) (G:h.Ns mainGlobals mg) (n:PySem.W.nsIn K mainGlobals x=some (some (.int i t))):GlD K mg x (.int i) :=
 ⟨.int i,.int i t,PySem.W.mg_of X G n,⟨t,rfl⟩,fun _=>.int i⟩
theorem a5Q {M:Mem} {p:Addr} {ds:List D} (h:M p=some (.lst ds)):b1g M (.ref p)=some ds.length:=by
 unfold b1g; simp only [h]
theorem b4Y {ds:List D} {r:Int} (h0:0≤r) (h1:r<ds.length):∃ d,atI ds r=some d∧d∈ds:=by
 unfold atI ixN
 rw [if_pos h0,if_pos h1]
 have hl:r.toNat<ds.length:=by omega
 exact ⟨ds[r.toNat],by simp [hl],List.getElem_mem hl⟩
section
variable {X:Cx}
def b4B:DRC:=fun ds M R=>∃ x ys,ds=[x]∧u4 M x ys∧∀ p,M p=none→R (.ref p) (v8 M p (.lst ys))
theorem b2g:R6 X (.type "list") b4B:=A7.imp a0a (by
 rintro xs H Q ⟨ds,M,R,hl,am,⟨x,ys,z,e,r⟩,f⟩
 subst z
 obtain ⟨v,rfl,hv⟩:=hl.one
 rcases e with rfl | ⟨p,rfl,hm⟩ | rfl
 rotate_left 2
 ·obtain ⟨a,xs,rfl,sq,l⟩:=hv.il
  exact ⟨a,xs,rfl,.inl sq,fun p hp=>f _ _ (r p (am.fresh hp)) _ _ (KT.alloc hp) (am.new hp l) (.ref p)⟩
 ·cases hv with
  | tup s l=>exact ⟨_,_,rfl,.inr s,fun p hp=>f _ _ (r p (am.fresh hp)) _ _ (KT.alloc hp) (am.new hp l) (.ref p)⟩
 ·cases hv
  obtain ⟨zs,hx,l⟩:=am.lst hm
  exact ⟨p,zs,rfl,.inl (SqL.of hx),fun q hq=>f _ _ (r q (am.fresh hq)) _ _ (KT.alloc hq) (am.new hq l) (.ref q)⟩)
end
section
variable {X:Cx}
def a8z:DRM:=fun x xs M R=>∃ l ds v,x = .ref l∧xs=[v]∧M l=some (.lst ds)∧ds.length<sizeLine∧R .non (v8 M l (.lst (ds++[v])))
theorem F4:DMt X "list.append" a8z:=MtR.imp (r:=a8a) a3p (by
 rintro x xs H Q ⟨dx,ds,M,R,hx,hl,am,⟨l,es,v,e1,e2,hM,hz,r⟩,f⟩
 subst e1; subst e2
 cases hx
 obtain ⟨w,rfl,hw⟩:=hl.one
 obtain ⟨ys,hy,ly⟩:=am.lst hM
 exact ⟨l,ys,w,rfl,rfl,hy,by rw [ly.length]; exact hz,f _ _ r _ _ (KT.write hy) (am.write hy (ly.append (.cons hw .nil))) .non⟩)
end
end DL
namespace DL
open PySem PySem.Spec L2
open PyProof.Rows hiding St
section
variable {X:Cx}
end
end DL
namespace DL
open PySem PySem.Spec L2
open PyProof.Rows hiding St
abbrev DTO:=Ev→Mem→(Option Int→Mem→Prop)→Prop
section
variable {X:Cx} {e:Expr} {te:DTE} {lo hi:Option Expr} {tl th:DTO} {pos p2:Pos}
end
end DL
namespace DL
open PySem PySem.Spec L2
open PyProof.Rows hiding St
def K8 (ds:List D):List D:=ds.mapIdx fun i d=>.tup [.int i,d]
theorem Z8 (ds:List D):(K8 ds).length=ds.length:=by simp [K8]
theorem a9n {ds:List D} {i:Nat} {d:D} (h:ds[i]? = some d):(K8 ds)[i]? = some (.tup [.int i,d]):=by
 unfold K8
 rw [List.getElem?_mapIdx,h]; rfl
theorem a8R {K:PySem.W.Frag} {H1:Hp} {x:D} {l:Addr} {ds:List D} (h1:Has K H1 (.ref l) x):a4H K H1 (Ite K (a0J x) l) (K8 ds) (fun M'=>u4 M' x ds) where
 go:=fun i H' M' hi k am s1=>by
  rw [Z8] at hi
  obtain ⟨a,xs,e1,q1,m1⟩:=u3 s1 am (h1.mono k)
  cases e1
  exact ⟨xs,_,q1,List.getElem?_eq_getElem (by rw [m1.length]; omega)⟩
 yld:=fun i H' M' v H'' hi k am s1 zz=>by
  obtain ⟨T,a,hT,ev,eH,u1⟩:=zz
  subst ev; subst eH
  obtain ⟨a',xs,e1,q1,m1⟩:=u3 s1 am (h1.mono k)
  cases e1
  obtain ⟨d1,g1,r1⟩:=m1.getV (u1 xs q1)
  have kt:KT H' (upd H' T (.tup [.int i,a])):=KT.alloc hT
  exact ⟨_,a9n g1,kt,am.alloc hT,.tup (SqT.of j2) (.cons (.int _) (.cons (r1.mono kt) .nil))⟩
 stop:=fun i H' M' hi k am s1=>by
  rw [Z8] at hi
  obtain ⟨a,xs,e1,q1,m1⟩:=u3 s1 am (h1.mono k)
  cases e1
  exact ⟨xs,q1,by rw [m1.length]; exact hi⟩
 up:=fun _ _ _ st hq=>R8 st hq
section
variable {X:Cx} {ta:DTA}
def a7c (ta:DTA):DTI:=fun e M R=>ta e M fun xs M1=>∃ x ds,xs=[x]∧u4 M1 x ds∧R (K8 ds) (fun M'=>u4 M' x ds) M1
theorem b3Y {elts:List Expr} {kx:Nat} {tp:Pos} {a:Expr} {p pos:Pos} (hg:Gl X "enumerate") (hm:X.mg "enumerate" = none) (ha:DPA X [a] ta) (hs:starEach [a] X.env=[(false,eval a X.env)]:=by rfl) :
  DPI X (.Tuple elts kx tp) (.Call (.Name "enumerate" p) [a] [] pos) (a7c ta) :=
 PI.imp (b3O hg hm ha hs) (by rintro σ H R ⟨e,M,R',ok,am,t,f⟩; exact ⟨e,M,_,ok,am,t,fun xs M1 ⟨x,ds,z,s1,r⟩ vs H1 k1 a1 r1=>by
  subst z
  obtain ⟨v,rfl,hv⟩:=r1.one
  obtain ⟨a,zs,rfl,q1,m1⟩:=u3 s1 a1 hv
  exact ⟨_,a,rfl,⟨zs,q1⟩,f _ _ M1 r H1 k1 a1 _ (a8R hv)⟩⟩)
theorem Z1 {elts:List Expr} {kx:Nat} {tp:Pos} {a:Expr} {p pos:Pos} (hg:Gl X "enumerate") (hm:X.mg "enumerate" = none) (ha:JA X [a] ta) (hs:starEach [a] X.env=[(false,eval a X.env)]:=by rfl):JI X (.Tuple elts kx tp) (.Call (.Name "enumerate" p) [a] [] pos) (a7c ta):=⟨b3Y hg hm ha.out hs⟩
end
end DL
namespace DL
open PySem PySem.Spec L2
open PyProof.Rows hiding St
def X1 (M:Mem) (a:Addr):Mem:=fun b=>if b=a then none else M b
theorem a4y {M:Mem} {a b:Addr} (h:b≠a):X1 M a b=M b:=by unfold X1; rw [if_neg h]
theorem Z9 {M:Mem} {a:Addr} {o:MO} (h:M a=none):X1 (v8 M a o) a=M:=by
 funext b; unfold X1 v8; by_cases e:b=a
 ·rw [if_pos e,e,h]
 ·rw [if_neg e,if_neg e]
section
variable {K:PySem.W.Frag} {H:Hp} {M:Mem} {p:Addr}
theorem p0.at {o:HO} (h:p0 K H M) (k:KT0 H (upd H p o)) (hp:M p=none):p0 K (upd H p o) M:=fun a u m=>by
 cases u with
 | lst ds =>
  obtain ⟨xs,z,l⟩:=h a _ m
  have hn:a≠p:=by intro e; subst e; rw [hp] at m; cases m
  exact ⟨xs,by rw [i7 hn]; exact z,l.mono0 k⟩
theorem p0.del (h:p0 K H M):p0 K H (X1 M p):=fun a u m=>by
 by_cases e:a=p
 ·subst e; unfold X1 at m; rw [if_pos rfl] at m; cases m
 ·rw [a4y e] at m; exact h a u m
theorem a9q:X1 M p p=none:=by unfold X1; rw [if_pos rfl]
theorem p0.none_ext {φ:Heap→Prop} (h:p0 K H M) (e:H p=some (.ext φ)):M p=none:=by
 cases q:M p with
 | none=>rfl
 | some o =>
  cases o with
  | lst ds=>obtain ⟨xs,z,_⟩:=h p _ q; rw [e] at z; cases z
end
section
variable {X:Cx} {x:Expr} {t:DTE} {es:List Expr} {tr:DTA} {pos:Pos}
def b78 (t:DTE):DTE:=fun e M R=>t e M fun x M1=>∃ p ds,x = .ref p∧M1 p=some (.lst ds)∧R (.vl ds) (X1 M1 p)
theorem b9V (h:DPE X x t):DPE X x (b78 t):=(W3 h).imp (by rintro σ H Q ⟨e,M,R,ok,am,t,f⟩; exact ⟨e,M,_,ok,am,t,fun d M1 ⟨p,ds,z,hm,r⟩ v H1 k1 a1 r1=>by
 subst z
 cases r1
 obtain ⟨xs,hx,lx⟩:=a1.lst hm
 exact ⟨p,xs,rfl,hx,fun o=>f _ _ r _ _ (k1.trans (KT.any hx)) (a1.del.at (KT.any hx).toKT0 a9q) (.vl (.inl ⟨o,j2⟩) (lx.mono (KT.any hx)))⟩⟩)
theorem W7 (h:JE X x t):JE X x (b78 t):=⟨b9V h.out⟩
def b8a (t:DTE):DTE:=fun e M R=>t e M fun x M1=>∃ M2:Mem,(∀ b o,M2 b=some o→M1 b=some o)∧R x M2
theorem b9W (h:DPE X x t):DPE X x (b8a t):=PE.imp h (by rintro σ H Q ⟨e,M,R,ok,am,t,f⟩; exact ⟨e,M,_,ok,am,t,fun d M1 ⟨M2,hs,r⟩ v H1 k1 a1 r1=>f d M2 r v H1 k1 (fun a o q=>a1 a o (hs a o q)) r1⟩)
theorem Q7 (h:JE X x t):JE X x (b8a t):=⟨b9W h.out⟩
def b1X (t:DTA):DTE:=fun e M R=>t e M fun ds M1=>ds.length≤sizeLine∧R (.vl ds) M1
theorem Z7 {K:PySem.W.Frag} {H0 H:Hp} {M:Mem} {R:DK} {Q:VK} {vs:List V} {ds:List D} (f:a2c K H0 R Q) (k:KT H0 H) (am:p0 K H M) (l:HasL K H vs ds) (r:R (.vl ds) M) (p:Addr) (hp:H p=none) :
  ∃ q xs,V.ref p = .ref q∧upd H p (.lst vs) q=some (.lst xs)∧∀ o,Q (.ref p) (upd (upd H p (.lst vs)) q (.frz o (.lst xs))) :=
 ⟨p,vs,rfl,j2,fun o=>by
  rw [Y2]
  exact f _ M r _ _ (k.trans (KT.alloc hp)) (am.alloc hp) (.vl (.inl ⟨o,j2⟩) (l.mono (KT.alloc hp)))⟩
theorem b7S (h:DPA X es tr):DPE X (.List es pos) (b1X tr) :=
 (W3 (b0Y h)).imp (by rintro σ H Q ⟨e,M,R,ok,am,t,f⟩; exact ⟨e,M,_,ok,am,t,fun ds M1 ⟨hz,h1⟩ vs H1 k1 a1 r1=>⟨by rw [r1.length]; exact hz,fun p hp=>Z7 f k1 a1 r1 h1 p hp⟩⟩)
theorem m3 (h:JA X es tr):JE X (.List es pos) (b1X tr):=⟨b7S h.out⟩
def a8y (x y:D) (M:Mem) (R:DK):Prop:=∃ xs ys,Q8 M x=some xs∧Q8 M y=some ys∧xs.length+ys.length≤sizeLine∧R (.vl (xs++ys)) M
def b2a (ta tb:DTE):DTE:=fun e M R=>ta e M fun x M1=>tb e M1 fun y M2=>a8y x y M2 R
theorem b7U {a b:Expr} {ta tb:DTE} (ha:DPE X a ta) (hb:DPE X b tb):DPE X (.BinOp a .Add b pos) (b2a ta tb) :=
 (W3 (b5P b4d ha hb)).imp (by rintro σ H Q ⟨e,M,R,ok,am,t,f⟩; exact ⟨e,M,_,ok,am,t,fun x M1 h1 v H1 k1 a1 r1=>⟨e,M1,_,ok.mono k1,a1,h1,fun y M2 ⟨xs,ys,e1,e2,hz,r⟩ u H2 k2 a2 r2=>by
  obtain ⟨a,vs,rfl,s1,l1⟩:=C8 a2 (r1.mono k2) e1
  obtain ⟨b,ws,rfl,s2,l2⟩:=C8 a2 r2 e2
  exact ⟨a,b,vs,ws,rfl,rfl,s1,s2,by rw [l1.length,l2.length]; exact hz,fun p hp=>Z7 f (k1.trans k2) a2 (l1.append l2) r p hp⟩⟩⟩)
theorem N5 {a b:Expr} {ta tb:DTE} (ha:JE X a ta) (hb:JE X b tb):JE X (.BinOp a .Add b pos) (b2a ta tb):=⟨b7U ha.out hb.out⟩
theorem HasL.rev {K:PySem.W.Frag} {H:Hp}:∀ {xs:List V} {ds:List D},HasL K H xs ds→HasL K H xs.reverse ds.reverse
 | _,_,.nil=>.nil
 | _,_,.cons h t=>by rw [List.reverse_cons,List.reverse_cons]; exact (HasL.rev t).append (.cons h .nil)
def a4u (ds:List D) (M:Mem) (R:DK):Prop:=∃ x ys,ds=[x]∧u4 M x ys∧R (.vl ys) M
def a7k (t:DTA):DTE:=fun e M R=>t e M fun ds M1=>a4u ds M1 R
end
section
variable {X:Cx} {e:Expr} {es:List Expr} {t:DTA} {x:Str} {p pos:Pos}
theorem b4Q (hg:Gl X x) (hm:X.mg x=none) (hv:bootBuiltins x=some (.type "list")) (ha:DPA X (e :: es) t)
  (hn:x ≠ "__name__" := by decide) (hdb:(x == ("__debug__" : Str))=false:=by decide) (he:starEach (e :: es) X.env=(false,eval e X.env) :: starEach es X.env:=by rfl) (hpl:(backTo pos (starEach es X.env)).any (·.1)=false:=by rfl):DPE X (.Call (.Name x p) (e :: es) [] pos) (a7k t) :=
 (W3 (S2 a0a hg hm hv ha hn hdb he hpl)).imp (by rintro σ H Q ⟨e,M,R,ok,am,t,f⟩; exact ⟨e,M,_,ok,am,t,fun ds M1 ⟨d,ys,z,sq,r⟩ vs H1 k1 a1 r1=>by
  subst z
  obtain ⟨v,rfl,hv⟩:=r1.one
  obtain ⟨a,xs,rfl,q1,m1⟩:=u3 sq a1 hv
  refine ⟨a,xs,rfl,?_,fun p hp=>Z7 f k1 a1 m1 r p hp⟩
  cases hk:a0J d with
  | true=>rw [hk] at q1; exact .inl q1
  | false=>rw [hk] at q1; exact .inr q1⟩)
theorem b1o (hg:Gl X x) (hm:X.mg x=none) (hv:bootBuiltins x=some (.type "list")) (ha:JA X (e :: es) t)
  (hn:x ≠ "__name__" := by decide) (hdb:(x == ("__debug__" : Str))=false:=by decide) (he:starEach (e :: es) X.env=(false,eval e X.env) :: starEach es X.env:=by rfl) (hpl:(backTo pos (starEach es X.env)).any (·.1)=false:=by rfl):JE X (.Call (.Name x p) (e :: es) [] pos) (a7k t):=⟨b4Q hg hm hv ha.out hn hdb he hpl⟩
variable {te:DTE} {pos':Pos}
end
section
variable {X:Cx}
def b9F (neg:Bool):DR2:=fun x y M R=>∃ ds,cl 60 x=true∧u4 M y ds∧clL 59 ds=true∧R (.bl (neg.xor (@decide (x∈ds) (Classical.propDecidable _)))) M
def J3 (h:Heap) (p:PyData) (y:Value):Bool:=@decide (∃ d as,Reads h y d as∧PyData.eqv d p=true) (Classical.propDecidable _)
theorem a84 {h:Heap} {p d:PyData} {y:Value} {as:List Addr} (c:d.canLay0=true) (r:Reads h y d as):J3 h p y=PyData.eqv d p:=by
 unfold J3
 cases e:PyData.eqv d p with
 | true=>exact @decide_eq_true _ (Classical.propDecidable _) ⟨d,as,r,e⟩
 | false =>
  refine @decide_eq_false _ (Classical.propDecidable _) ?_
  rintro ⟨d',as',r',e'⟩
  rw [← SeqAt.Reads.unique d d' y as as' c r r',e] at e'
  cases e'
theorem V1 {X:Cx} {pins:List (Addr × Obj)} {s:Shared} {σ:St} {H:Hp} {M:Mem} {B:Around} {x:D} {u:Value} {bs:List Addr} (I:Inv X pins σ H s) (am:p0 X.K H M) (hB:B.units+62<cLine) (cx:cl 60 x=true) (rx:Reads s.heap u (pyD x) bs) :
  ∀ {ds:List D} {vs:List V} {us:List Value},clL 59 ds=true→HasL X.K H vs ds→j9 vs us→(∀ w∈us,SeqAt.EqAt B s w u (J3 s.heap (pyD x) w))∧us.any (J3 s.heap (pyD x)) = @decide (x∈ds) (Classical.propDecidable _)
 | [],_,_,_,h,r=>by
  cases h; cases r
  refine ⟨fun w hw=>(nomatch hw),?_⟩
  rw [List.any_nil]
  exact (@decide_eq_false _ (Classical.propDecidable _) (fun z=>nomatch z)).symm
 | d :: ds,_,_,c,h,r=>by
  cases h with
  | cons h hl =>
   cases r with
   | cons r rl =>
    have c':cl 59 d=true∧clL 59 ds=true:=by simpa [clL] using c
    obtain ⟨ih1,ih2⟩:=V1 I am hB cx rx c'.2 hl rl
    obtain ⟨p1,p2,p3⟩:=a3w (M:=M) c'.1
    obtain ⟨q1,q2,q3⟩:=a3w (M:=M) cx
    obtain ⟨as,rd⟩:=F7 I am p1 h r
    have es:=a84 (p:=pyD x) p2 rd
    refine ⟨fun w hw=>?_,?_⟩
    ·rcases List.mem_cons.mp hw with rfl | hw
     ·rw [es]
      exact SeqAt.eqAt_reads _ _ B s _ _ _ _ rd rx p2 q2 (by have:=Nat.min_le_left (pyD d).depth (pyD x).depth; omega)
     ·exact ih1 w hw
    ·rw [List.any_cons,es,ih2]
     have ev:=a7m c'.1 cx
     by_cases e:d=x
     ·rw [ev.mpr e]
      exact (@decide_eq_true _ (Classical.propDecidable _) (by rw [e]; exact List.mem_cons_self)).symm
     ·have:PyData.eqv (pyD d) (pyD x)=false:=by
       cases z:PyData.eqv (pyD d) (pyD x) with
       | false=>rfl
       | true=>exact absurd (ev.mp z) e
      rw [this,Bool.false_or]
      congr 1
      refine propext ⟨fun z=>List.mem_cons_of_mem _ z,fun z=>?_⟩
      rcases List.mem_cons.mp z with z | z
      ·exact absurd z.symm e
      ·exact z
theorem a5K (hu:X.A.units+64<cLine):DOp X (compareOp .NotIn) (b9F true):=by
 intro pins s σ H x y v u Q I rx ry h
 obtain ⟨dx,dy,M,R,hx,hy,am,⟨ds,c1,sq,c2,r⟩,f⟩:=h
 obtain ⟨a,xs,rfl,q1,m1⟩:=u3 sq am hy
 cases ry
 obtain ⟨bs,rd⟩:=F7 I am (a3w (M:=M) c1).1 hx rx
 have fin:=f _ M r _ H (KT.refl H) am (.bl _)
 cases hk:a0J dy with
 | true =>
  rw [hk] at q1
  obtain ⟨its,rv,pl,hz⟩:=I.list q1
  obtain ⟨i1,i2⟩:=V1 (B:=X.A.in1) I am (by show X.A.units+1+62<cLine; omega) c1 rd c2 m1 rv
  refine SeqAt.notIn_listAt (J3 s.heap (pyD dx)) pl.isList (fun w hw=>i1 w (by simpa using hw)) ⟨.bl _,H,I,rfl,?_⟩
  rw [show its.toArray.any (J3 s.heap (pyD dx))=its.any (J3 s.heap (pyD dx)) by simp,i2]
  simpa using fin
 | false =>
  rw [hk] at q1
  obtain ⟨its,rv,pl,hz⟩:=I.tuple q1
  obtain ⟨i1,i2⟩:=V1 (B:=X.A.in1) I am (by show X.A.units+1+62<cLine; omega) c1 rd c2 m1 rv
  refine SeqAt.notIn_tupleAt (J3 s.heap (pyD dx)) pl (fun w hw=>i1 w (by simpa using hw)) ⟨.bl _,H,I,rfl,?_⟩
  rw [show its.toArray.any (J3 s.heap (pyD dx))=its.any (J3 s.heap (pyD dx)) by simp,i2]
  simpa using fin
def a8x:DRM:=fun x xs M R=>∃ l ds v,∃ k:Nat,x = .ref l∧xs=[.int (k:Int),v]∧M l=some (.lst ds)∧k≤ds.length∧ds.length<sizeLine∧R .non (v8 M l (.lst (ds.take k++v :: ds.drop k)))
theorem HasL.take' {K:PySem.W.Frag} {H:Hp}:∀ {vs:List V} {ds:List D} (k:Nat),HasL K H vs ds→HasL K H (vs.take k) (ds.take k)
 | _,_,0,_=>.nil
 | _,_,_+1,.nil=>.nil
 | _,_,k+1,.cons h t=>.cons h (HasL.take' k t)
theorem HasL.drop' {K:PySem.W.Frag} {H:Hp}:∀ {vs:List V} {ds:List D} (k:Nat),HasL K H vs ds→HasL K H (vs.drop k) (ds.drop k)
 | _,_,0,h=>h
 | _,_,_+1,.nil=>.nil
 | _,_,k+1,.cons _ t=>HasL.drop' k t
theorem a9o:DMt X "list.insert" a8x:=MtR.imp (r:=a79) a9b (by
 rintro x xs H Q ⟨dx,ds,M,R,hx,hl,am,⟨l,es,v,k,e1,e2,hM,hk,hz,r⟩,f⟩
 subst e1; subst e2
 cases hx
 cases hl with
 | cons h1 hl =>
  obtain ⟨w,rfl,hw⟩:=hl.one
  cases h1
  obtain ⟨ys,hy,ly⟩:=am.lst hM
  exact ⟨l,ys,w,k,rfl,rfl,hy,by rw [ly.length]; exact hk,by rw [ly.length]; exact hz,f _ _ r _ _ (KT.write hy) (am.write hy ((ly.take' k).append (.cons hw (ly.drop' k)))) .non⟩)
end
abbrev L0:=Ev→Mem→(Bool→Mem→Prop)→Prop
abbrev a2e (X:Cx) (ifs:List Expr) (t:L0):Prop:=a0s X ifs (upT X.K t)
structure a9y (X:Cx) (ifs:List Expr) (t:L0):Prop where
 out:a2e X ifs t
def a7i:L0:=fun _ M R=>R true M
theorem a0s.imp {X:Cx} {ifs:List Expr} {t t':TT} (h:a0s X ifs t) (i:∀ σ H Q,t' σ H Q→t σ H Q):a0s X ifs t':=fun pins s σ H Q I q=>h pins s σ H Q I (i σ H Q q)
theorem b1L {X:Cx}:a2e X [] a7i:=a0s.imp b0V (by rintro σ H Q ⟨e,M,R,ok,am,t,f⟩; exact f true M t H (KT.refl H) am)
theorem w6 {X:Cx}:a9y X [] a7i:=⟨b1L ⟩
theorem b1K {X:Cx} {c:Expr} {t:DTT} (h:DPT X c t):a2e X [c] t:=b0U h
theorem S7 {X:Cx} {c:Expr} {t:DTT} (h:JT X c t):a9y X [c] t:=⟨b1K h.out⟩
structure a2f (e0:Ev) (g:DTG) (tc:L0) (te:DTE) (ds:List D) (stay:Mem→Prop) (M1:Mem) (E:List D→Mem→Prop) (W:Nat→List D→Mem→Prop):Prop where
 start:W 0 [] M1
 stays:∀ i ys M,i≤ds.length→W i ys M→stay M
 turn:∀ (i:Nat) (d:D) ys M,ds[i]? = some d→W i ys M→g d e0 M fun e2 M2=>tc e2 M2 fun b M3=>if b=true then te e2 M3 fun v M4=>ys.length<sizeLine∧W (i+1) (ys++[v]) M4 else W (i+1) ys M3
 done:∀ ys M,W ds.length ys M→E ys M
def a8K (e0:Ev) (g:DTG) (tc:L0) (te:DTE) (ds:List D) (stay:Mem→Prop) (M1:Mem) (R:DK):Prop:=∃ W,a2f e0 g tc te ds stay M1 (fun ys M=>R (.vl ys) M) W
def a8L (e0:Ev) (g:DTG) (tc:L0) (te:DTE) (ds:List D) (stay:Mem→Prop) (M1:Mem) (R:DK):Prop:=∃ W,a2f e0 g tc te ds stay M1 (fun ys M=>∀ p,M p=none→R (.ref p) (v8 M p (.lst ys))) W
def a16 (n:Nat) (caps:List Nat) (ti:DTI) (g:DTG) (tc:L0) (te:DTE):DTE:=fun e M R=>ti e M fun ds stay M1=>a8K (a2G n caps e) g tc te ds stay M1 R
def a17 (n:Nat) (caps:List Nat) (ti:DTI) (g:DTG) (tc:L0) (te:DTE):DTE:=fun e M R=>ti e M fun ds stay M1=>a8L (a2G n caps e) g tc te ds stay M1 R
section
variable {X:Cx} {elt tg iter:Expr} {scope:Scope} {tgs cps:List Str} {caps:List Nat} {ti:DTI} {g:DTG} {tc:L0} {te:DTE} {pos:Pos} {ifs:List Expr}
def CWH (K:PySem.W.Frag) (H1:Hp) (D0:Addr) (len:Nat) (W:Nat→List D→Mem→Prop) (i m:Nat) (H':Hp):Prop:=m=len - i∧i≤len∧∃ M' ys xs,KT H1 H'∧p0 K H' M'∧H' D0=some (.lst xs)∧M' D0=none∧HasL K H' xs ys∧W i ys M'
theorem T5 {K:PySem.W.Frag} {H1:Hp} {J:It} {ds:List D} {stay:Mem→Prop} {M1:Mem} {n:Nat} {caps:List Nat} {σ:St} {e:Ev} {E:List D→Mem→Prop} {W:Nat→List D→Mem→Prop} {D0:Addr} {Qd:Hp→Prop} (ok:y4 K H1 σ e) (a1:p0 K H1 M1) (wk:a4H K H1 J ds stay) (hD:H1 D0=none)
  (C:a2f (a2G n caps e) g tc te ds stay M1 E W) (fin:∀ ys M xs H',KT H1 H'→p0 K H' M→H' D0=some (.lst xs)→M D0=none→HasL K H' xs ys→E ys M→Qd H') (i m:Nat) (H2:Hp) (w:CWH K H1 D0 ds.length W i m H2) :
  (J.stop i H2∧Qd H2)∨(J.go i H2∧∀ x H',J.yld i H2 x H'→(∃ p,b0u p (upG K g) x (a4B n caps σ) H' fun σ2 H3=>∃ p,b0t p (upT K tc) σ2 H3 fun b H3'=>if b=true then ∃ p,b0v p (up K te) σ2 H3' fun v H4 =>
   ∃ ys,H4 D0=some (.lst ys)∧ys.length<sizeLine∧∃ m',m'<m∧CWH K H1 D0 ds.length W (i+1) m' (upd H4 D0 (.lst (ys++[v]))) else ∃ m',m'<m∧CWH K H1 D0 ds.length W (i+1) m' H3')):=by
 obtain ⟨rfl,hi,M2,ys,xs,k2,a2,hx,hM,lx,w2⟩:=w
 have a2':p0 K H2 (v8 M2 D0 (.lst ys)):=fun a o q=>by
  by_cases e:a=D0
  ·subst e; rw [i8] at q; cases q; exact ⟨xs,hx,lx⟩
  ·rw [B7 e] at q; exact a2 a o q
 have st:=wk.up _ D0 (.lst ys) (C.stays i ys M2 hi w2) hM
 by_cases hlt:i<ds.length
 ·refine .inr ⟨wk.go i H2 _ hlt k2 a2' st,fun y H' yl=>?_⟩
  obtain ⟨d,hd,k3,a3',r⟩:=wk.yld i H2 _ y H' hlt k2 a2' st yl
  obtain ⟨xs',hx',lx'⟩:=a3'.lst i8
  have a3:p0 K H' M2:=fun a o q=>by
   have e:a≠D0:=by intro e; subst e; rw [hM] at q; cases q
   exact a3' a o (by rw [B7 e]; exact q)
  have kh:KT H' (upd H' D0 (Z5 D0 xs')):=KT.any hx'
  have k1h:=(k2.trans k3).trans kh
  have same:∀ {H3:Hp},H3 D0=some (Z5 D0 xs')→upd (upd H3 D0 (.lst xs')) D0 (Z5 D0 xs')=H3:=fun {H3} q=>by
   rw [Y2]; funext b; by_cases e:b=D0
   ·subst e; rw [j2,q]
   ·rw [i7 e]
  refine ⟨D0,xs',hx',d,a2G n caps e,M2,_,r.mono kh,b4G n caps (ok.mono k1h),a3.at kh.toKT0 hM,C.turn i d ys M2 hd w2,fun e3 M3 h3 σ3 H3 k4 a4 ok3=>?_⟩
  have q3:H3 D0=some (Z5 D0 xs'):=k4.ex D0 _ j2
  refine ⟨q3,D0,xs',j2,?_⟩
  rw [same q3]
  refine ⟨e3,M3,_,ok3,a4,h3,fun b M4 h4 H4 k5 a5=>?_⟩
  have q4:H4 D0=some (Z5 D0 xs'):=k5.ex D0 _ q3
  refine ⟨q4,?_⟩
  have kk:=k1h.trans (k4.trans k5)
  cases b with
  | false =>
   have h4':W (i+1) ys M4:=h4
   show ∃ m',m'<ds.length - i∧CWH K H1 D0 ds.length W (i+1) m' (upd H4 D0 (.lst xs'))
   exact ⟨ds.length - (i+1),by omega,rfl,hlt,M4,ys,xs',kk.new hD,a5.at (KT0.ext q4) (a5.none_ext q4),j2,a5.none_ext q4,(lx'.mono (kh.trans (k4.trans k5))).mono0 (KT0.ext q4),h4'⟩
  | true =>
   show ∃ p,b0v p (up K te) σ3 (upd H4 D0 (.lst xs')) _
   refine ⟨D0,xs',j2,?_⟩
   rw [same q4]
   refine ⟨e3,M4,_,ok3.mono k5,a5,h4,fun dv M5 ⟨hz,w5⟩ vv H5 k6 a6 r6=>?_⟩
   have q5:H5 D0=some (Z5 D0 xs'):=k6.ex D0 _ q4
   refine ⟨q5,xs',j2,by rw [lx'.length]; exact hz,ds.length - (i+1),by omega,rfl,hlt,M5,ys++[dv],xs'++[vv],?_,?_,j2,a6.none_ext q5,?_,w5⟩
   ·rw [Y2]; exact (kk.trans k6).new hD
   ·rw [Y2]; exact a6.at (KT0.ext q5) (a6.none_ext q5)
   ·rw [Y2]; exact ((lx'.mono (kh.trans (k4.trans (k5.trans k6)))).mono0 (KT0.ext q5)).append (.cons (r6.mono0 (KT0.ext q5)) .nil)
 ·have e':i=ds.length:=by omega
  subst e'
  exact .inl ⟨wk.stop _ H2 _ (Nat.le_refl _) k2 a2' st,fin ys M2 xs H2 k2 a2 hx hM lx (C.done ys M2 w2)⟩
theorem b4T (caps:List Nat) (tgs cps:List Str) (hc:X.calm=true) (hcell:∀ x∈scope.names,x.2 ≠ .cell) (hkind:scope.kind = .function) (hnames:∀ x∈scope.names,x.2 = .local→scope.names.lookup x.1=some .local)
  (hfr:∀ x∈scope.names,x.2 = .free→x.1∈cps) (hN:caps.map (fun i=>X.N[i]?)=cps.map some) (hX:∀ x∈cps,X.env.scope.names.lookup x=some .cell∧scope.names.lookup x=some .free)
  (hsc:∀ x∈cps,(relabel scope X.env).names.lookup x=some .cell∨(relabel scope X.env).names.lookup x=some .free)
  (hi:DPI X tg iter ti) (hg:∀ cl s3 H3 C fp pins,DPG (cxF X scope cl (tgs++cps) s3 H3 C fp pins) tg g) (hq:∀ cl s3 H3 C fp pins,a2e (cxF X scope cl (tgs++cps) s3 H3 C fp pins) ifs tc) (he:∀ cl s3 H3 C fp pins,DPE (cxF X scope cl (tgs++cps) s3 H3 C fp pins) elt te)
  (hs:∀ x,foldedSetIterable iter X.env x=pure x:=by intro _; rfl):DPE X (.ListComp elt [⟨tg,iter,ifs,0⟩] scope pos) (a16 tgs.length caps ti g tc te) :=
 (W3 (a5A (tgs:=tgs) (cps:=cps) (caps:=caps) hc hcell hkind hnames hfr hN hX hsc hi (fun cl s3 H3 C fp pins=>a03 (hg cl s3 H3 C fp pins)) (fun cl s3 H3 C fp pins=>S1 (hq cl s3 H3 C fp pins)) (fun cl s3 H3 C fp pins=>a04 (he cl s3 H3 C fp pins)) hs)).imp (by rintro σ H Q ⟨e,M,R,ok,am,t,f⟩; exact ⟨e,M,_,ok,am,t,fun ds stay M1 hW H1 k1 a1 J wk=>by
  intro D0 hD
  obtain ⟨W,C⟩:=hW
  refine ⟨fun i m H'=>CWH X.K H1 D0 ds.length W i m H',⟨ds.length,by simp,Nat.zero_le _,M1,[],[],KT.alloc hD,a1.alloc hD,j2,a1.fresh hD,.nil,C.start⟩,fun i m H2 w=>T5 (Qd:=fun H'=>∃ p xs,V.ref D0 = .ref p∧H' p=some (.lst xs)∧∀ o,Q (.ref D0) (upd H' p (.frz o (.lst xs)))) (ok.mono k1) a1 wk hD C (fun ys M2 xs H' k2 a2 hx hM lx r=>?_) i m H2 w⟩
  exact ⟨D0,xs,rfl,hx,fun o=>f _ M2 r _ _ (k1.trans (k2.trans (KT.any hx))) (a2.at (KT.any hx).toKT0 hM) (.vl (.inl ⟨o,j2⟩) (lx.mono (KT.any hx)))⟩⟩)
theorem G3 (caps:List Nat) (tgs cps:List Str) (hc:X.calm=true) (hcell:∀ x∈scope.names,x.2 ≠ .cell) (hkind:scope.kind = .function) (hnames:∀ x∈scope.names,x.2 = .local→scope.names.lookup x.1=some .local)
  (hfr:∀ x∈scope.names,x.2 = .free→x.1∈cps) (hN:caps.map (fun i=>X.N[i]?)=cps.map some) (hX:∀ x∈cps,X.env.scope.names.lookup x=some .cell∧scope.names.lookup x=some .free)
  (hsc:∀ x∈cps,(relabel scope X.env).names.lookup x=some .cell∨(relabel scope X.env).names.lookup x=some .free)
  (hi:JI X tg iter ti) (hg:∀ cl s3 H3 C fp pins,JG (cxF X scope cl (tgs++cps) s3 H3 C fp pins) tg g) (hq:∀ cl s3 H3 C fp pins,a9y (cxF X scope cl (tgs++cps) s3 H3 C fp pins) ifs tc) (he:∀ cl s3 H3 C fp pins,JE (cxF X scope cl (tgs++cps) s3 H3 C fp pins) elt te)
  (hs:∀ x,foldedSetIterable iter X.env x=pure x:=by intro _; rfl):JE X (.ListComp elt [⟨tg,iter,ifs,0⟩] scope pos) (a16 tgs.length caps ti g tc te):=⟨b4T caps tgs cps hc hcell hkind hnames hfr hN hX hsc hi.out (fun v0 v1 v2 v3 v4 v5=>(hg v0 v1 v2 v3 v4 v5).out) (fun v0 v1 v2 v3 v4 v5=>(hq v0 v1 v2 v3 v4 v5).out) (fun v0 v1 v2 v3 v4 v5=>(he v0 v1 v2 v3 v4 v5).out) hs⟩
theorem b4U (caps:List Nat) (tgs cps:List Str) (hc:X.calm=true) (hcell:∀ x∈scope.names,x.2 ≠ .cell) (hkind:scope.kind = .function) (hnames:∀ x∈scope.names,x.2 = .local→scope.names.lookup x.1=some .local)
  (hfr:∀ x∈scope.names,x.2 = .free→x.1∈cps) (hN:caps.map (fun i=>X.N[i]?)=cps.map some) (hX:∀ x∈cps,X.env.scope.names.lookup x=some .cell∧scope.names.lookup x=some .free)
  (hsc:∀ x∈cps,(relabel scope X.env).names.lookup x=some .cell∨(relabel scope X.env).names.lookup x=some .free)
  (hi:DPI X tg iter ti) (hg:∀ cl s3 H3 C fp pins,DPG (cxF X scope cl (tgs++cps) s3 H3 C fp pins) tg g) (hq:∀ cl s3 H3 C fp pins,a2e (cxF X scope cl (tgs++cps) s3 H3 C fp pins) ifs tc) (he:∀ cl s3 H3 C fp pins,DPE (cxF X scope cl (tgs++cps) s3 H3 C fp pins) elt te)
  (hs:∀ x,foldedSetIterable iter X.env x=pure x:=by intro _; rfl):DPE X (.ListComp elt [⟨tg,iter,ifs,0⟩] scope pos) (a17 tgs.length caps ti g tc te) :=
 (a5A (tgs:=tgs) (cps:=cps) (caps:=caps) hc hcell hkind hnames hfr hN hX hsc hi (fun cl s3 H3 C fp pins=>a03 (hg cl s3 H3 C fp pins)) (fun cl s3 H3 C fp pins=>S1 (hq cl s3 H3 C fp pins)) (fun cl s3 H3 C fp pins=>a04 (he cl s3 H3 C fp pins)) hs).imp (by rintro σ H Q ⟨e,M,R,ok,am,t,f⟩; exact ⟨e,M,_,ok,am,t,fun ds stay M1 hW H1 k1 a1 J wk=>by
  intro D0 hD
  obtain ⟨W,C⟩:=hW
  refine ⟨fun i m H'=>CWH X.K H1 D0 ds.length W i m H',⟨ds.length,by simp,Nat.zero_le _,M1,[],[],KT.alloc hD,a1.alloc hD,j2,a1.fresh hD,.nil,C.start⟩,fun i m H2 w=>T5 (ok.mono k1) a1 wk hD C (fun ys M2 xs H' k2 a2 hx hM lx r=>?_) i m H2 w⟩
  refine f _ _ (r D0 hM) _ _ (k1.trans k2) (fun a o q=>?_) (.ref D0)
  by_cases e:a=D0
  ·subst e; rw [i8] at q; cases q; exact ⟨xs,hx,lx⟩
  ·rw [B7 e] at q; exact a2 a o q⟩)
theorem b1p (caps:List Nat) (tgs cps:List Str) (hc:X.calm=true) (hcell:∀ x∈scope.names,x.2 ≠ .cell) (hkind:scope.kind = .function) (hnames:∀ x∈scope.names,x.2 = .local→scope.names.lookup x.1=some .local)
  (hfr:∀ x∈scope.names,x.2 = .free→x.1∈cps) (hN:caps.map (fun i=>X.N[i]?)=cps.map some) (hX:∀ x∈cps,X.env.scope.names.lookup x=some .cell∧scope.names.lookup x=some .free)
  (hsc:∀ x∈cps,(relabel scope X.env).names.lookup x=some .cell∨(relabel scope X.env).names.lookup x=some .free)
  (hi:JI X tg iter ti) (hg:∀ cl s3 H3 C fp pins,JG (cxF X scope cl (tgs++cps) s3 H3 C fp pins) tg g) (hq:∀ cl s3 H3 C fp pins,a9y (cxF X scope cl (tgs++cps) s3 H3 C fp pins) ifs tc) (he:∀ cl s3 H3 C fp pins,JE (cxF X scope cl (tgs++cps) s3 H3 C fp pins) elt te)
  (hs:∀ x,foldedSetIterable iter X.env x=pure x:=by intro _; rfl):JE X (.ListComp elt [⟨tg,iter,ifs,0⟩] scope pos) (a17 tgs.length caps ti g tc te):=⟨b4U caps tgs cps hc hcell hkind hnames hfr hN hX hsc hi.out (fun v0 v1 v2 v3 v4 v5=>(hg v0 v1 v2 v3 v4 v5).out) (fun v0 v1 v2 v3 v4 v5=>(hq v0 v1 v2 v3 v4 v5).out) (fun v0 v1 v2 v3 v4 v5=>(he v0 v1 v2 v3 v4 v5).out) hs⟩
theorem a5X {i:Nat} {x:Str} {pos' pos2:Pos} (caps:List Nat) (tgs cps:List Str) (hNd:X.N.Nodup) (hxi:X.N[i]? = some x) (hx:Loc X.env.scope x) (hc:X.calm=true) (hcell:∀ x∈scope.names,x.2 ≠ .cell) (hkind:scope.kind = .function) (hnames:∀ x∈scope.names,x.2 = .local→scope.names.lookup x.1=some .local)
  (hfr:∀ x∈scope.names,x.2 = .free→x.1∈cps) (hN:caps.map (fun i=>X.N[i]?)=cps.map some) (hX:∀ x∈cps,X.env.scope.names.lookup x=some .cell∧scope.names.lookup x=some .free)
  (hsc:∀ x∈cps,(relabel scope X.env).names.lookup x=some .cell∨(relabel scope X.env).names.lookup x=some .free)
  (hi:DPI X tg iter ti) (hg:∀ cl s3 H3 C fp pins,DPG (cxF X scope cl (tgs++cps) s3 H3 C fp pins) tg g) (hq:∀ cl s3 H3 C fp pins,a2e (cxF X scope cl (tgs++cps) s3 H3 C fp pins) ifs tc) (he:∀ cl s3 H3 C fp pins,DPE (cxF X scope cl (tgs++cps) s3 H3 C fp pins) elt te)
  (hsw:swapsWith (.ListComp elt [⟨tg,iter,ifs,0⟩] scope pos) (some (.Name x pos')) pos2.line X.env=pure true:=by rfl) (hs:∀ x,foldedSetIterable iter X.env x=pure x:=by intro _; rfl) (hf:X.fn x=true∨X.env.scope.names.lookup x=some .local:=by first | exact .inl rfl | exact .inr rfl | assumption):DPS X (.Assign [.Name x pos'] (.ListComp elt [⟨tg,iter,ifs,0⟩] scope pos) pos2) (a2F (a16 tgs.length caps ti g tc te) (B8 i)) :=
 (a8b (b6L (a5x (tgs:=tgs) (cps:=cps) (caps:=caps) hc hcell hkind hnames hfr hN hX hsc hi (fun cl s3 H3 C fp pins=>a03 (hg cl s3 H3 C fp pins)) (fun cl s3 H3 C fp pins=>S1 (hq cl s3 H3 C fp pins)) (fun cl s3 H3 C fp pins=>a04 (he cl s3 H3 C fp pins)) hNd hxi hx hf hs)) hsw).imp (by rintro E σ H ⟨e,M,F,ok,am,t,f⟩; exact ⟨e,M,_,ok,am,t,fun ds stay M1 hW H1 k1 a1 J wk=>by
  intro D0 hD
  obtain ⟨W,C⟩:=hW
  refine ⟨fun i m H'=>CWH X.K H1 D0 ds.length W i m H',⟨ds.length,by simp,Nat.zero_le _,M1,[],[],KT.alloc hD,a1.alloc hD,j2,a1.fresh hD,.nil,C.start⟩,fun j m H2 w=>T5 (Qd:=fun H'=>∃ p xs,V.ref D0 = .ref p∧H' p=some (.lst xs)∧∀ o,E.nx (σ.set i (some (.ref D0))) (upd H' p (.frz o (.lst xs)))) (ok.mono k1) a1 wk hD C (fun ys M2 xs H' k2 a2 hx hM lx r=>?_) j m H2 w⟩
  exact ⟨D0,xs,rfl,hx,fun o=>f.nx _ M2 r _ _ (k1.trans (k2.trans (KT.any hx))) (a2.at (KT.any hx).toKT0 hM) ((ok.mono (k1.trans (k2.trans (KT.any hx)))).set (.vl (.inl ⟨o,j2⟩) (lx.mono (KT.any hx))) i)⟩⟩)
theorem B3 {i:Nat} {x:Str} {pos' pos2:Pos} (caps:List Nat) (tgs cps:List Str) (hNd:X.N.Nodup) (hxi:X.N[i]? = some x) (hx:Loc X.env.scope x) (hc:X.calm=true) (hcell:∀ x∈scope.names,x.2 ≠ .cell) (hkind:scope.kind = .function) (hnames:∀ x∈scope.names,x.2 = .local→scope.names.lookup x.1=some .local)
  (hfr:∀ x∈scope.names,x.2 = .free→x.1∈cps) (hN:caps.map (fun i=>X.N[i]?)=cps.map some) (hX:∀ x∈cps,X.env.scope.names.lookup x=some .cell∧scope.names.lookup x=some .free)
  (hsc:∀ x∈cps,(relabel scope X.env).names.lookup x=some .cell∨(relabel scope X.env).names.lookup x=some .free)
  (hi:JI X tg iter ti) (hg:∀ cl s3 H3 C fp pins,JG (cxF X scope cl (tgs++cps) s3 H3 C fp pins) tg g) (hq:∀ cl s3 H3 C fp pins,a9y (cxF X scope cl (tgs++cps) s3 H3 C fp pins) ifs tc) (he:∀ cl s3 H3 C fp pins,JE (cxF X scope cl (tgs++cps) s3 H3 C fp pins) elt te)
  (hsw:swapsWith (.ListComp elt [⟨tg,iter,ifs,0⟩] scope pos) (some (.Name x pos')) pos2.line X.env=pure true:=by rfl) (hs:∀ x,foldedSetIterable iter X.env x=pure x:=by intro _; rfl) (hf:X.fn x=true∨X.env.scope.names.lookup x=some .local:=by first | exact .inl rfl | exact .inr rfl | assumption):JS X (.Assign [.Name x pos'] (.ListComp elt [⟨tg,iter,ifs,0⟩] scope pos) pos2) (a2F (a16 tgs.length caps ti g tc te) (B8 i)):=⟨a5X caps tgs cps hNd hxi hx hc hcell hkind hnames hfr hN hX hsc hi.out (fun v0 v1 v2 v3 v4 v5=>(hg v0 v1 v2 v3 v4 v5).out) (fun v0 v1 v2 v3 v4 v5=>(hq v0 v1 v2 v3 v4 v5).out) (fun v0 v1 v2 v3 v4 v5=>(he v0 v1 v2 v3 v4 v5).out) hsw hs hf⟩
theorem a5Y {i:Nat} {x:Str} {pos' pos2:Pos} (caps:List Nat) (tgs cps:List Str) (hNd:X.N.Nodup) (hxi:X.N[i]? = some x) (hx:Loc X.env.scope x) (hc:X.calm=true) (hcell:∀ x∈scope.names,x.2 ≠ .cell) (hkind:scope.kind = .function) (hnames:∀ x∈scope.names,x.2 = .local→scope.names.lookup x.1=some .local)
  (hfr:∀ x∈scope.names,x.2 = .free→x.1∈cps) (hN:caps.map (fun i=>X.N[i]?)=cps.map some) (hX:∀ x∈cps,X.env.scope.names.lookup x=some .cell∧scope.names.lookup x=some .free)
  (hsc:∀ x∈cps,(relabel scope X.env).names.lookup x=some .cell∨(relabel scope X.env).names.lookup x=some .free)
  (hi:DPI X tg iter ti) (hg:∀ cl s3 H3 C fp pins,DPG (cxF X scope cl (tgs++cps) s3 H3 C fp pins) tg g) (hq:∀ cl s3 H3 C fp pins,a2e (cxF X scope cl (tgs++cps) s3 H3 C fp pins) ifs tc) (he:∀ cl s3 H3 C fp pins,DPE (cxF X scope cl (tgs++cps) s3 H3 C fp pins) elt te)
  (hsw:swapsWith (.ListComp elt [⟨tg,iter,ifs,0⟩] scope pos) (some (.Name x pos')) pos2.line X.env=pure true:=by rfl) (hs:∀ x,foldedSetIterable iter X.env x=pure x:=by intro _; rfl) (hf:X.fn x=true∨X.env.scope.names.lookup x=some .local:=by first | exact .inl rfl | exact .inr rfl | assumption):DPS X (.Assign [.Name x pos'] (.ListComp elt [⟨tg,iter,ifs,0⟩] scope pos) pos2) (a2F (a17 tgs.length caps ti g tc te) (B8 i)) :=
 (a8b (a5x (tgs:=tgs) (cps:=cps) (caps:=caps) hc hcell hkind hnames hfr hN hX hsc hi (fun cl s3 H3 C fp pins=>a03 (hg cl s3 H3 C fp pins)) (fun cl s3 H3 C fp pins=>S1 (hq cl s3 H3 C fp pins)) (fun cl s3 H3 C fp pins=>a04 (he cl s3 H3 C fp pins)) hNd hxi hx hf hs) hsw).imp (by rintro E σ H ⟨e,M,F,ok,am,t,f⟩; exact ⟨e,M,_,ok,am,t,fun ds stay M1 hW H1 k1 a1 J wk=>by
  intro D0 hD
  obtain ⟨W,C⟩:=hW
  refine ⟨fun i m H'=>CWH X.K H1 D0 ds.length W i m H',⟨ds.length,by simp,Nat.zero_le _,M1,[],[],KT.alloc hD,a1.alloc hD,j2,a1.fresh hD,.nil,C.start⟩,fun j m H2 w=>T5 (Qd:=fun H'=>E.nx (σ.set i (some (.ref D0))) H') (ok.mono k1) a1 wk hD C (fun ys M2 xs H' k2 a2 hx hM lx r=>?_) j m H2 w⟩
  refine f.nx _ _ (r D0 hM) _ _ (k1.trans k2) (fun a o q=>?_) ((ok.mono (k1.trans k2)).set (.ref D0) i)
  by_cases e:a=D0
  ·subst e; rw [i8] at q; cases q; exact ⟨xs,hx,lx⟩
  ·rw [B7 e] at q; exact a2 a o q⟩)
theorem a4p {i:Nat} {x:Str} {pos' pos2:Pos} (caps:List Nat) (tgs cps:List Str) (hNd:X.N.Nodup) (hxi:X.N[i]? = some x) (hx:Loc X.env.scope x) (hc:X.calm=true) (hcell:∀ x∈scope.names,x.2 ≠ .cell) (hkind:scope.kind = .function) (hnames:∀ x∈scope.names,x.2 = .local→scope.names.lookup x.1=some .local)
  (hfr:∀ x∈scope.names,x.2 = .free→x.1∈cps) (hN:caps.map (fun i=>X.N[i]?)=cps.map some) (hX:∀ x∈cps,X.env.scope.names.lookup x=some .cell∧scope.names.lookup x=some .free)
  (hsc:∀ x∈cps,(relabel scope X.env).names.lookup x=some .cell∨(relabel scope X.env).names.lookup x=some .free)
  (hi:JI X tg iter ti) (hg:∀ cl s3 H3 C fp pins,JG (cxF X scope cl (tgs++cps) s3 H3 C fp pins) tg g) (hq:∀ cl s3 H3 C fp pins,a9y (cxF X scope cl (tgs++cps) s3 H3 C fp pins) ifs tc) (he:∀ cl s3 H3 C fp pins,JE (cxF X scope cl (tgs++cps) s3 H3 C fp pins) elt te)
  (hsw:swapsWith (.ListComp elt [⟨tg,iter,ifs,0⟩] scope pos) (some (.Name x pos')) pos2.line X.env=pure true:=by rfl) (hs:∀ x,foldedSetIterable iter X.env x=pure x:=by intro _; rfl) (hf:X.fn x=true∨X.env.scope.names.lookup x=some .local:=by first | exact .inl rfl | exact .inr rfl | assumption):JS X (.Assign [.Name x pos'] (.ListComp elt [⟨tg,iter,ifs,0⟩] scope pos) pos2) (a2F (a17 tgs.length caps ti g tc te) (B8 i)):=⟨a5Y caps tgs cps hNd hxi hx hc hcell hkind hnames hfr hN hX hsc hi.out (fun v0 v1 v2 v3 v4 v5=>(hg v0 v1 v2 v3 v4 v5).out) (fun v0 v1 v2 v3 v4 v5=>(hq v0 v1 v2 v3 v4 v5).out) (fun v0 v1 v2 v3 v4 v5=>(he v0 v1 v2 v3 v4 v5).out) hsw hs hf⟩
end
section
variable {X:Cx} {e:Expr} {te:DTE} {p1 p2 pos pos2:Pos}
theorem SqL.upd {K:PySem.W.Frag} {H:Hp} {a it:Addr} {xs:List V} {o:HO} (h:SqL K H a xs) (ne:a≠it):SqL K (upd H it o) a xs:=h.elim (fun z=>.inl (by unfold Rd at z ⊢; rw [i7 ne]; exact z)) .inr
theorem SqK.upd {K:PySem.W.Frag} {k:Bool} {H:Hp} {a it:Addr} {xs:List V} {o:HO} (h:SqK K k H a xs) (ne:a≠it):SqK K k (L2.upd H it o) a xs:=by
 cases k with
 | true=>exact SqL.upd (show SqL K H a xs from h) ne
 | false=>exact (show SqT K H a xs from h).elim (fun z=>.inl (by unfold Rd at z ⊢; rw [i7 ne]; exact z)) .inr
def a8w (x:D) (M:Mem) (R:DK):Prop:=∃ ds,u4 M x ds∧R (.vl ds.reverse) M
def b1U (te:DTE):DTE:=fun e M R=>te e M fun x M1=>a8w x M1 R
theorem a7h (hc:X.calm=true) (g1:Gl X "list") (m1:X.mg "list" = none) (v1:bootBuiltins "list" = some (.type "list")) (g2:Gl X "reversed") (m2:X.mg "reversed" = none) (v2:bootBuiltins "reversed" = some (.type "reversed")) (he:DPE X e te)
  (h1:starEach [e] X.env=(false,eval e X.env) :: starEach [] X.env:=by rfl) (h2:starEach [.Call (.Name "reversed" p2) [e] [] pos2] X.env=(false,eval (.Call (.Name "reversed" p2) [e] [] pos2) X.env) :: starEach [] X.env:=by rfl):DPE X (.Call (.Name "list" p1) [.Call (.Name "reversed" p2) [e] [] pos2] [] pos) (b1U te) :=
 (W3 (S2 (a51 hc) g1 m1 v1 (a4c (S2 a4z g2 m2 v2 (a4c he a6U h1) (by decide) (by decide) h1) a6U h2) (by decide) (by decide) h2)).imp (by rintro σ H Q ⟨e,M,R,ok,am,t,f⟩; exact ⟨e,M,_,ok,am,t,fun x M1 ⟨ds,hi,r⟩ v H1 k1 a1 r1=>by
  obtain ⟨a,xs,rfl,sq,lx⟩:=u3 hi a1 r1
  refine ⟨a,a0J x,xs,rfl,sq,fun it hit hne hge=>⟨it,a,a0J x,xs,rfl,j2,SqK.upd sq (Ne.symm hne),Ne.symm hne,hge,fun p hp=>?_⟩⟩
  have q1:p≠it:=fun z=>by rw [z,j2] at hp; cases hp
  rw [i7 q1] at hp
  have e1:∀ o u,a15 (L2.upd (L2.upd H1 it o) p u) it=L2.upd H1 p u:=fun o u=>by
   funext b
   by_cases z:b=it
   ·subst z; rw [a13,i7 (Ne.symm q1),hit]
   ·rw [a14 z]
    by_cases y:b=p
    ·subst y; rw [j2,j2]
    ·rw [i7 y,i7 y,i7 z]
  rw [e1]
  exact Z7 f k1 a1 lx.rev r p hp⟩)
theorem a5S (hc:X.calm=true) (g1:Gl X "list") (m1:X.mg "list" = none) (v1:bootBuiltins "list" = some (.type "list")) (g2:Gl X "reversed") (m2:X.mg "reversed" = none) (v2:bootBuiltins "reversed" = some (.type "reversed")) (he:JE X e te)
  (h1:starEach [e] X.env=(false,eval e X.env) :: starEach [] X.env:=by rfl) (h2:starEach [.Call (.Name "reversed" p2) [e] [] pos2] X.env=(false,eval (.Call (.Name "reversed" p2) [e] [] pos2) X.env) :: starEach [] X.env:=by rfl):JE X (.Call (.Name "list" p1) [.Call (.Name "reversed" p2) [e] [] pos2] [] pos) (b1U te):=⟨a7h hc g1 m1 v1 g2 m2 v2 he.out h1 h2⟩
def a7e (n:Nat) (t:L1):DTG:=fun d e M R=>∃ ds,Q8 M d=some ds∧ds.length=n∧t ds e M R
theorem b4N {xs:List Expr} {k:Nat} {t:L1} {n:Nat} (hc:X.calm=true) (h:a9z X xs t)
  (hn:(assignEach xs X.env).length=n:=by rfl) (hst:(assignEach xs X.env).findIdx? (·.1)=none:=by rfl):DPG X (.Tuple xs k pos) (a7e n t) :=
 PG.imp (b3R hc h hn hst) (by
  rintro v σ H Q ⟨d,e,M,R,r,ok,am,⟨ds,hi,hl,g⟩,f⟩
  obtain ⟨a,xs,e1,sq,lx⟩:=C8 am r hi
  exact ⟨a,xs,e1,sq,by rw [lx.length]; exact hl,ds,e,M,R,lx,ok,am,g,f⟩)
theorem a1Y {xs:List Expr} {k:Nat} {t:L1} {n:Nat} (hc:X.calm=true) (h:JGs X xs t)
  (hn:(assignEach xs X.env).length=n:=by rfl) (hst:(assignEach xs X.env).findIdx? (·.1)=none:=by rfl):JG X (.Tuple xs k pos) (a7e n t):=⟨b4N hc h.out hn hst⟩
def b2y (ds:List D) (M:Mem) (Q:List D→(Mem→Prop)→Mem→Prop):Prop:=∃ xs,ds=[.vl xs]∧Q xs.reverse (fun _=>True) M
def a7d (ta:DTA):DTI:=fun e M Q=>ta e M fun ds M1=>b2y ds M1 Q
theorem a8S {K:PySem.W.Frag} {H1:Hp} {a:Addr} {xs:List V} {ds:List D} (h:Has K H1 (.ref a) (.vl ds)) (lx:HasL K H1 xs ds):a4H K H1 (Itb K a xs.length) ds.reverse (fun _=>True) where
 go:=fun i H' M' hi k am _=>by
  rw [List.length_reverse,← lx.length] at hi
  obtain ⟨a',ys,e,sq',l'⟩:=(h.mono k).il
  cases e
  have hy:ys.length=xs.length:=by rw [l'.length,lx.length]
  exact ⟨hi,ys,_,sq',List.getElem?_eq_getElem (by omega)⟩
 yld:=fun i H' M' x H'' hi k am _ q=>by
  obtain ⟨e,y⟩:=q
  subst e
  rw [List.length_reverse,← lx.length] at hi
  obtain ⟨a',ys,e,sq',l'⟩:=(h.mono k).il
  cases e
  obtain ⟨d,hd,r⟩:=l'.getV (y ys sq')
  refine ⟨d,?_,KT.refl _,am,r⟩
  rw [List.getElem?_reverse (by rw [← lx.length]; exact hi),← lx.length]
  exact hd
 stop:=fun i H' M' hi k am _=>by
  rw [List.length_reverse,← lx.length] at hi
  exact hi
 up:=fun _ _ _ _ _=>trivial
theorem b3Z {tg a:Expr} {ta:DTA} {p pos:Pos} (g1:Gl X "reversed") (m1:X.mg "reversed" = none) (v1:bootBuiltins "reversed" = some (.type "reversed")) (ha:DPA X [a] ta)
  (hs:starEach [a] X.env=[(false,eval a X.env)]:=by rfl):DPI X tg (.Call (.Name "reversed" p) [a] [] pos) (a7d ta) :=
 PI.imp (b3P g1 m1 v1 ha hs) (by
  rintro σ H R ⟨e,M,R',ok,am,t,f⟩
  exact ⟨e,M,_,ok,am,t,fun ds M1 z vs H1 k1 a1 r1=>by
   obtain ⟨xs,rfl,r⟩:=z
   obtain ⟨v,rfl,hv⟩:=r1.one
   obtain ⟨a,ws,e1,sq,lx⟩:=hv.il
   subst e1
   exact ⟨a,ws,rfl,sq,f _ _ M1 r H1 k1 a1 _ (a8S hv lx)⟩⟩)
theorem b1l {tg a:Expr} {ta:DTA} {p pos:Pos} (g1:Gl X "reversed") (m1:X.mg "reversed" = none) (v1:bootBuiltins "reversed" = some (.type "reversed")) (ha:JA X [a] ta)
  (hs:starEach [a] X.env=[(false,eval a X.env)]:=by rfl):JI X tg (.Call (.Name "reversed" p) [a] [] pos) (a7d ta):=⟨b3Z g1 m1 v1 ha.out hs⟩
end
end DL
namespace L2
open PySem PySem.Spec PyProof.Rows
section
variable {X:Cx} {pos:Pos}
end
end L2
namespace DL
open PySem PySem.Spec L2
open PyProof.Rows hiding St
end DL
namespace DL
open PySem PySem.Spec L2
open PyProof.Rows hiding St
section
variable {X:Cx}
theorem a9s (hc:X.calm=true):A7 X (.builtin "min") (fun xs H Q=>∃ (l:Addr) (ns:List Int),xs=[.ref l]∧SqL X.K H l (ns.map V.int)∧0<ns.length∧∀ m,m∈ns→(∀ a,a∈ns→m≤a)→Q (.int m) H):=by
 intro pins s σ H xs us Q I r h
 obtain ⟨l,ns,rfl,hS,hne,q⟩:=h
 obtain ⟨u,rfl,ru⟩:=Y1 r
 cases ru
 obtain ⟨its,rv,p,_⟩:=I.list hS
 have hi:IntsAre its ns:=a10 rv
 have hl:s.heap.IsList l its.toArray:=p.isList
 obtain ⟨xs,e⟩:=hi.allInts.items
 have hns:ns=xs.toList.map (·.1):=by
  rw [← hi.numsOf,← nums_intItems,← e]
 have hsz:0<xs.size:=by
  have h3:=hne; rw [hns,List.length_map,Array.length_toList] at h3; exact h3
 rw [e] at hl
 refine min_intList (I.ok.hd hc) hl hsz fun v h' tk hv hk=>?_
 obtain ⟨t,rfl⟩:=intItems_at hv
 obtain ⟨h1,h2⟩:=argBest_lt (numAt xs) (xs.size - 1)
 refine ⟨.int _,H,I.kept hk,⟨t,rfl⟩,q _ ?_ fun a ha=>?_⟩
 ·rw [hns,numAt_eq]; exact getD_mem (by rw [List.length_map,Array.length_toList]; omega)
 ·rw [hns] at ha
  obtain ⟨j,hj,rfl⟩:=mem_getD ha
  rw [List.length_map,Array.length_toList] at hj
  rw [← numAt_eq]; exact h2 j (by omega)
theorem HasL.intsV {K:PySem.W.Frag} {H:Hp}:∀ {ns:List Int} {vs:List V},HasL K H vs (ns.map D.int)→vs=ns.map V.int
 | [],_,h=>by cases h; rfl
 | n :: r,_,h=>by
  cases h with
  | cons a b=>cases a; rw [HasL.intsV (ns:=r) b]; rfl
def b9D:DRC:=fun ds M R=>∃ (d:D) (ns:List Int),ds=[d]∧Q8 M d=some (ns.map D.int)∧0<ns.length∧∀ m,m∈ns→(∀ a,a∈ns→m≤a)→R (.int m) M
theorem b8f (hc:X.calm=true):R6 X (.builtin "min") b9D:=A7.imp (a9s hc) (by
 rintro xs H Q ⟨ds,M,R,hl,am,⟨d,ns,z,hM,h0,r⟩,f⟩
 subst z
 obtain ⟨v,rfl,hv⟩:=hl.one
 obtain ⟨a,vs,rfl,s,l⟩:=C8 am hv hM
 rw [l.intsV] at s
 exact ⟨a,ns,rfl,s,h0,fun m h1 h2=>f _ M (r m h1 h2) _ H (KT.refl H) am (.int _)⟩)
end
end DL
namespace DL
open PySem PySem.Spec L2
open PyProof.Rows hiding St
section
variable {X:Cx}
end
section
variable {X:Cx} {a b c:Expr} {ta tb tc:DTE} {pos:Pos}
end
section
variable {K:PySem.W.Frag}
end
end DL
namespace DL
open PySem PySem.Spec L2
open PyProof.Rows hiding St
section
variable {X:Cx} {x:Expr} {t:DTE}
end
end DL
namespace DL
open PySem PySem.Spec L2
open PyProof.Rows hiding St
def b9s (X:Cx):St:=List.replicate X.N.length none
def Cov (B s0:Heap) (H':Hp) (fs:List Addr) (h:Heap):Prop:=∀ b o,h.get? b=some o→((∃ u,H' b=some u) ∨ ∃ o0,s0.get? b=some o0)→b∉fs→B.get? b=some o
def CXr (P:Program) (w:World) (base:Heap):CXT:=fun outer H s E e s'=>∃ a cls a0 H' B,e = .ref a∧s'.os=s.os∧AllBare s'.gens∧Un (frs outer) [] H H' s.heap s'.heap∧HOk P w H' s'.heap∧KT H H' ∧
 base.StaysIn B∧Cov B s.heap H' (frs outer) s'.heap∧Heap.FlyingW B outer a cls a0 s'.heap∧E cls none H'
def XP (X:Cx) (mk:Bool) (EX:Value→Hp→Prop):Value→Shared→Prop:=fun e s' =>
 (mk=true∧∃ a cls h vs H',e = .ref a∧EX cls H'∧Heap.MadeExcOf h s'.heap a cls vs∧Inv X [] (b9s X) H' { s' with heap:=h }) ∨
 (∃ pins σ Hc sc,Inv X pins σ Hc sc∧CXr X.prog X.w X.base X.stack Hc sc (fun cls _ H'=>EX cls H') e s')
section
variable {P:Program} {w:World} {K:PySem.W.Frag} {mg:Str→Option Value} {base:Heap} {N:List Str} {qual:Str} {scope:Scope} {f:Addr} {cd:Value} {A:Around} {outer:List Env} {s:Shared} {H:Hp} {E:XK}
end
def xN (x:Str):Value:=.str x 0
def c0V (X:Cx) (H₀:Hp) (Y:DXK):Value→Hp→Prop:=fun c H'=>KT H₀ H'∧∃ (x:Str) (C:Addr) (M':Mem),c = .ref C∧X.mg x=some (.ref C)∧p0 X.K H' M'∧Y (xN x) M'
abbrev Cx.ex' (X:Cx) (mk:Bool) (H₀:Hp) (Y:DXK):Cx:=X.wish (XP X mk (c0V X H₀ Y))
section
variable {X:Cx} {mk:Bool} {H₀:Hp} {Y:DXK} {st:Stmt} {u5:List Stmt} {t u:DTS} {pos:Pos}
end
section
variable {P:Program} {w:World} {K:PySem.W.Frag} {mg:Str→Option Value} {base:Heap}
end
section
variable {X:Cx} {mk:Bool} {H₀:Hp} {Y:DXK} {pos cpos:Pos} {x:Str} {j:Nat} {ps:List Str} {sp:DSp} {p:Pos} {e:Expr} {es:List Expr} {t:DTA}
end
section
variable {X:Cx} {mk:Bool} {H₀:Hp} {Y:DXK} {pos:Pos} {e:Expr} {te:DTE}
end
section
variable {X:Cx} {H₀:Hp} {Y:DXK} {pos cpos np:Pos} {x:Str} {e₀:Expr} {te:DTE}
end
abbrev Cx.pinned (X:Cx) (pn:List (Addr × Obj)):Cx:={ X with pn:=pn }
section
variable {X:Cx} {pins pn:List (Addr × Obj)} {σ:St} {H:Hp} {s:Shared}
end
section
variable {X:Cx} {body suite:List Stmt} {b0:Stmt} {c:Str} {np hpos pos:Pos} {tb:DXK→DTS} {ts:DTS}
end
section
variable {X:Cx} {body suite:List Stmt} {b0:Stmt} {c:Str} {np hpos pos:Pos} {tb:DXK→DTS} {ts:DTS}
end
end DL
namespace DL
open PySem PySem.Spec L2
def BlK (x:D) (M:Mem) (Q:Bool→Mem→Prop):Prop:=∃ k,x = .bl k∧Q k M
def IfK (c:Bool) (A B:Prop):Prop:=if c=true then A else B
def SzK (n:Nat) (A:Prop):Prop:=n≤sizeLine∧A
def b99 (i j:Nat) (ds:List D) (F:a0R) (e:Ev) (M:Mem):Prop:=∃ x y,ds=[x,y]∧F.nx ((e.set i (some x)).set j (some y)) M
def b8o (x:D) (M:Mem) (Q:List D→(Mem→Prop)→Mem→Prop):Prop:=∃ ds,u4 M x ds∧Q ds (fun M'=>u4 M' x ds) M
def b2v (xs:List D) (M:Mem) (Q:List D→(Mem→Prop)→Mem→Prop):Prop:=∃ x ds,xs=[x]∧u4 M x ds∧Q (K8 ds) (fun M'=>u4 M' x ds) M
def b2p (xs:List D) (M:Mem) (Q:List D→(Mem→Prop)→Mem→Prop):Prop:=∃ x y ds es,xs=[x,y]∧u4 M x ds∧u4 M y es∧Q (U6 ds es) (fun M'=>u4 M' x ds∧u4 M' y es) M
def b98 (xs:List D) (M:Mem) (Q:List D→(Mem→Prop)→Mem→Prop):Prop:=∃ j:Int,xs=[.int j]∧-(2 ^ 62)≤j∧j<2 ^ 62∧Q (N3 0 j.toNat) (fun _=>True) M
def X6 (g:DTG) (tb:DTS) (F:a0R) (ds:List D) (stay:Mem→Prop) (e:Ev) (M1:Mem):Prop:=∃ W:Nat→Ev→Mem→Prop,W 0 e M1∧(∀ i e M,i≤ds.length→W i e M→stay M) ∧
 (∀ (i:Nat) (d:D) e M,ds[i]? = some d→W i e M→g d e M fun e2 M2=>tb { F with nx:=W (i+1),ct:=W (i+1),bk:=F.nx } e2 M2)∧∀ e M,W ds.length e M→F.nx e M
def c0c (x:D) (M1:Mem) (R:DK):Prop:=∃ p ds,x = .ref p∧M1 p=some (.lst ds)∧R (.vl ds) (X1 M1 p)
def c0d (x:D) (M1:Mem) (R:DK):Prop:=∃ M2:Mem,(∀ b o,M2 b=some o→M1 b=some o)∧R x M2
def LMK (x:D) (M:Mem) (A:Prop):Prop:=(∃ l ds,x = .ref l∧M l=some (.lst ds))∧A
end DL
namespace DL
open PySem PySem.Spec L2
open PyProof.Rows hiding St
section
variable {e:Ev} {M:Mem} {R:DK} {F:a0R} {ta tb tc:DTE} {tA tB:DTT} {tr:DTA} {t u:DTS}
theorem z_C {d:D}:dC d e M R=R d M:=rfl
theorem b8V {g:DR2}:dOp g ta tb e M R=ta e M fun x M1=>tb e M1 fun y M2=>g x y M2 R:=rfl
theorem b8T {g:D→Mem→DK→Prop}:dUn g ta e M R=ta e M fun x M1=>g x M1 R:=rfl
theorem b8R {f:Int→Int→D} {i j:Int}:gF (fI f) (.int i) (.int j) M R=R (f i j) M:=propext ⟨fun zz=>by obtain ⟨_,h,r⟩:=zz; cases h; exact r,fun r=>⟨_,rfl,r⟩⟩
theorem b8S {f:Bool→Bool→D} {i j:Bool}:gF (fB f) (.bl i) (.bl j) M R=R (f i j) M:=propext ⟨fun zz=>by obtain ⟨_,h,r⟩:=zz; cases h; exact r,fun r=>⟨_,rfl,r⟩⟩
theorem b8Q {f:Str→Str→D} {i j:Str}:gF (fS f) (.str i) (.str j) M R=R (f i j) M:=propext ⟨fun zz=>by obtain ⟨_,h,r⟩:=zz; cases h; exact r,fun r=>⟨_,rfl,r⟩⟩
theorem b8P {C:Int→Int→Prop} {f:Int→Int→D} {i j:Int}:gI C f (.int i) (.int j) M R=(C i j∧R (f i j) M):=propext ⟨fun zz=>by obtain ⟨_,_,h1,h2,c,r⟩:=zz; cases h1; cases h2; exact ⟨c,r⟩,fun ⟨c,r⟩=>⟨_,_,rfl,rfl,c,r⟩⟩
theorem b8O {f:Int→D} {i:Int}:gU f (.int i) M R=R (f i) M:=propext ⟨fun zz=>by obtain ⟨_,h,r⟩:=zz; cases h; exact r,fun r=>⟨_,rfl,r⟩⟩
theorem a92 {Q:Bool→Mem→Prop}:a0N ta e M Q=ta e M fun x M'=>BlK x M' Q:=rfl
theorem b5I {b:Bool} {Q:Bool→Mem→Prop}:BlK (.bl b) M Q=Q b M:=propext ⟨fun zz=>by obtain ⟨_,h,r⟩:=zz; cases h; exact r,fun r=>⟨_,rfl,r⟩⟩
theorem b5K {Q:Bool→Mem→Prop}:b8b tA tB e M Q=tA e M fun c M1=>IfK c (tB e M1 Q) (Q false M1):=rfl
theorem b8U {Q:Bool→Mem→Prop}:dOr tA tB e M Q=tA e M fun c M1=>IfK c (Q true M1) (tB e M1 Q):=rfl
theorem b5w {Q:Bool→Mem→Prop}:b74 tA e M Q=tA e M fun c M1=>Q (!c) M1:=rfl
theorem b0i:b2b ta tb e M R=ta e M fun x M1=>BlK x M1 fun c M1=>IfK c (tb e M1 R) (R (.bl false) M1):=rfl
theorem b5v:b73 ta tb e M R=ta e M fun x M1=>BlK x M1 fun c M1=>IfK c (R (.bl true) M1) (tb e M1 R):=rfl
theorem a98:b1V ta e M R=ta e M fun x M1=>BlK x M1 fun c M1=>R (.bl (!c)) M1:=rfl
theorem b8X:dIf tA ta tb e M R=tA e M fun c M1=>IfK c (ta e M1 R) (tb e M1 R):=rfl
theorem b5B:b77 tA t u F e M=tA e M fun c M1=>IfK c (t F e M1) (u F e M1):=rfl
theorem b5x {Q:List D→Mem→Prop}:b75 e M Q=Q [] M:=rfl
theorem b0f {Q:List D→Mem→Prop}:b1Z ta tr e M Q=ta e M fun x M1=>tr e M1 fun xs M2=>Q (x :: xs) M2:=rfl
theorem b5r:b7Z tr e M R=tr e M fun ds M1=>SzK ds.length (R (.tup ds) M1):=rfl
theorem b5z:b76 tr e M R=tr e M fun ds M1=>SzK ds.length (∀ p,M1 p=none→R (.ref p) (v8 M1 p (.lst ds))):=rfl
theorem T7 {x y z:D} (h:ixD M x y=some z):gIx x y M R=R z M:=propext ⟨fun zz=>by obtain ⟨_,h',r⟩:=zz; rw [h] at h'; cases h'; exact r,fun r=>⟨_,h,r⟩⟩
theorem a5a {neg:Bool} {x y:D} {b:Bool} (h:isD x y=some b):gIs neg x y M R=R (.bl (neg.xor b)) M:=propext ⟨fun zz=>by obtain ⟨_,h',r⟩:=zz; rw [h] at h'; cases h'; exact r,fun r=>⟨_,h,r⟩⟩
theorem b5H {neg:Bool} {x y:D}:b7x neg x y M R=(cl 60 x=true∧cl 60 y=true∧R (.bl (neg.xor (@decide (x=y) (Classical.propDecidable _)))) M):=rfl
theorem b0h {sp:DSp} {dds:List D} {Y:DXK}:a50 sp dds Y tr e M R=tr e M fun ds M1=>sp (ds++dds) M1 R Y:=rfl
theorem b8Y {g:DRC}:dCB g tr e M R=tr e M fun ds M1=>g ds M1 R:=rfl
theorem a99:b1W F e M=F.nx e M:=rfl
theorem b5s:b70 t u F e M=t { F with nx:=u F } e M:=rfl
theorem b0e:b1Y ta F e M=ta e M fun _ M1=>F.nx e M1:=rfl
theorem b5t:b71 ta F e M=ta e M F.rt:=rfl
theorem a7T:a7j F e M=False:=rfl
variable {Q:Ev→Mem→Prop}
theorem a7K {i:Nat} {d:D}:B8 i d e M Q=Q (e.set i (some d)) M:=rfl
theorem a91:b1R [] e M Q=Q e M:=propext ⟨fun h=>h.2,fun h=>⟨rfl,h⟩⟩
theorem a7L {g:DTG} {gs:L1} {d:D} {ds:List D}:a7f g gs (d :: ds) e M Q=g d e M fun e' M'=>gs ds e' M' Q:=propext ⟨fun zz=>by obtain ⟨_,_,h,r⟩:=zz; cases h; exact r,fun r=>⟨_,_,rfl,r⟩⟩
theorem a42 {n:Nat} {gs:L1} {ds:List D} (h:ds.length=n):a7e n gs (.vl ds) e M Q=gs ds e M Q:=propext ⟨fun zz=>by obtain ⟨_,h',_,r⟩:=zz; cases h'; exact r,fun r=>⟨_,rfl,h,r⟩⟩
theorem a1v {n:Nat} {gs:L1} {ds:List D} (h:ds.length=n):a3u n gs (.tup ds) e M Q=gs ds e M Q:=propext ⟨fun zz=>by obtain ⟨_,h',_,r⟩:=zz; cases h'; exact r,fun r=>⟨_,rfl,h,r⟩⟩
theorem a90 {to ti:DTE} {ts:b2w} {d:D}:b1Q to ti ts d e M Q=to e M fun o M1=>ti e M1 fun i M2=>ts o i d M2 fun M3=>Q e M3:=rfl
theorem b5J {g:DTG}:a2F ta g F e M=ta e M fun x M1=>g x e M1 F.nx:=rfl
theorem b5u {i j:Nat}:b72 i j tr F e M=tr e M fun ds M1=>b99 i j ds F e M1:=rfl
theorem a97 {i j:Nat} {x y:D}:b99 i j [x,y] F e M=F.nx ((e.set i (some x)).set j (some y)) M:=propext ⟨fun zz=>by obtain ⟨_,_,h,r⟩:=zz; cases h; exact r,fun r=>⟨_,_,rfl,r⟩⟩
theorem b5L {i:Int}:b9H [.int i] M R=R (.int (i.natAbs:Int)) M:=propext ⟨fun zz=>by obtain ⟨_,h,r⟩:=zz; cases h; exact r,fun r=>⟨_,rfl,r⟩⟩
theorem b5y {i j:Int}:b9E [.int i,.int j] M R=R (.int (max i j)) M:=propext ⟨fun zz=>by obtain ⟨_,_,h,r⟩:=zz; cases h; exact r,fun r=>⟨_,_,rfl,r⟩⟩
theorem a49 {d:D} {n:Nat} (h:b1g M d=some n):a9m [d] M R=R (.int (n:Int)) M:=propext ⟨fun zz=>by obtain ⟨_,_,h',h2,r⟩:=zz; cases h'; rw [h] at h2; cases h2; exact r,fun r=>⟨_,_,rfl,h,r⟩⟩
theorem p4 {d:D} {ty T:String} {b:Bool} (h1:tyD M d=some ty) (h2:b3v ty T=some b):z9 [d,.ty T] M R=R (.bl b) M:=propext ⟨fun zz=>by
 obtain ⟨_,_,_,_,h,h1',h2',r⟩:=zz
 injection h with h h'; subst h; injection h' with h'; injection h' with h'; subst h'
 rw [h1] at h1'; cases h1'; rw [h2] at h2'; cases h2'; exact r,fun r=>⟨_,_,_,_,rfl,h1,h2,r⟩⟩
theorem b5C {c:Bool} {A B:Prop}:IfK c A B=((c=true→A)∧(c=false→B)):=by cases c <;> simp [IfK]
theorem b5A {A B:Prop}:IfK true A B=A:=by simp [IfK]
theorem b5D {A B:Prop}:IfK false A B=B:=by simp [IfK]
theorem B4 {n:Nat} {A:Prop} (h:n≤1000):SzK n A=A:=propext ⟨fun h=>h.2,fun a=>⟨sl n h,a⟩⟩
theorem b8D {d:D} {r:Ev}:N9 0 (some d :: r) M R=R d M:=propext ⟨fun zz=>by obtain ⟨_,h,q⟩:=zz; cases h; exact q,fun q=>⟨_,rfl,q⟩⟩
theorem b8N {y z:Option D} {r:Ev}:(y :: r:Ev).set 0 z=z :: r:=rfl
theorem b8C {x0:Option D} {d:D} {r:Ev}:N9 1 (x0 :: some d :: r) M R=R d M:=propext ⟨fun zz=>by obtain ⟨_,h,q⟩:=zz; cases h; exact q,fun q=>⟨_,rfl,q⟩⟩
theorem b8M {x0:Option D} {y z:Option D} {r:Ev}:(x0 :: y :: r:Ev).set 1 z=x0 :: z :: r:=rfl
theorem b8B {x0 x1:Option D} {d:D} {r:Ev}:N9 2 (x0 :: x1 :: some d :: r) M R=R d M:=propext ⟨fun zz=>by obtain ⟨_,h,q⟩:=zz; cases h; exact q,fun q=>⟨_,rfl,q⟩⟩
theorem b8L {x0 x1:Option D} {y z:Option D} {r:Ev}:(x0 :: x1 :: y :: r:Ev).set 2 z=x0 :: x1 :: z :: r:=rfl
theorem b8A {x0 x1 x2:Option D} {d:D} {r:Ev}:N9 3 (x0 :: x1 :: x2 :: some d :: r) M R=R d M:=propext ⟨fun zz=>by obtain ⟨_,h,q⟩:=zz; cases h; exact q,fun q=>⟨_,rfl,q⟩⟩
theorem b8K {x0 x1 x2:Option D} {y z:Option D} {r:Ev}:(x0 :: x1 :: x2 :: y :: r:Ev).set 3 z=x0 :: x1 :: x2 :: z :: r:=rfl
theorem b8z {x0 x1 x2 x3:Option D} {d:D} {r:Ev}:N9 4 (x0 :: x1 :: x2 :: x3 :: some d :: r) M R=R d M:=propext ⟨fun zz=>by obtain ⟨_,h,q⟩:=zz; cases h; exact q,fun q=>⟨_,rfl,q⟩⟩
theorem b8J {x0 x1 x2 x3:Option D} {y z:Option D} {r:Ev}:(x0 :: x1 :: x2 :: x3 :: y :: r:Ev).set 4 z=x0 :: x1 :: x2 :: x3 :: z :: r:=rfl
theorem b8y {x0 x1 x2 x3 x4:Option D} {d:D} {r:Ev}:N9 5 (x0 :: x1 :: x2 :: x3 :: x4 :: some d :: r) M R=R d M:=propext ⟨fun zz=>by obtain ⟨_,h,q⟩:=zz; cases h; exact q,fun q=>⟨_,rfl,q⟩⟩
theorem b8I {x0 x1 x2 x3 x4:Option D} {y z:Option D} {r:Ev}:(x0 :: x1 :: x2 :: x3 :: x4 :: y :: r:Ev).set 5 z=x0 :: x1 :: x2 :: x3 :: x4 :: z :: r:=rfl
theorem b8x {x0 x1 x2 x3 x4 x5:Option D} {d:D} {r:Ev}:N9 6 (x0 :: x1 :: x2 :: x3 :: x4 :: x5 :: some d :: r) M R=R d M:=propext ⟨fun zz=>by obtain ⟨_,h,q⟩:=zz; cases h; exact q,fun q=>⟨_,rfl,q⟩⟩
theorem b8H {x0 x1 x2 x3 x4 x5:Option D} {y z:Option D} {r:Ev}:(x0 :: x1 :: x2 :: x3 :: x4 :: x5 :: y :: r:Ev).set 6 z=x0 :: x1 :: x2 :: x3 :: x4 :: x5 :: z :: r:=rfl
theorem b8w {x0 x1 x2 x3 x4 x5 x6:Option D} {d:D} {r:Ev}:N9 7 (x0 :: x1 :: x2 :: x3 :: x4 :: x5 :: x6 :: some d :: r) M R=R d M:=propext ⟨fun zz=>by obtain ⟨_,h,q⟩:=zz; cases h; exact q,fun q=>⟨_,rfl,q⟩⟩
theorem b8G {x0 x1 x2 x3 x4 x5 x6:Option D} {y z:Option D} {r:Ev}:(x0 :: x1 :: x2 :: x3 :: x4 :: x5 :: x6 :: y :: r:Ev).set 7 z=x0 :: x1 :: x2 :: x3 :: x4 :: x5 :: x6 :: z :: r:=rfl
theorem b8v {x0 x1 x2 x3 x4 x5 x6 x7:Option D} {d:D} {r:Ev}:N9 8 (x0 :: x1 :: x2 :: x3 :: x4 :: x5 :: x6 :: x7 :: some d :: r) M R=R d M:=propext ⟨fun zz=>by obtain ⟨_,h,q⟩:=zz; cases h; exact q,fun q=>⟨_,rfl,q⟩⟩
theorem b8F {x0 x1 x2 x3 x4 x5 x6 x7:Option D} {y z:Option D} {r:Ev}:(x0 :: x1 :: x2 :: x3 :: x4 :: x5 :: x6 :: x7 :: y :: r:Ev).set 8 z=x0 :: x1 :: x2 :: x3 :: x4 :: x5 :: x6 :: x7 :: z :: r:=rfl
theorem b8u {x0 x1 x2 x3 x4 x5 x6 x7 x8:Option D} {d:D} {r:Ev}:N9 9 (x0 :: x1 :: x2 :: x3 :: x4 :: x5 :: x6 :: x7 :: x8 :: some d :: r) M R=R d M:=propext ⟨fun zz=>by obtain ⟨_,h,q⟩:=zz; cases h; exact q,fun q=>⟨_,rfl,q⟩⟩
theorem b8E {x0 x1 x2 x3 x4 x5 x6 x7 x8:Option D} {y z:Option D} {r:Ev}:(x0 :: x1 :: x2 :: x3 :: x4 :: x5 :: x6 :: x7 :: x8 :: y :: r:Ev).set 9 z=x0 :: x1 :: x2 :: x3 :: x4 :: x5 :: x6 :: x7 :: x8 :: z :: r:=rfl
theorem b5d {x0 x1 x2 x3 x4 x5 x6 x7 x8 x9:Option D} {d:D} {r:Ev}:N9 10 (x0 :: x1 :: x2 :: x3 :: x4 :: x5 :: x6 :: x7 :: x8 :: x9 :: some d :: r) M R=R d M:=propext ⟨fun zz=>by obtain ⟨_,h,q⟩:=zz; cases h; exact q,fun q=>⟨_,rfl,q⟩⟩
theorem b5p {x0 x1 x2 x3 x4 x5 x6 x7 x8 x9:Option D} {y z:Option D} {r:Ev}:(x0 :: x1 :: x2 :: x3 :: x4 :: x5 :: x6 :: x7 :: x8 :: x9 :: y :: r:Ev).set 10 z=x0 :: x1 :: x2 :: x3 :: x4 :: x5 :: x6 :: x7 :: x8 :: x9 :: z :: r:=rfl
theorem A1 {M:Mem} {ds es:List D}:u4 M (.tup ds) es=(es=ds):=by
 apply propext
 constructor
 ·intro h
  rcases h with h | ⟨_,h,_⟩ | h
  ·injection h with h; exact h.symm
  ·exact absurd h (by intro z; cases z)
  ·exact absurd h (by intro z; cases z)
 ·intro h; exact .inl (by rw [h])
theorem m5 {M:Mem} {ds es:List D}:u4 M (.vl ds) es=(es=ds):=by
 apply propext
 constructor
 ·intro h
  rcases h with h | ⟨_,h,_⟩ | h
  ·exact absurd h (by intro z; cases z)
  ·exact absurd h (by intro z; cases z)
  ·injection h with h; exact h.symm
 ·intro h; exact .inr (.inr (by rw [h]))
theorem p7 {ds:List D} {n:Nat} {d:D} (h:ds[n]? = some d):atI ds (n:Int)=some d:=by
 obtain ⟨hl,_⟩:=List.getElem?_eq_some_iff.mp h
 unfold atI ixN
 rw [if_pos (Int.natCast_nonneg n),if_pos (by omega)]
 simpa using h
theorem b0a:b1X tr e M R=tr e M fun ds M1=>SzK ds.length (R (.vl ds) M1):=rfl
theorem b0g:b2a ta tb e M R=ta e M fun x M1=>tb e M1 fun y M2=>a8y x y M2 R:=rfl
theorem a7U:a7k tr e M R=tr e M fun ds M1=>a4u ds M1 R:=rfl
theorem a45 {ds:List D}:a4u [.tup ds] M R=R (.vl ds) M:=propext ⟨fun zz=>by obtain ⟨_,_,h,h2,r⟩:=zz; cases h; rw [A1] at h2; subst h2; exact r,fun r=>⟨_,_,rfl,.inl rfl,r⟩⟩
theorem b0d {neg:Bool} {x:D} {ds:List D}:b9F neg x (.vl ds) M R=(cl 60 x=true∧clL 59 ds=true∧R (.bl (neg.xor (@decide (x∈ds) (Classical.propDecidable _)))) M):=propext ⟨fun zz=>by obtain ⟨_,a,b,c,r⟩:=zz; rw [m5] at b; subst b; exact ⟨a,c,r⟩,fun ⟨a,c,r⟩=>⟨ds,a,by rw [m5],c,r⟩⟩
theorem a3e {ds:List D}:a4u [.vl ds] M R=R (.vl ds) M:=propext ⟨fun zz=>by obtain ⟨_,_,h,h2,r⟩:=zz; cases h; rw [m5] at h2; subst h2; exact r,fun r=>⟨_,_,rfl,.inr (.inr rfl),r⟩⟩
theorem a41 {ds:List D}:b5V [.vl ds] M R=R (.tup ds) M:=propext ⟨fun zz=>by obtain ⟨_,_,h,h2,r⟩:=zz; cases h; cases h2; exact r,fun r=>⟨_,_,rfl,rfl,r⟩⟩
theorem a46 {xs ys:List D}:a8y (.vl xs) (.vl ys) M R=SzK (xs.length+ys.length) (R (.vl (xs++ys)) M):=propext ⟨fun zz=>by obtain ⟨_,_,h,h2,z,r⟩:=zz; cases h; cases h2; exact ⟨z,r⟩,fun ⟨z,r⟩=>⟨_,_,rfl,rfl,z,r⟩⟩
theorem a96:b1U ta e M R=ta e M fun x M1=>a8w x M1 R:=rfl
theorem a43 {ds:List D}:a8w (.vl ds) M R=R (.vl ds.reverse) M:=propext ⟨fun zz=>by obtain ⟨_,h,r⟩:=zz; rw [m5] at h; subst h; exact r,fun r=>⟨_,.inr (.inr rfl),r⟩⟩
theorem a44 {ds:List D}:a8w (.tup ds) M R=R (.vl ds.reverse) M:=propext ⟨fun zz=>by obtain ⟨_,h,r⟩:=zz; rw [A1] at h; subst h; exact r,fun r=>⟨_,.inl rfl,r⟩⟩
theorem b5E:b78 ta e M R=ta e M fun x M1=>c0c x M1 R:=rfl
theorem a3B {p:Addr} {ds:List D} (h:M p=some (.lst ds)):c0c (.ref p) M R=R (.vl ds) (X1 M p):=propext ⟨fun zz=>by obtain ⟨_,_,e,h',r⟩:=zz; cases e; rw [h] at h'; cases h'; exact r,fun r=>⟨_,_,rfl,h,r⟩⟩
theorem a7X {n:Nat} {caps:List Nat} {ti:DTI} {g:DTG} {tc:L0} {te:DTE}:a16 n caps ti g tc te e M R=ti e M fun ds stay M1=>a8K (a2G n caps e) g tc te ds stay M1 R:=rfl
theorem a7Y {n:Nat} {caps:List Nat} {ti:DTI} {g:DTG} {tc:L0} {te:DTE}:a17 n caps ti g tc te e M R=ti e M fun ds stay M1=>a8L (a2G n caps e) g tc te ds stay M1 R:=rfl
theorem b5q {Q:Bool→Mem→Prop}:a7i e M Q=Q true M:=rfl
section
variable {Q:List D→(Mem→Prop)→Mem→Prop}
theorem a7N:b1N ta e M Q=ta e M fun x M1=>b8o x M1 Q:=rfl
theorem a94 {ds:List D}:b8o (.tup ds) M Q=Q ds (fun M'=>u4 M' (.tup ds) ds) M:=propext ⟨fun zz=>by obtain ⟨_,h,r⟩:=zz; rw [A1] at h; subst h; exact r,fun r=>⟨_,.inl rfl,r⟩⟩
theorem a93 {ds:List D}:b8o (.vl ds) M Q=Q ds (fun M'=>u4 M' (.vl ds) ds) M:=propext ⟨fun zz=>by obtain ⟨_,h,r⟩:=zz; rw [m5] at h; subst h; exact r,fun r=>⟨_,.inr (.inr rfl),r⟩⟩
theorem a47:a7c tr e M Q=tr e M fun xs M1=>b2v xs M1 Q:=rfl
theorem a7W {ds:List D}:b2v [.tup ds] M Q=Q (K8 ds) (fun M'=>u4 M' (.tup ds) ds) M:=propext ⟨fun zz=>by obtain ⟨_,_,h,h2,r⟩:=zz; cases h; rw [A1] at h2; subst h2; exact r,fun r=>⟨_,_,rfl,.inl rfl,r⟩⟩
theorem a7V {ds:List D}:b2v [.vl ds] M Q=Q (K8 ds) (fun M'=>u4 M' (.vl ds) ds) M:=propext ⟨fun zz=>by obtain ⟨_,_,h,h2,r⟩:=zz; cases h; rw [m5] at h2; subst h2; exact r,fun r=>⟨_,_,rfl,.inr (.inr rfl),r⟩⟩
theorem a7M:b1M tr e M Q=tr e M fun xs M1=>b2p xs M1 Q:=rfl
theorem a7S {ds es:List D}:b2p [.tup ds,.tup es] M Q=Q (U6 ds es) (fun M'=>u4 M' (.tup ds) ds∧u4 M' (.tup es) es) M:=propext ⟨fun zz=>by obtain ⟨_,_,_,_,h,h2,h3,r⟩:=zz; cases h; rw [A1] at h2 h3; subst h2; subst h3; exact r,fun r=>⟨_,_,_,_,rfl,.inl rfl,.inl rfl,r⟩⟩
theorem a7P {ds es:List D}:b2p [.vl ds,.vl es] M Q=Q (U6 ds es) (fun M'=>u4 M' (.vl ds) ds∧u4 M' (.vl es) es) M:=propext ⟨fun zz=>by obtain ⟨_,_,_,_,h,h2,h3,r⟩:=zz; cases h; rw [m5] at h2 h3; subst h2; subst h3; exact r,fun r=>⟨_,_,_,_,rfl,.inr (.inr rfl),.inr (.inr rfl),r⟩⟩
theorem a7R {ds es:List D}:b2p [.tup ds,.vl es] M Q=Q (U6 ds es) (fun M'=>u4 M' (.tup ds) ds∧u4 M' (.vl es) es) M:=propext ⟨fun zz=>by obtain ⟨_,_,_,_,h,h2,h3,r⟩:=zz; cases h; rw [A1] at h2; rw [m5] at h3; subst h2; subst h3; exact r,fun r=>⟨_,_,_,_,rfl,.inl rfl,.inr (.inr rfl),r⟩⟩
theorem a7Q {ds es:List D}:b2p [.vl ds,.tup es] M Q=Q (U6 ds es) (fun M'=>u4 M' (.vl ds) ds∧u4 M' (.tup es) es) M:=propext ⟨fun zz=>by obtain ⟨_,_,_,_,h,h2,h3,r⟩:=zz; cases h; rw [m5] at h2; rw [A1] at h3; subst h2; subst h3; exact r,fun r=>⟨_,_,_,_,rfl,.inr (.inr rfl),.inl rfl,r⟩⟩
theorem a7O:b1O tr e M Q=tr e M fun xs M1=>b98 xs M1 Q:=rfl
theorem a95 {j:Int}:b98 [.int j] M Q=((-(2 ^ 62)≤j∧j<2 ^ 62)∧Q (N3 0 j.toNat) (fun _=>True) M):=propext ⟨fun zz=>by obtain ⟨_,h,a,b,r⟩:=zz; cases h; exact ⟨⟨a,b⟩,r⟩,fun ⟨⟨a,b⟩,r⟩=>⟨_,rfl,a,b,r⟩⟩
theorem a48:a7d tr e M Q=tr e M fun ds M1=>b2y ds M1 Q:=rfl
theorem a7Z {xs:List D}:b2y [.vl xs] M Q=Q xs.reverse (fun _=>True) M:=propext ⟨fun zz=>by obtain ⟨_,h,r⟩:=zz; cases h; exact r,fun r=>⟨_,rfl,r⟩⟩
end
theorem b5F {ti:DTI} {g:DTG}:b79 ti g t F e M=ti e M fun ds stay M1=>X6 g t F ds stay e M1:=rfl
theorem X6.by {g:DTG} {ds:List D} {stay:Mem→Prop} {M1:Mem} (W:Nat→Ev→Mem→Prop) (w0:W 0 e M1) (st:∀ i e M,i≤ds.length→W i e M→stay M)
  (turn:∀ (i:Nat) (d:D) e M,ds[i]? = some d→W i e M→g d e M fun e2 M2=>t { F with nx:=W (i+1),ct:=W (i+1),bk:=F.nx } e2 M2) (done:∀ e M,W ds.length e M→F.nx e M):X6 g t F ds stay e M1:=⟨W,w0,st,turn,done⟩
theorem X4 {F:a0R} (P:Ev→Mem→Prop) (h1:t { F with nx:=P } e M) (h2:∀ e' M',P e' M'→u F e' M'):b1T t u F e M:=⟨P,h1,h2⟩
theorem b8W {g:DRM}:dLM g ta tr e M R=ta e M fun x M1=>LMK x M1 (tr e M1 fun xs M2=>g x xs M2 R):=rfl
theorem a1g {x0:D} {r:List D}:gIx (.tup (x0 :: r)) (.int 0) M R=R x0 M:=T7 (p7 (n:=0) rfl)
theorem a9U {x0:D} {r:List D}:gIx (.vl (x0 :: r)) (.int 0) M R=R x0 M:=T7 (p7 (n:=0) rfl)
theorem a1f {x0 x1:D} {r:List D}:gIx (.tup (x0 :: x1 :: r)) (.int 1) M R=R x1 M:=T7 (p7 (n:=1) rfl)
theorem a9T {x0 x1:D} {r:List D}:gIx (.vl (x0 :: x1 :: r)) (.int 1) M R=R x1 M:=T7 (p7 (n:=1) rfl)
theorem a6l {x0 x1 x2:D} {r:List D}:gIx (.tup (x0 :: x1 :: x2 :: r)) (.int 2) M R=R x2 M:=T7 (p7 (n:=2) rfl)
theorem a9S {x0 x1 x2:D} {r:List D}:gIx (.vl (x0 :: x1 :: x2 :: r)) (.int 2) M R=R x2 M:=T7 (p7 (n:=2) rfl)
theorem a9Z {x0 x1 x2 x3:D} {r:List D}:gIx (.tup (x0 :: x1 :: x2 :: x3 :: r)) (.int 3) M R=R x3 M:=T7 (p7 (n:=3) rfl)
theorem a9R {x0 x1 x2 x3:D} {r:List D}:gIx (.vl (x0 :: x1 :: x2 :: x3 :: r)) (.int 3) M R=R x3 M:=T7 (p7 (n:=3) rfl)
theorem a9Y {x0 x1 x2 x3 x4:D} {r:List D}:gIx (.tup (x0 :: x1 :: x2 :: x3 :: x4 :: r)) (.int 4) M R=R x4 M:=T7 (p7 (n:=4) rfl)
theorem a9Q {x0 x1 x2 x3 x4:D} {r:List D}:gIx (.vl (x0 :: x1 :: x2 :: x3 :: x4 :: r)) (.int 4) M R=R x4 M:=T7 (p7 (n:=4) rfl)
theorem a9X {x0 x1 x2 x3 x4 x5:D} {r:List D}:gIx (.tup (x0 :: x1 :: x2 :: x3 :: x4 :: x5 :: r)) (.int 5) M R=R x5 M:=T7 (p7 (n:=5) rfl)
theorem a9P {x0 x1 x2 x3 x4 x5:D} {r:List D}:gIx (.vl (x0 :: x1 :: x2 :: x3 :: x4 :: x5 :: r)) (.int 5) M R=R x5 M:=T7 (p7 (n:=5) rfl)
theorem a9W {x0 x1 x2 x3 x4 x5 x6:D} {r:List D}:gIx (.tup (x0 :: x1 :: x2 :: x3 :: x4 :: x5 :: x6 :: r)) (.int 6) M R=R x6 M:=T7 (p7 (n:=6) rfl)
theorem a9O {x0 x1 x2 x3 x4 x5 x6:D} {r:List D}:gIx (.vl (x0 :: x1 :: x2 :: x3 :: x4 :: x5 :: x6 :: r)) (.int 6) M R=R x6 M:=T7 (p7 (n:=6) rfl)
theorem a9V {x0 x1 x2 x3 x4 x5 x6 x7:D} {r:List D}:gIx (.tup (x0 :: x1 :: x2 :: x3 :: x4 :: x5 :: x6 :: x7 :: r)) (.int 7) M R=R x7 M:=T7 (p7 (n:=7) rfl)
theorem a9N {x0 x1 x2 x3 x4 x5 x6 x7:D} {r:List D}:gIx (.vl (x0 :: x1 :: x2 :: x3 :: x4 :: x5 :: x6 :: x7 :: r)) (.int 7) M R=R x7 M:=T7 (p7 (n:=7) rfl)
theorem b5n {A:Prop}:SzK (0) A=A:=B4 (by decide)
theorem b5m {A:Prop}:SzK (0+1) A=A:=B4 (by decide)
theorem b5l {A:Prop}:SzK (0+1+1) A=A:=B4 (by decide)
theorem b5k {A:Prop}:SzK (0+1+1+1) A=A:=B4 (by decide)
theorem b5j {A:Prop}:SzK (0+1+1+1+1) A=A:=B4 (by decide)
theorem b5i {A:Prop}:SzK (0+1+1+1+1+1) A=A:=B4 (by decide)
theorem b5h {A:Prop}:SzK (0+1+1+1+1+1+1) A=A:=B4 (by decide)
theorem b5g {A:Prop}:SzK (0+1+1+1+1+1+1+1) A=A:=B4 (by decide)
theorem b5f {A:Prop}:SzK (0+1+1+1+1+1+1+1+1) A=A:=B4 (by decide)
theorem b5e {A:Prop}:SzK (0+1+1+1+1+1+1+1+1+1) A=A:=B4 (by decide)
theorem b3l {i:Int}:cl 60 (.int i)=true:=rfl
theorem b3f:cl 60 .non=true:=rfl
theorem b2V {ds:List D}:cl 60 (.tup ds)=clL 59 ds:=rfl
theorem b2P {ds:List D}:cl 60 (.vl ds)=clL 59 ds:=rfl
theorem b2D:clL 59 []=true:=rfl
theorem b2J {d:D} {r:List D}:clL 59 (d :: r)=(cl 59 d && clL 59 r):=rfl
theorem b3m {i:Int}:cl 59 (.int i)=true:=rfl
theorem b3g:cl 59 .non=true:=rfl
theorem b2W {ds:List D}:cl 59 (.tup ds)=clL 58 ds:=rfl
theorem b2Q {ds:List D}:cl 59 (.vl ds)=clL 58 ds:=rfl
theorem b2E:clL 58 []=true:=rfl
theorem b2K {d:D} {r:List D}:clL 58 (d :: r)=(cl 58 d && clL 58 r):=rfl
theorem b3n {i:Int}:cl 58 (.int i)=true:=rfl
theorem b3h:cl 58 .non=true:=rfl
theorem b2X {ds:List D}:cl 58 (.tup ds)=clL 57 ds:=rfl
theorem b2R {ds:List D}:cl 58 (.vl ds)=clL 57 ds:=rfl
theorem b2F:clL 57 []=true:=rfl
theorem b2L {d:D} {r:List D}:clL 57 (d :: r)=(cl 57 d && clL 57 r):=rfl
theorem b3o {i:Int}:cl 57 (.int i)=true:=rfl
theorem b3i:cl 57 .non=true:=rfl
theorem b2Y {ds:List D}:cl 57 (.tup ds)=clL 56 ds:=rfl
theorem b2S {ds:List D}:cl 57 (.vl ds)=clL 56 ds:=rfl
theorem b2G:clL 56 []=true:=rfl
theorem b2M {d:D} {r:List D}:clL 56 (d :: r)=(cl 56 d && clL 56 r):=rfl
theorem b3p {i:Int}:cl 56 (.int i)=true:=rfl
theorem b3j:cl 56 .non=true:=rfl
theorem b2Z {ds:List D}:cl 56 (.tup ds)=clL 55 ds:=rfl
theorem b2T {ds:List D}:cl 56 (.vl ds)=clL 55 ds:=rfl
theorem b2H:clL 55 []=true:=rfl
theorem b2N {d:D} {r:List D}:clL 55 (d :: r)=(cl 55 d && clL 55 r):=rfl
theorem b3q {i:Int}:cl 55 (.int i)=true:=rfl
theorem b3k:cl 55 .non=true:=rfl
theorem b3a {ds:List D}:cl 55 (.tup ds)=clL 54 ds:=rfl
theorem b2U {ds:List D}:cl 55 (.vl ds)=clL 54 ds:=rfl
theorem b2I:clL 54 []=true:=rfl
theorem b2O {d:D} {r:List D}:clL 54 (d :: r)=(cl 54 d && clL 54 r):=rfl
theorem b0b {xs:List D}:a9m [.vl xs] M R=R (.int (xs.length:Int)) M:=a49 rfl
theorem b0c {xs:List D}:a9m [.tup xs] M R=R (.int (xs.length:Int)) M:=a49 rfl
theorem b6m {A:Prop}:SzK 1 A=A:=B4 (by decide)
theorem b6l {A:Prop}:SzK 2 A=A:=B4 (by decide)
theorem b6k {A:Prop}:SzK 3 A=A:=B4 (by decide)
theorem b6j {A:Prop}:SzK 4 A=A:=B4 (by decide)
theorem b6i {A:Prop}:SzK 5 A=A:=B4 (by decide)
theorem b6h {A:Prop}:SzK 6 A=A:=B4 (by decide)
theorem b6g {A:Prop}:SzK 7 A=A:=B4 (by decide)
theorem b6f {A:Prop}:SzK 8 A=A:=B4 (by decide)
theorem b6e {A:Prop}:SzK 9 A=A:=B4 (by decide)
theorem b2C {A:Prop}:SzK 10 A=A:=B4 (by decide)
theorem b2B {A:Prop}:SzK 11 A=A:=B4 (by decide)
theorem b2A {A:Prop}:SzK 12 A=A:=B4 (by decide)
theorem a0B:z9 [.dic,.ty "tuple"] M R=R (.bl false) M:=p4 rfl rfl
theorem a1r:z9 [.dic,.ty "list"] M R=R (.bl false) M:=p4 rfl rfl
theorem a3b:z9 [.dic,.ty "int"] M R=R (.bl false) M:=p4 rfl rfl
theorem a1s:z9 [.dic,.ty "bool"] M R=R (.bl false) M:=p4 rfl rfl
theorem a3a:z9 [.dic,.ty "str"] M R=R (.bl false) M:=p4 rfl rfl
theorem a0x {ds:List D}:z9 [.tup ds,.ty "tuple"] M R=R (.bl true) M:=p4 rfl rfl
theorem a1j {ds:List D}:z9 [.tup ds,.ty "list"] M R=R (.bl false) M:=p4 rfl rfl
theorem a23 {ds:List D}:z9 [.tup ds,.ty "int"] M R=R (.bl false) M:=p4 rfl rfl
theorem a1k {ds:List D}:z9 [.tup ds,.ty "bool"] M R=R (.bl false) M:=p4 rfl rfl
theorem a22 {ds:List D}:z9 [.tup ds,.ty "str"] M R=R (.bl false) M:=p4 rfl rfl
theorem a0w {ds:List D}:z9 [.vl ds,.ty "tuple"] M R=R (.bl false) M:=p4 rfl rfl
theorem a1h {ds:List D}:z9 [.vl ds,.ty "list"] M R=R (.bl true) M:=p4 rfl rfl
theorem a21 {ds:List D}:z9 [.vl ds,.ty "int"] M R=R (.bl false) M:=p4 rfl rfl
theorem a1i {ds:List D}:z9 [.vl ds,.ty "bool"] M R=R (.bl false) M:=p4 rfl rfl
theorem a20 {ds:List D}:z9 [.vl ds,.ty "str"] M R=R (.bl false) M:=p4 rfl rfl
theorem a0A {i:Int}:z9 [.int i,.ty "tuple"] M R=R (.bl false) M:=p4 rfl rfl
theorem a1p {i:Int}:z9 [.int i,.ty "list"] M R=R (.bl false) M:=p4 rfl rfl
theorem a29 {i:Int}:z9 [.int i,.ty "int"] M R=R (.bl true) M:=p4 rfl rfl
theorem a1q {i:Int}:z9 [.int i,.ty "bool"] M R=R (.bl false) M:=p4 rfl rfl
theorem a28 {i:Int}:z9 [.int i,.ty "str"] M R=R (.bl false) M:=p4 rfl rfl
theorem a0z:z9 [.non,.ty "tuple"] M R=R (.bl false) M:=p4 rfl rfl
theorem a1n:z9 [.non,.ty "list"] M R=R (.bl false) M:=p4 rfl rfl
theorem a27:z9 [.non,.ty "int"] M R=R (.bl false) M:=p4 rfl rfl
theorem a1o:z9 [.non,.ty "bool"] M R=R (.bl false) M:=p4 rfl rfl
theorem a26:z9 [.non,.ty "str"] M R=R (.bl false) M:=p4 rfl rfl
theorem a0y {x:Str}:z9 [.str x,.ty "tuple"] M R=R (.bl false) M:=p4 rfl rfl
theorem a1l {x:Str}:z9 [.str x,.ty "list"] M R=R (.bl false) M:=p4 rfl rfl
theorem a25 {x:Str}:z9 [.str x,.ty "int"] M R=R (.bl false) M:=p4 rfl rfl
theorem a1m {x:Str}:z9 [.str x,.ty "bool"] M R=R (.bl false) M:=p4 rfl rfl
theorem a24 {x:Str}:z9 [.str x,.ty "str"] M R=R (.bl true) M:=p4 rfl rfl
theorem a0C {b:Bool}:z9 [.bl b,.ty "tuple"] M R=R (.bl false) M:=p4 rfl rfl
theorem a1t {b:Bool}:z9 [.bl b,.ty "list"] M R=R (.bl false) M:=p4 rfl rfl
theorem a3d {b:Bool}:z9 [.bl b,.ty "int"] M R=R (.bl true) M:=p4 rfl rfl
theorem a1u {b:Bool}:z9 [.bl b,.ty "bool"] M R=R (.bl true) M:=p4 rfl rfl
theorem a3c {b:Bool}:z9 [.bl b,.ty "str"] M R=R (.bl false) M:=p4 rfl rfl
theorem b5G:b8a ta e M R=ta e M fun x M1=>c0d x M1 R:=rfl
theorem R4 {l:Addr} {ds:List D} {A:Prop} (h:M l=some (.lst ds)) (a:A):LMK (.ref l) M A:=⟨⟨l,ds,rfl,h⟩,a⟩
theorem a0t {l:Addr} {ds:List D} {v:D} (h:M l=some (.lst ds)) (hz:ds.length<1000) (r:R .non (v8 M l (.lst (ds++[v])))):a8z (.ref l) [v] M R:=⟨l,ds,v,rfl,rfl,h,Nat.lt_of_lt_of_le hz (by decide),r⟩
theorem b8r {l:Addr} {ds:List D} {k:Nat} {v:D} (h:M l=some (.lst ds)) (hk:k≤ds.length) (hz:ds.length<1000) (r:R .non (v8 M l (.lst (ds.take k++v :: ds.drop k)))):a8x (.ref l) [.int (k:Int),v] M R:=⟨l,ds,v,k,rfl,rfl,h,hk,Nat.lt_of_lt_of_le hz (by decide),r⟩
theorem R5 {x:D} {M1 M2:Mem} (h:∀ b o,M2 b=some o→M1 b=some o) (r:R x M2):c0d x M1 R:=⟨M2,h,r⟩
end
end DL
namespace DL
open PySem PySem.Spec L2
open PyProof.Rows hiding St
theorem a0d {p:Str→Prop}:∀ x∈([]:List Str),p x:=fun _ h=>nomatch h
section
variable {e0:Ev} {g:DTG} {te:DTE} {tc:L0} {ds:List D} {stay:Mem→Prop} {M1:Mem} {E:List D→Mem→Prop}
theorem A4 {α:Type} {xs:List α} {enc:α→D} (f:α→D) (hn:xs.length≤1000) (hst:stay M1) (step:∀ x∈xs,∀ Q:DK,Q (f x) M1→g (enc x) e0 M1 fun e2 M2=>te e2 M2 Q) (h:E (xs.map f) M1):∃ W,a2f e0 g a7i te (xs.map enc) stay M1 E W:=by
 refine ⟨fun i ys M=>M=M1∧ys=(xs.take i).map f,⟨⟨rfl,rfl⟩,fun i ys M _ w=>by rw [w.1]; exact hst,fun i d ys M hd w=>?_,fun ys M w=>?_⟩⟩
 ·obtain ⟨rfl,rfl⟩:=w
  rw [List.getElem?_map] at hd
  cases hx:xs[i]? with
  | none=>rw [hx] at hd; cases hd
  | some x =>
   rw [hx] at hd
   obtain rfl:enc x=d:=by simpa using hd
   refine step x (List.mem_of_getElem? hx) _ ⟨?_,rfl,?_⟩
   ·rw [List.length_map,List.length_take]
    exact Nat.lt_of_le_of_lt (Nat.le_trans (Nat.min_le_right _ _) hn) (by decide)
   ·obtain ⟨hl,he⟩:=List.getElem?_eq_some_iff.mp hx
    rw [List.take_succ_eq_append_getElem hl,List.map_append,he]; rfl
 ·obtain ⟨rfl,rfl⟩:=w
  rw [List.length_map,List.take_length]; exact h
theorem O0 {α:Type} {xs:List α} {enc:α→D} (p:α→Bool) (f:α→D) (hn:xs.length≤1000) (hst:stay M1)
  (step:∀ x∈xs,∀ (Q:DK) (N:Prop),(p x=true→Q (f x) M1)→(p x=false→N)→g (enc x) e0 M1 fun e2 M2=>tc e2 M2 fun b M3=>IfK b (te e2 M3 Q) (M3=M1∧N)) (h:E ((xs.filter p).map f) M1):∃ W,a2f e0 g tc te (xs.map enc) stay M1 E W:=by
 refine ⟨fun i ys M=>M=M1∧ys=((xs.take i).filter p).map f,⟨⟨rfl,rfl⟩,fun i ys M _ w=>by rw [w.1]; exact hst,fun i d ys M hd w=>?_,fun ys M w=>?_⟩⟩
 ·obtain ⟨rfl,rfl⟩:=w
  rw [List.getElem?_map] at hd
  cases hx:xs[i]? with
  | none=>rw [hx] at hd; cases hd
  | some x =>
   rw [hx] at hd
   obtain rfl:enc x=d:=by simpa using hd
   obtain ⟨hl,he⟩:=List.getElem?_eq_some_iff.mp hx
   have hle:(((xs.take i).filter p).map f).length<sizeLine:=by
    rw [List.length_map]
    have h1:=List.length_filter_le p (xs.take i)
    rw [List.length_take] at h1
    exact Nat.lt_of_le_of_lt (Nat.le_trans h1 (Nat.le_trans (Nat.min_le_right _ _) hn)) (by decide)
   have hs:=step x (List.mem_of_getElem? hx) (fun v M4=>(((xs.take i).filter p).map f).length<sizeLine∧M4=M∧((xs.take i).filter p).map f++[v]=((xs.take (i+1)).filter p).map f) (((xs.take i).filter p).map f=((xs.take (i+1)).filter p).map f)
    (fun hp=>⟨hle,rfl,by rw [List.take_succ_eq_append_getElem hl,List.filter_append,List.map_append,he]; simp [hp]⟩)
    (fun hp=>by rw [List.take_succ_eq_append_getElem hl,List.filter_append,List.map_append,he]; simp [hp])
   exact hs
 ·obtain ⟨rfl,rfl⟩:=w
  rw [List.length_map,List.take_length]; exact h
end
section
variable {X:Cx} {pos:Pos}
theorem jc {x:Str} {j k:Nat} {ps:List Str} {sp:DSp} {p:Pos} {e:Expr} {es:List Expr} {t:DTA} (G:Fn X.prog X.w X.K X.mg X.base x j ps sp) (hr:D6 k X.A) (ha:JA X (e :: es) t) (hk:j≤k:=by decide) (hg:Gl X x:=by rfl)
  (hdb:(x == ("__debug__" : Str))=false:=by decide) (he:starEach (e :: es) X.env=(false,eval e X.env) :: starEach es X.env:=by rfl) (hpl:(backTo pos (starEach es X.env)).any (·.1)=false:=by rfl):JE X (.Call (.Name x p) (e :: es) [] pos) (a50 sp [] Y0 t):=b1q G (hr.mono hk) hg ha hdb he hpl
theorem jx {a b:Expr} {ta tb:DTE} (ha:JE X a ta) (hb:JE X b tb) (hs:a07 b:=by exact fun _ _=>rfl):JE X (.Subscript a b pos) (dOp gIx ta tb):=b9w b9z ha hb hs
theorem jst (i:Nat) {x:Str} {e:Expr} {tx:DTE} {q:Pos} (hN:X.N.Nodup) (he:JE X e tx) (hi:X.N[i]? = some x:=by rfl) (hx:Loc X.env.scope x:=by first | exact .inl rfl | exact .inr rfl) (hs:swapsWith e (some (.Name x q)) pos.line X.env=pure false:=by rfl)
  (hf:X.fn x=true∨X.env.scope.names.lookup x=some .local:=by first | exact .inl rfl | exact .inr rfl | assumption):JS X (.Assign [.Name x q] e pos) (a2F tx (B8 i)):=b4q hN hi hx he hs hf
theorem jn (i:Nat) {x:Str} (hN:X.N.Nodup) (hi:X.N[i]? = some x:=by rfl) (hx:Loc X.env.scope x:=by first | exact .inl rfl | exact .inr rfl) (hf:X.fn x=true∨X.env.scope.names.lookup x=some .local:=by first | exact .inl rfl | exact .inr rfl | assumption):JG X (.Name x pos) (B8 i):=b1m hN hi hx hf
theorem jm {op:CmpOp} {g:DR2} {a b:Expr} {ta tb:DTE} (ho:DOp X (compareOp op) g) (ha:JE X a ta) (hb:JE X b tb) (hm:behindInMarks op b=false:=by first | exact b1b _ | with_unfolding_all rfl):JE X (.Compare a [op] [b] pos) (dOp g ta tb):=b7q ho ha hb hm
theorem jtm {op:CmpOp} {g:DR2} {a b:Expr} {ta tb:DTE} (ho:DOp X (compareOp op) g) (ha:JE X a ta) (hb:JE X b tb) (hm:behindInMarks op b=false:=by first | exact b1b _ | with_unfolding_all rfl):JT X (.Compare a [op] [b] pos) (a0N (dOp g ta tb)):=b4t ho ha hb hm
end
end DL
namespace GM
open PySem PySem.Spec L2 DL
open PyProof.Rows hiding St
def d7 (q:Rat):D:=.tup [.int q.num,.int (q.den:Int)]
theorem C2 {q r:Rat} (h:d7 q=d7 r):q=r:=by
 unfold d7 at h
 injection h with h
 injection h with h1 h2
 injection h1 with h1
 injection h2 with h2 _
 injection h2 with h2
 exact Rat.ext h1 (by omega)
theorem j3 {q r:Rat}:d7 q=d7 r↔q=r:=⟨C2,fun h=>by rw [h]⟩
structure u6 (M:Mem) (p:Addr):Prop where
 ex:∃ x y z:Int,M p=some (.lst [.int x,.int y,.int z])
def MK (M M':Mem):Prop:=∀ b o,M b=some o→M' b=some o
theorem MK.refl (M:Mem):MK M M:=fun _ _ h=>h
theorem MK.trans {M M1 M2:Mem} (a:MK M M1) (b:MK M1 M2):MK M M2:=fun c o h=>b c o (a c o h)
theorem MK.new {M:Mem} {p:Addr} {o:MO} (h:M p=none):MK M (v8 M p o):=fun b u e=>by
 have:b≠p:=by intro z; subst z; rw [h] at e; cases e
 rw [B7 this]; exact e
theorem MK.pool {M M':Mem} (k:MK M M') {p:Addr} (h:u6 M p):u6 M' p:=let ⟨x,y,z,e⟩:=h.ex; ⟨x,y,z,k _ _ e⟩
structure o7 (p:Addr) (M M':Mem):Prop where
 keep:∀ b o,b≠p→M b=some o→M' b=some o
 pool:u6 M' p
theorem o7.refl {p:Addr} {M:Mem} (h:u6 M p):o7 p M M:=⟨fun _ _ _ h=>h,h⟩
theorem o7.trans {p:Addr} {M M1 M2:Mem} (a:o7 p M M1) (b:o7 p M1 M2):o7 p M M2:=⟨fun c o n h=>b.keep c o n (a.keep c o n h),b.pool⟩
theorem o7.upd {p:Addr} {M:Mem} (x y z:Int):o7 p M (v8 M p (.lst [.int x,.int y,.int z])):=⟨fun b o n h=>by rw [B7 n]; exact h,⟨x,y,z,i8⟩⟩
theorem u6.ne {M:Mem} {p l:Addr} (h:u6 M p) (hl:M l=none):l≠p:=by
 intro e; subst e; obtain ⟨x,y,z,q⟩:=h.ex; rw [hl] at q; cases q
def a6x:DSp:=fun ds M R _=>∃ c:Int,ds=[.int c]∧∀ p M',M p=none→MK M M'→u6 M' p→R (.ref p) M'
def L4:DSp:=fun ds M R _=>∃ (p:Addr) (b:Int),ds=[.ref p,.int b]∧u6 M p∧0<b∧b.natAbs.log2<9000∧∀ (r:Int) M',0≤r→r<b→o7 p M M'→R (.int r) M'
def T9:DSp:=fun ds M R _=>∃ a b:Int,ds=[.int a,.int b]∧b≠0∧b.natAbs.log2<9000∧R (d7 (Rat.divInt a b)) M
def a0D:DSp:=fun ds M R _=>∃ n:Nat,ds=[.int n]∧n.log2<4000∧∀ s:Nat,s*s≤n→n<(s+1)*(s+1)→R (.int s) M
def b2s (q:Rat) (v:D):Prop:=(∃ r:Rat,0≤r∧r*r=q∧v=d7 r)∨((∀ r:Rat,r*r≠q)∧v = .non)
def a6w:DSp:=fun ds M R _=>∃ q:Rat,ds=[d7 q]∧RM.sz q≤4000∧∀ v,b2s q v→R v M
theorem b8c:a9A 10 18:=⟨by decide,by decide,by decide⟩
theorem a5O {a b:Int} (h1:-(2 ^ 64)<a) (h2:a<2 ^ 64):IntMulOk a b:=.of_left (intBits_le_64 h1 h2)
theorem b9u {a b:Int} (h1:-(2 ^ 64)<b) (h2:b<2 ^ 64):IntMulOk a b:=.of_right (intBits_le_64 h1 h2)
theorem c0A {x m k b:Int} (hm:0<m) (hm2:m<2 ^ 60) (hk:0≤k) (hk2:k<2 ^ 60):IntMulOk (x % m+k) b:=by
 have h1:=Int.emod_nonneg x (show m≠0 by omega)
 have h2:=Int.emod_lt_of_pos x hm
 exact a5O (by omega) (by omega)
theorem b9t {x m b:Int} (hm:0<m) (hm2:m<2 ^ 60):IntMulOk (x % m) b:=by
 have h1:=Int.emod_nonneg x (show m≠0 by omega)
 have h2:=Int.emod_lt_of_pos x hm
 exact a5O (by omega) (by omega)
theorem c0S {i:Int}:CFd i 8:=⟨by decide,by decide⟩
theorem b8d {i:Int}:CFd i 2:=⟨by decide,by decide⟩
theorem I0 {a b:Int} (ha:0≤a) (hb:0≤b):a.fdiv b=a / b:=Int.fdiv_eq_ediv_of_nonneg a hb
theorem b4A {a b:Int} (hb:b≠0) (h:b.natAbs.log2<9000):((Nat.gcd a.natAbs b.natAbs:Nat):Int).natAbs.log2<9000:=by
 have hp:0<b.natAbs:=Int.natAbs_pos.mpr hb
 have hle:Nat.gcd a.natAbs b.natAbs≤b.natAbs:=Nat.gcd_le_right _ hp
 have h1:b.natAbs<2 ^ 9000:=(Nat.log2_lt (by omega)).mp h
 rw [Int.natAbs_natCast]
 exact F8 (Nat.lt_of_le_of_lt hle h1) (by decide)
theorem b7v {a b:Int} (hb:b≠0):((Nat.gcd a.natAbs b.natAbs:Nat):Int)≠0:=by
 have hp:0<b.natAbs:=Int.natAbs_pos.mpr hb
 have:=Nat.gcd_pos_of_pos_right a.natAbs hp
 omega
theorem a8i {a b s:Int} (hb:b≠0) (hs:s=if b<0 then -((Nat.gcd a.natAbs b.natAbs:Nat):Int) else ((Nat.gcd a.natAbs b.natAbs:Nat):Int)) {M:Mem} {R:DK} (k:R (d7 (Rat.divInt a b)) M) :
  R (.tup [.int (a.fdiv s),.int (b.fdiv s)]) M:=by
 obtain ⟨h1,h2⟩:=RM.b7i a b hb s hs
 rw [h1,h2]; exact k
theorem b7h {a b:Int} {n:Nat} (hn:0<n) (h1:a.natAbs<2 ^ n) (h2:b.natAbs<2 ^ n) (hb:b≠0):RM.sz (Rat.divInt a b)≤n :=
 Nat.le_trans (RM.F3 a b hb) (Nat.max_le.mpr ⟨RM.R0 h1 hn,RM.R0 h2 hn⟩)
end GM
namespace GM
open PySem PySem.Spec L2 DL
open PyProof.Rows hiding St
theorem b7g {n g:Nat} (hg:0<g):n<((g+n / g) / 2+1)*((g+n / g) / 2+1):=by
 have h1:n<g*(n / g+1):=by
  have:=Nat.lt_mul_div_succ n hg
  exact this
 have h2:g+(n / g+1)≤2*((g+n / g) / 2+1):=by omega
 generalize (g+n / g) / 2+1=b at h2 ⊢
 generalize n / g+1=y at h1 h2
 have h3:(g+y)*(g+y)≤(2*b)*(2*b):=Nat.mul_le_mul h2 h2
 have h4:4*(g*y)≤(g+y)*(g+y):=by
  rcases Nat.le_total g y with h | h
  ·obtain ⟨k,rfl⟩:=Nat.le.dest h
   have:(g+(g+k))*(g+(g+k))=4*(g*(g+k))+k*k:=by grind
   omega
  ·obtain ⟨k,rfl⟩:=Nat.le.dest h
   have:(y+k+y)*(y+k+y)=4*((y+k)*y)+k*k:=by grind
   omega
 have h5:(2*b)*(2*b)=4*(b*b):=by grind
 omega
theorem a60 {n g:Nat} (hg:0<g) (h:¬ (g+n / g) / 2<g):g*g≤n:=by
 have h1:g≤n / g:=by omega
 exact Nat.le_trans (Nat.mul_le_mul_left g h1) (Nat.mul_div_le n g)
theorem a3i {n s t:Nat} (h1:s*s≤n) (h2:n<(s+1)*(s+1)) (h3:t*t=n):t=s:=by
 rcases Nat.lt_trichotomy t s with h | h | h
 ·have:(t+1)*(t+1)≤s*s:=Nat.mul_le_mul h h
  have e:(t+1)*(t+1)=t*t+2*t+1:=by grind
  omega
 ·exact h
 ·have:(s+1)*(s+1)≤t*t:=Nat.mul_le_mul h h
  omega
theorem a1z (r:Rat):(r*r).num=r.num*r.num∧(r*r).den=r.den*r.den:=by
 rw [Rat.mul_def]
 have hc:(r.num*r.num).natAbs.gcd (r.den*r.den)=1:=by
  rw [Int.natAbs_mul]
  exact Nat.Coprime.mul_left (Nat.Coprime.mul_right r.reduced r.reduced) (Nat.Coprime.mul_right r.reduced r.reduced)
 rw [Rat.normalize_eq]
 simp [hc]
theorem a86 {q:Rat} {s t:Nat} (h1:((s:Int))*(s:Int)=q.num) (h2:t*t=q.den):∃ r:Rat,0≤r∧r*r=q∧r.num=(s:Int)∧r.den=t:=by
 have ht:t≠0:=by
  intro e; subst e; have:=q.den_nz; omega
 have hcop:Nat.Coprime s t:=by
  have hq:=q.reduced
  have e1:q.num.natAbs=s*s:=by rw [← h1,Int.natAbs_mul,Int.natAbs_natCast]
  rw [e1,← h2] at hq
  have a1:Nat.Coprime s (t*t):=Nat.Coprime.coprime_mul_left hq
  exact Nat.Coprime.coprime_mul_left_right a1
 refine ⟨⟨(s:Int),t,ht,by simpa using hcop⟩,?_,?_,rfl,rfl⟩
 ·rw [Rat.le_iff]; simp
 ·have:=a1z ⟨(s:Int),t,ht,by simpa using hcop⟩
  exact Rat.ext (by rw [this.1]; exact h1) (by rw [this.2]; exact h2)
theorem a1K {q r:Rat} (h:r*r=q):(∃ s:Nat,s*s=q.num.natAbs)∧(∃ t:Nat,t*t=q.den)∧0≤q.num:=by
 have:=a1z r
 rw [h] at this
 refine ⟨⟨r.num.natAbs,by rw [this.1,Int.natAbs_mul]⟩,⟨r.den,this.2.symm⟩,?_⟩
 rw [this.1]
 have:=Int.natAbs_mul_self (a:=r.num)
 rw [← this]; exact Int.natCast_nonneg _
theorem b6u {q:Rat} {n:Nat} (h:RM.sz q≤n):q.num.natAbs.log2<n∧q.den.log2<n:=by
 have h1:=RM.F5 q
 have h2:=RM.A8 q
 unfold RM.bl at h1 h2
 omega
theorem S5 {n k:Nat} (h:n.log2<k):n<2 ^ k:=by
 rcases Nat.eq_zero_or_pos n with h0 | h0
 ·subst h0; exact Nat.two_pow_pos k
 ·exact (Nat.log2_lt (by omega)).mp h
end GM
namespace GM
open PySem PySem.Spec L2 DL
open PyProof.Rows hiding St
def a3H:DSp:=fun ds M R _=>∃ n:Int,ds=[.int n]∧R (.bl true) M
end GM
namespace GM
open PySem PySem.Spec L2 DL
structure Sml (g:Nat):Prop where
 log:g.log2<9000
theorem Sml.mono {a b:Nat} (h:Sml b) (l:a≤b):Sml a:=⟨F8 (Nat.lt_of_le_of_lt l (S5 h.log)) (by decide)⟩
theorem Sml.pow {k:Nat} (h:k<9000):Sml (2 ^ k):=⟨F8 (Nat.pow_lt_pow_right (by decide) h) (by decide)⟩
end GM
namespace GM
open PySem PySem.Spec L2 DL
end GM
namespace GM
open PySem PySem.Spec L2 DL
def a74:DSp:=fun ds _ R _=>∃ ns:List Int,ds=[.vl (ns.map D.int)]∧ns.length≤63∧∀ M',R (.bl true) M'
end GM
namespace GM
open PySem PySem.Spec L2 DL
open RM (sz)
def R7:DSp:=fun ds M R _=>∃ a b:Nat,ds=[.int (a:Int),.int (b:Int)]∧R (.int ((Nat.gcd a b:Nat):Int)) M
def a3j:DSp:=fun ds M R _=>∃ q:Rat,ds=[d7 q]∧R (d7 (-q)) M
def P4:DSp:=fun ds M R _=>∃ q r:Rat,ds=[d7 q,d7 r]∧sz q+sz r≤8900∧R (d7 (q+r)) M
def E7:DSp:=fun ds M R _=>∃ q r:Rat,ds=[d7 q,d7 r]∧sz q+sz r≤8900∧R (d7 (q - r)) M
def G8:DSp:=fun ds M R _=>∃ q r:Rat,ds=[d7 q,d7 r]∧sz q+sz r≤8900∧R (d7 (q*r)) M
def a0e:DSp:=fun ds M R _=>∃ q r:Rat,ds=[d7 q,d7 r]∧r≠0∧sz q+sz r≤8900∧R (d7 (q / r)) M
def a0f:DSp:=fun ds M R _=>∃ q r:Rat,ds=[d7 q,d7 r]∧sz q+sz r≤8900∧R (.bl (decide (q<r))) M
theorem Q6 (q:Rat):q.num.natAbs<2 ^ sz q:=Nat.lt_of_lt_of_le (RM.Z0 _) (Nat.pow_le_pow_right (by decide) (RM.F5 q))
theorem X0 (q:Rat):((q.den:Int)).natAbs<2 ^ sz q:=by rw [Int.natAbs_natCast]; exact Nat.lt_of_lt_of_le (RM.Z0 _) (Nat.pow_le_pow_right (by decide) (RM.A8 q))
theorem mNN {q r:Rat} (h:sz q+sz r≤8900):IntMulOk q.num r.num:=A2 _ _ (Q6 q) (Q6 r) (by omega)
theorem mND {q r:Rat} (h:sz q+sz r≤8900):IntMulOk q.num (r.den:Int):=A2 _ _ (Q6 q) (X0 r) (by omega)
theorem mDD {q r:Rat} (h:sz q+sz r≤8900):IntMulOk (q.den:Int) (r.den:Int):=A2 _ _ (X0 q) (X0 r) (by omega)
theorem mDN {q r:Rat} (h:sz q+sz r≤8900):IntMulOk (q.den:Int) r.num:=A2 _ _ (X0 q) (Q6 r) (by omega)
theorem lDD {q r:Rat} (h:sz q+sz r≤8900):((q.den:Int)*(r.den:Int)).natAbs.log2<9000:=by
 have h1:=RM.O2 q.den r.den
 have h2:=RM.A8 q
 have h3:=RM.A8 r
 rw [Int.natAbs_mul,Int.natAbs_natCast,Int.natAbs_natCast]
 unfold RM.bl at *
 omega
theorem lDN {q r:Rat} (h:sz q+sz r≤8900):((q.den:Int)*r.num).natAbs.log2<9000:=by
 have h1:=RM.O2 q.den r.num.natAbs
 have h2:=RM.A8 q
 have h3:=RM.F5 r
 rw [Int.natAbs_mul,Int.natAbs_natCast]
 unfold RM.bl at *
 omega
theorem b7e {r:Rat} (h:r≠0):r.num≠0:=fun z=>h (Rat.num_eq_zero.mp z)
def f7 (q:Rat):Rat:=if 0≤q then q else -q
theorem a4G (q:Rat):0≤f7 q:=by
 unfold f7; split
 ·assumption
 ·grind
theorem a4F (q:Rat):f7 q*f7 q=q*q:=by
 unfold f7; split
 ·rfl
 ·grind
theorem b8l (q:Rat):d7 (f7 q) = .tup [.int (q.num.natAbs:Int),.int (q.den:Int)]:=by
 unfold f7 d7
 have hz:0≤q↔0≤q.num:=Rat.num_nonneg.symm
 split
 ·rename_i h
  have:=hz.mp h
  rw [show q.num=(q.num.natAbs:Int) by omega]; simp
 ·rename_i h
  have h':¬ 0≤q.num:=fun z=>h (hz.mpr z)
  rw [Rat.neg_num,Rat.neg_den,show -q.num=(q.num.natAbs:Int) by omega]
end GM
namespace GM
open RM (sz)
theorem a55 {a:Rat} {A:Int} {D S:Nat} (hS:0<S) (hD:D≠0) (hd:D<2 ^ S) (h:a*(D:Rat)=(A:Rat)) (hA:A.natAbs<2 ^ S):sz a≤S:=by
 have hD':(D:Rat)≠0:=by
  intro z; exact hD (by exact_mod_cast z)
 have e:a=Rat.divInt A (D:Int):=by
  rw [Rat.divInt_eq_div]
  have:a=(A:Rat) / (D:Rat):=by grind
  rw [this]; rfl
 rw [e]
 exact Nat.le_trans (RM.F3 A D (by omega)) (Nat.max_le.mpr ⟨RM.R0 hA hS,RM.R0 (by rw [Int.natAbs_natCast]; exact hd) hS⟩)
structure CD (S:Nat) (a b c d:Rat):Prop where
 ex:∃ (A B C E:Int) (D:Nat),D≠0∧D<2 ^ S∧(A.natAbs<2 ^ S∧B.natAbs<2 ^ S∧C.natAbs<2 ^ S∧E.natAbs<2 ^ S)∧a*(D:Rat)=(A:Rat)∧b*(D:Rat)=(B:Rat)∧c*(D:Rat)=(C:Rat)∧d*(D:Rat)=(E:Rat)
theorem u8 (q:Rat) {k:Nat} (h:sz q≤k):q.num.natAbs<2 ^ k:=Nat.lt_of_lt_of_le (RM.Z0 _) (Nat.pow_le_pow_right (by decide) (Nat.le_trans (RM.F5 q) h))
theorem u0 (q:Rat) {k:Nat} (h:sz q≤k):q.den<2 ^ k:=Nat.lt_of_lt_of_le (RM.Z0 _) (Nat.pow_le_pow_right (by decide) (Nat.le_trans (RM.A8 q) h))
theorem v7 (q:Rat):q*(q.den:Rat)=(q.num:Rat):=by
 have h:(q.den:Rat)≠0:=by
  intro z; exact q.den_nz (by exact_mod_cast z)
 have e:=Rat.num_divInt_den q
 rw [Rat.divInt_eq_div,Rat.intCast_natCast] at e
 grind
theorem m6 {a b m n:Nat} (h1:a<2 ^ m) (h2:b<2 ^ n):a*b<2 ^ (m+n):=by
 rw [Nat.pow_add]; exact Nat.mul_lt_mul'' h1 h2
theorem e7 {a b:Int} {m n:Nat} (h1:a.natAbs<2 ^ m) (h2:b.natAbs<2 ^ n):(a*b).natAbs<2 ^ (m+n):=by
 rw [Int.natAbs_mul]; exact m6 h1 h2
theorem y9 {a b:Int} {m:Nat} (h1:a.natAbs<2 ^ m) (h2:b.natAbs<2 ^ m):(a+b).natAbs<2 ^ (m+1):=by
 have:=Int.natAbs_add_le a b
 rw [Nat.pow_succ]; omega
theorem U2 {a m n:Nat} (h:a<2 ^ m) (hn:m≤n):a<2 ^ n:=Nat.lt_of_lt_of_le h (Nat.pow_le_pow_right (by decide) hn)
theorem CD.one:CD 1 1 0 0 1:=⟨1,0,0,1,1,by decide,by decide,⟨by decide,by decide,by decide,by decide⟩,by grind,by grind,by grind,by grind⟩
theorem CD.neg {S:Nat} {a b c d:Rat} (h:CD S a b c d):CD S (-a) (-b) (-c) (-d):=by
 obtain ⟨A,B,C,E,D,h0,hd,⟨h1,h2,h3,h4⟩,e1,e2,e3,e4⟩:=h.ex
 refine ⟨-A,-B,-C,-E,D,h0,hd,⟨by rw [Int.natAbs_neg]; exact h1,by rw [Int.natAbs_neg]; exact h2,by rw [Int.natAbs_neg]; exact h3,by rw [Int.natAbs_neg]; exact h4⟩,?_,?_,?_,?_⟩ <;> (rw [Rat.intCast_neg]; grind)
theorem CD.swap {S:Nat} {a b c d:Rat} (h:CD S a b c d):CD S c d a b:=by
 obtain ⟨A,B,C,E,D,h0,hd,⟨h1,h2,h3,h4⟩,e1,e2,e3,e4⟩:=h.ex
 exact ⟨C,E,A,B,D,h0,hd,⟨h3,h4,h1,h2⟩,e3,e4,e1,e2⟩
theorem CD.step {S k:Nat} {a b c d q:Rat} (h:CD S a b c d) (hq:sz q≤k):CD (S+k+1) (a+q*c) (b+q*d) c d:=by
 obtain ⟨A,B,C,E,D,h0,hd,⟨h1,h2,h3,h4⟩,e1,e2,e3,e4⟩:=h.ex
 have hn:=u8 q hq
 have hm:=u0 q hq
 have hm':(q.den:Int).natAbs<2 ^ k:=by rw [Int.natAbs_natCast]; exact hm
 have e:=v7 q
 have z:∀ {X:Int},X.natAbs<2 ^ S→(X*(q.den:Int)).natAbs<2 ^ (S+k):=fun h=>e7 h hm'
 have z2:∀ {X:Int},X.natAbs<2 ^ S→(X*q.num).natAbs<2 ^ (S+k):=fun h=>e7 h hn
 refine ⟨A*(q.den:Int)+C*q.num,B*(q.den:Int)+E*q.num,C*(q.den:Int),E*(q.den:Int),D*q.den,Nat.mul_ne_zero h0 q.den_nz,U2 (m6 hd hm) (by omega),
  ⟨y9 (z h1) (z2 h3),y9 (z h2) (z2 h4),U2 (z h3) (by omega),U2 (z h4) (by omega)⟩,?_,?_,?_,?_⟩
 all_goals (simp only [Rat.natCast_mul,Rat.intCast_add,Rat.intCast_mul,Rat.intCast_natCast]; grind)
theorem CD.scale {S k:Nat} {a b c d q r:Rat} (h:CD S a b c d) (hq:sz q≤k) (hp:0<q.num) (hr:r*q=1):CD (S+2*k) (q*a) (q*b) (r*c) (r*d):=by
 obtain ⟨A,B,C,E,D,h0,hd,⟨h1,h2,h3,h4⟩,e1,e2,e3,e4⟩:=h.ex
 have hn:=u8 q hq
 have hm:=u0 q hq
 have hm':(q.den:Int).natAbs<2 ^ k:=by rw [Int.natAbs_natCast]; exact hm
 have e:=v7 q
 obtain ⟨n,en⟩:∃ n:Nat,q.num=(n:Int):=⟨q.num.toNat,by omega⟩
 rw [en] at hn e hp
 rw [Int.natAbs_natCast] at hn
 rw [Rat.intCast_natCast] at e
 have hn':(n:Int).natAbs<2 ^ k:=by rw [Int.natAbs_natCast]; exact hn
 refine ⟨A*((n:Int)*n),B*((n:Int)*n),C*((q.den:Int)*q.den),E*((q.den:Int)*q.den),D*(n*q.den),Nat.mul_ne_zero h0 (Nat.mul_ne_zero (by omega) q.den_nz),?_,⟨?_,?_,?_,?_⟩,?_,?_,?_,?_⟩
 ·rw [show S+2*k=S+(k+k) by omega]; exact m6 hd (m6 hn hm)
 ·rw [show S+2*k=S+(k+k) by omega]; exact e7 h1 (e7 hn' hn')
 ·rw [show S+2*k=S+(k+k) by omega]; exact e7 h2 (e7 hn' hn')
 ·rw [show S+2*k=S+(k+k) by omega]; exact e7 h3 (e7 hm' hm')
 ·rw [show S+2*k=S+(k+k) by omega]; exact e7 h4 (e7 hm' hm')
 all_goals (simp only [Rat.natCast_mul,Rat.intCast_mul,Rat.intCast_natCast]; grind)
end GM
namespace GM
open PySem PySem.Spec L2 DL
open RM (sz)
abbrev a0S (a b c d:Rat):D:=.tup [d7 a,d7 b,d7 c,d7 d]
abbrev A5 (y u:Rat):D:=.tup [d7 y,d7 u]
structure T4 (S:Nat) (a b c d:Rat):Prop where
 a:sz a≤S
 b:sz b≤S
 c:sz c≤S
 d:sz d≤S
structure T2 (S:Nat) (y u:Rat):Prop where
 y:sz y≤S
 u:sz u≤S
theorem CD.t4 {S:Nat} {a b c d:Rat} (h:CD S a b c d) (hS:0<S:=by omega):T4 S a b c d:=by
 obtain ⟨A,B,C,E,D,h0,hd,⟨h1,h2,h3,h4⟩,e1,e2,e3,e4⟩:=h.ex
 exact ⟨a55 hS h0 hd e1 h1,a55 hS h0 hd e2 h2,a55 hS h0 hd e3 h3,a55 hS h0 hd e4 h4⟩
def a0g:DSp:=fun ds M R _=>∃ a b c d:Rat,ds=[A5 a c,A5 b d]∧R (a0S a b c d) M
theorem b9y {q:Rat} (h:0<q.num):D.tup [.int (q.den:Int),.int q.num]=d7 q⁻¹:=by
 unfold d7
 have h1:q⁻¹.num=(q.den:Int):=by rw [Rat.num_inv,Int.sign_eq_one_of_pos h,Int.one_mul]
 have h2:((q⁻¹).den:Int)=q.num:=by
  rw [Rat.inv_def,Rat.den_divInt,if_neg (by omega)]
  have hg:q.num.gcd (q.den:Int)=1:=by
   have:=q.reduced
   unfold Int.gcd
   rw [Int.natAbs_natCast]; exact this
  rw [hg,Nat.div_one]; omega
 rw [h1,h2]
theorem CD.mono {S S':Nat} {a b c d:Rat} (h:CD S a b c d) (hs:S≤S'):CD S' a b c d:=by
 obtain ⟨A,B,C,E,D,h0,hd,⟨h1,h2,h3,h4⟩,e1,e2,e3,e4⟩:=h.ex
 exact ⟨A,B,C,E,D,h0,U2 hd hs,⟨U2 h1 hs,U2 h2 hs,U2 h3 hs,U2 h4 hs⟩,e1,e2,e3,e4⟩
end GM
namespace GM
open PySem PySem.Spec L2 DL
open RM (sz)
theorem a1y (q:Rat):sz (f7 q)=sz q:=by
 unfold f7; split
 ·rfl
 ·exact RM.L3 q
def f9 (x:Str × Rat):D:=.tup [.str x.1,d7 x.2]
def t9 (x:Str × Rat) (y u:Rat):Rat × Rat:=if x.1 = "gap" then (y+x.2*u,u) else if x.1 = "glass" then (y,u - x.2*y) else (y,u)
def h8 (bs:List (Str × Rat)) (r:Rat × Rat):Rat × Rat:=bs.foldl (fun r x=>t9 x r.1 r.2) r
theorem CD.led {S:Nat} {x:Str × Rat} {y u:Rat} (h:CD S y 0 u 0) (hx:sz x.2≤41):CD (S+42) (t9 x y u).1 0 (t9 x y u).2 0:=by
 unfold t9
 split
 ·have:=h.step hx
  rw [show (0:Rat)+x.2*0=0 by grind] at this
  exact this
 ·split
  ·have:=(h.swap.step (q:=-x.2) (k:=41) (by rw [RM.L3]; exact hx)).swap
   rw [show (0:Rat) + -x.2*0=0 by grind,show u + -x.2*y=u - x.2*y by grind] at this
   exact this
  ·exact h.mono (by omega)
theorem CD.t2 {S:Nat} {y u:Rat} (h:CD S y 0 u 0) (hS:0<S:=by omega):T2 S y u:=⟨h.t4.a,h.t4.c⟩
theorem CD.ray {y u:Rat} {k:Nat} (h1:sz y≤k) (h2:sz u≤k):CD (2*k) y 0 u 0:=by
 have n1:=u8 y h1
 have d1:=u0 y h1
 have n2:=u8 u h2
 have d2:=u0 u h2
 have d1':(y.den:Int).natAbs<2 ^ k:=by rw [Int.natAbs_natCast]; exact d1
 have d2':(u.den:Int).natAbs<2 ^ k:=by rw [Int.natAbs_natCast]; exact d2
 have e1:=v7 y
 have e2:=v7 u
 refine ⟨y.num*(u.den:Int),0,u.num*(y.den:Int),0,y.den*u.den,Nat.mul_ne_zero y.den_nz u.den_nz,?_,⟨?_,?_,?_,?_⟩,?_,?_,?_,?_⟩
 ·rw [show 2*k=k+k by omega]; exact m6 d1 d2
 ·rw [show 2*k=k+k by omega]; exact e7 n1 d2'
 ·exact Nat.two_pow_pos _
 ·rw [show 2*k=k+k by omega]; exact e7 n2 d1'
 ·exact Nat.two_pow_pos _
 all_goals (simp only [Rat.natCast_mul,Rat.intCast_mul,Rat.intCast_natCast,Rat.intCast_zero]; grind)
theorem Y8 {bs:List (Str × Rat)} {i:Nat} {x:Str × Rat} (h:bs[i]? = some x) (r:Rat × Rat):h8 (bs.take (i+1)) r=t9 x (h8 (bs.take i) r).1 (h8 (bs.take i) r).2:=by
 obtain ⟨hl,he⟩:=List.getElem?_eq_some_iff.mp h
 unfold h8
 rw [List.take_succ_eq_append_getElem hl,List.foldl_append,he]
 rfl
theorem S3 (bs:List (Str × Rat)) (y u:Rat):(h8 bs (y,u)).1=(h8 bs (1,0)).1*y+(h8 bs (0,1)).1*u∧(h8 bs (y,u)).2=(h8 bs (1,0)).2*y+(h8 bs (0,1)).2*u:=by
 have gen:∀ (bs:List (Str × Rat)) (y u a b c d z w:Rat),z=a*y+b*u→w=c*y+d*u →
   (h8 bs (z,w)).1=(h8 bs (a,c)).1*y+(h8 bs (b,d)).1*u∧(h8 bs (z,w)).2=(h8 bs (a,c)).2*y+(h8 bs (b,d)).2*u:=by
  intro bs
  induction bs with
  | nil=>intro y u a b c d z w h1 h2; exact ⟨h1,h2⟩
  | cons x r ih =>
   intro y u a b c d z w h1 h2
   refine ih y u (t9 x a c).1 (t9 x b d).1 (t9 x a c).2 (t9 x b d).2 (t9 x z w).1 (t9 x z w).2 ?_ ?_
   ·unfold t9; split
    ·grind
    ·split <;> grind
   ·unfold t9; split
    ·grind
    ·split <;> grind
 exact gen bs y u 1 0 0 1 y u (by grind) (by grind)
theorem a3n {bs:List (Str × Rat)} {i:Nat} {d:D} (h:(bs.map f9)[i]? = some d):∃ x,bs[i]? = some x∧d=f9 x:=by
 rw [List.getElem?_map] at h
 cases e:bs[i]? with
 | none=>rw [e] at h; cases h
 | some x=>rw [e] at h; exact ⟨x,rfl,(Option.some.inj h).symm⟩
mutual
def clw:Nat→D→Bool
 | _,.int _=>true
 | _,.non=>true
 | k+1,.tup ds=>decide (ds.length≤900) && b92 k ds
 | _,_=>false
def b92:Nat→List D→Bool
 | _,[]=>true
 | k,d :: r=>clw k d && b92 k r
end
end GM
namespace GM
open PySem PySem.Spec L2 DL
open RM (sz)
theorem b4a (bs:List (Str × Rat)):(h8 bs (1,0)).1*(h8 bs (0,1)).2 - (h8 bs (0,1)).1*(h8 bs (1,0)).2=1:=by
 have gen:∀ (bs:List (Str × Rat)) (y u z w:Rat),(h8 bs (y,u)).1*(h8 bs (z,w)).2 - (h8 bs (z,w)).1*(h8 bs (y,u)).2=y*w - z*u:=by
  intro bs
  induction bs with
  | nil=>intro y u z w; rfl
  | cons x r ih =>
   intro y u z w
   have:=ih (t9 x y u).1 (t9 x y u).2 (t9 x z w).1 (t9 x z w).2
   refine Eq.trans this ?_
   unfold t9
   split
   ·grind
   ·split <;> grind
 have:=gen bs 1 0 0 1
 rw [this]; grind
end GM
namespace GM
open PySem PySem.Spec L2 DL
open RM (sz)
end GM
namespace GM
open PySem PySem.Spec L2 DL
open RM (sz)
def a5j:DSp:=fun ds M R _=>∃ q:Rat,ds=[d7 q]∧R (d7 (f7 q)) M
end GM
namespace GM
open PySem PySem.Spec L2 DL
open RM (sz)
theorem a3o {x y:Str × Rat} (h:f9 x=f9 y):x=y:=by
 unfold f9 at h
 injection h with h
 injection h with h1 h2
 injection h1 with h1
 injection h2 with h2 _
 exact Prod.ext h1 (C2 h2)
theorem i0 {x y:Str × Rat}:f9 x=f9 y↔x=y:=⟨a3o,fun h=>by rw [h]⟩
theorem g8 {xs ys:List (Str × Rat)}:xs.map f9=ys.map f9↔xs=ys:=List.map_inj_right (fun _ _ h=>a3o h)
def m8 (l:Rat × Rat × Rat):D:=.tup [d7 l.1,d7 l.2.1,d7 l.2.2]
theorem a3q {x y:Rat × Rat × Rat} (h:m8 x=m8 y):x=y:=by
 unfold m8 at h
 injection h with h
 injection h with h1 h2
 injection h2 with h2 h3
 injection h3 with h3 _
 exact Prod.ext (C2 h1) (Prod.ext (C2 h2) (C2 h3))
theorem i3 {x y:Rat × Rat × Rat}:m8 x=m8 y↔x=y:=⟨a3q,fun h=>by rw [h]⟩
theorem g9 {xs ys:List (Rat × Rat × Rat)}:xs.map m8=ys.map m8↔xs=ys:=List.map_inj_right (fun _ _ h=>a3q h)
theorem b6I {p q r:Rat}:D.tup [d7 p,d7 q,d7 r]=m8 (p,q,r):=rfl
theorem a7G {gs:L1} {l:Rat × Rat × Rat} {e:Ev} {M:Mem} {Q:Ev→Mem→Prop}:a3u 3 gs (m8 l) e M Q=gs [d7 l.1,d7 l.2.1,d7 l.2.2] e M Q:=a1v rfl
theorem a7J {l:Rat × Rat × Rat} {M:Mem} {R:DK}:gIx (m8 l) (.int 0) M R=R (d7 l.1) M:=a1g
theorem a7I {l:Rat × Rat × Rat} {M:Mem} {R:DK}:gIx (m8 l) (.int 1) M R=R (d7 l.2.1) M:=a1f
theorem a7H {l:Rat × Rat × Rat} {M:Mem} {R:DK}:gIx (m8 l) (.int 2) M R=R (d7 l.2.2) M:=a6l
theorem a9M {q:Rat} {M:Mem} {R:DK}:gIx (d7 q) (.int 0) M R=R (.int q.num) M:=a1g
theorem a9L {q:Rat} {M:Mem} {R:DK}:gIx (d7 q) (.int 1) M R=R (.int (q.den:Int)) M:=a1f
theorem a9K {gs:L1} {q:Rat} {e:Ev} {M:Mem} {Q:Ev→Mem→Prop}:a3u 2 gs (d7 q) e M Q=gs [.int q.num,.int (q.den:Int)] e M Q:=a1v rfl
theorem a9J {q:Rat} {M:Mem} {R:DK}:a9m [d7 q] M R=R (.int 2) M:=a49 rfl
theorem a7F {x:Str × Rat} {M:Mem} {R:DK}:gIx (f9 x) (.int 0) M R=R (.str x.1) M:=a1g
theorem a7E {x:Str × Rat} {M:Mem} {R:DK}:gIx (f9 x) (.int 1) M R=R (d7 x.2) M:=a1f
theorem a7D {gs:L1} {x:Str × Rat} {e:Ev} {M:Mem} {Q:Ev→Mem→Prop}:a3u 2 gs (f9 x) e M Q=gs [.str x.1,d7 x.2] e M Q:=a1v rfl
theorem a40 {q:Rat} {M:Mem} {R:DK}:z9 [d7 q,.ty "tuple"] M R=R (.bl true) M:=p4 rfl rfl
theorem a2Z {x:Str × Rat} {M:Mem} {R:DK}:z9 [f9 x,.ty "tuple"] M R=R (.bl true) M:=p4 rfl rfl
theorem a7C {x:Str × Rat} {M:Mem} {R:DK}:a9m [f9 x] M R=R (.int 2) M:=a49 rfl
theorem b3b {q:Rat}:cl 60 (d7 q)=true:=rfl
theorem b3c {q:Rat}:cl 59 (d7 q)=true:=rfl
theorem b3d {q:Rat}:cl 58 (d7 q)=true:=rfl
theorem b3e {q:Rat}:cl 57 (d7 q)=true:=rfl
theorem r0:D.tup [.int 0,.int 1]=d7 0:=rfl
theorem r1:D.tup [.int 1,.int 1]=d7 1:=rfl
theorem r2:D.tup [.int 2,.int 1]=d7 2:=rfl
theorem r4:D.tup [.int 4,.int 1]=d7 4:=rfl
theorem b9d {q:Rat}:D.tup [.int (q.num.natAbs:Int),.int (q.den:Int)]=d7 (f7 q):=(b8l q).symm
theorem b9c {q:Rat}:D.tup [.int (-q.num),.int (q.den:Int)]=d7 (-q):=by unfold d7; rw [Rat.neg_num,Rat.neg_den]
theorem b6H {q:Rat}:D.tup [.int q.num,.int (q.den:Int)]=d7 q:=rfl
theorem rm2:D.tup [.int (-2),.int 1]=d7 (-2):=rfl
theorem rm1:D.tup [.int (-1),.int 1]=d7 (-1):=rfl
local macro_rules | `(tactic| walk_at "inj")=>`(tactic| (rename_i e h; simp only [List.cons.injEq,and_true,true_and,GM.j3,GM.i0,GM.g8,GM.i3,GM.g9,D.tup.injEq,D.ref.injEq,D.int.injEq,D.str.injEq,D.bl.injEq,D.vl.injEq,Int.natCast_inj,and_assoc] at e; (repeat (obtain ⟨e1,e⟩:=e; subst e1)); subst e; exact h))
local macro_rules | `(tactic| walk_at "injs")=>`(tactic| (rename_i e o h; rcases o with o | o <;> (subst o; first | (exfalso; simp only [D.tup.injEq,List.cons.injEq,reduceCtorEq,false_and,and_false] at e; done) | (simp only [List.cons.injEq,and_true,true_and,GM.j3,GM.i0,GM.g8,GM.i3,GM.g9,D.tup.injEq,D.ref.injEq,D.int.injEq,D.str.injEq,D.bl.injEq,D.vl.injEq,Int.natCast_inj,and_assoc] at e; (repeat (obtain ⟨e1,e⟩:=e; subst e1)); subst e; exact h))))
theorem a0u {a b:Nat} {M:Mem} {R:DK} {Y:DXK}:R7 [.int (a:Int),.int (b:Int)] M R Y=(R (.int ((Nat.gcd a b:Nat):Int)) M):=propext ⟨fun z=>by obtain ⟨_,_,_,_⟩:=z; walk_at "inj",fun h=>⟨a,b,rfl,h⟩⟩
theorem a7r {q:Rat} {M:Mem} {R:DK} {Y:DXK}:a3j [d7 q] M R Y=(R (d7 (-q)) M):=propext ⟨fun z=>by obtain ⟨_,_,_⟩:=z; walk_at "inj",fun h=>⟨q,rfl,h⟩⟩
theorem a4M {q r:Rat} {M:Mem} {R:DK} {Y:DXK}:P4 [d7 q,d7 r] M R Y=(sz q+sz r≤8900∧R (d7 (q+r)) M):=propext ⟨fun z=>by obtain ⟨_,_,_,_⟩:=z; walk_at "inj",fun h=>⟨q,r,rfl,h⟩⟩
theorem a2M {q r:Rat} {M:Mem} {R:DK} {Y:DXK}:E7 [d7 q,d7 r] M R Y=(sz q+sz r≤8900∧R (d7 (q - r)) M):=propext ⟨fun z=>by obtain ⟨_,_,_,_⟩:=z; walk_at "inj",fun h=>⟨q,r,rfl,h⟩⟩
theorem a2L {q r:Rat} {M:Mem} {R:DK} {Y:DXK}:G8 [d7 q,d7 r] M R Y=(sz q+sz r≤8900∧R (d7 (q*r)) M):=propext ⟨fun z=>by obtain ⟨_,_,_,_⟩:=z; walk_at "inj",fun h=>⟨q,r,rfl,h⟩⟩
theorem a4N {q r:Rat} {M:Mem} {R:DK} {Y:DXK}:a0e [d7 q,d7 r] M R Y=(r≠0∧sz q+sz r≤8900∧R (d7 (q / r)) M):=propext ⟨fun z=>by obtain ⟨_,_,_,_⟩:=z; walk_at "inj",fun h=>⟨q,r,rfl,h⟩⟩
theorem a4P {q r:Rat} {M:Mem} {R:DK} {Y:DXK}:a0f [d7 q,d7 r] M R Y=(sz q+sz r≤8900∧R (.bl (decide (q<r))) M):=propext ⟨fun z=>by obtain ⟨_,_,_,_⟩:=z; walk_at "inj",fun h=>⟨q,r,rfl,h⟩⟩
theorem a7s {a b:Int} {M:Mem} {R:DK} {Y:DXK}:T9 [.int a,.int b] M R Y=(b≠0∧b.natAbs.log2<9000∧R (d7 (Rat.divInt a b)) M):=propext ⟨fun z=>by obtain ⟨_,_,_,_⟩:=z; walk_at "inj",fun h=>⟨a,b,rfl,h⟩⟩
theorem a4L {c:Int} {M:Mem} {R:DK} {Y:DXK}:a6x [.int c] M R Y=(∀ p M',M p=none→MK M M'→u6 M' p→R (.ref p) M'):=propext ⟨fun z=>by obtain ⟨_,_,_⟩:=z; walk_at "inj",fun h=>⟨c,rfl,h⟩⟩
theorem a4O {p:Addr} {b:Int} {M:Mem} {R:DK} {Y:DXK}:L4 [.ref p,.int b] M R Y=(u6 M p∧0<b∧b.natAbs.log2<9000∧∀ (r:Int) M',0≤r→r<b→o7 p M M'→R (.int r) M'):=propext ⟨fun z=>by obtain ⟨_,_,_,_⟩:=z; walk_at "inj",fun h=>⟨p,b,rfl,h⟩⟩
theorem a7t {q:Rat} {M:Mem} {R:DK} {Y:DXK}:a5j [d7 q] M R Y=(R (d7 (f7 q)) M):=propext ⟨fun z=>by obtain ⟨_,_,_⟩:=z; walk_at "inj",fun h=>⟨q,rfl,h⟩⟩
theorem a4K {q:Rat} {M:Mem} {R:DK} {Y:DXK}:a6w [d7 q] M R Y=(RM.sz q≤4000∧∀ v,b2s q v→R v M):=propext ⟨fun z=>by obtain ⟨_,_,_⟩:=z; walk_at "inj",fun h=>⟨q,rfl,h⟩⟩
theorem a0v {a b c d:Rat} {M:Mem} {R:DK} {Y:DXK}:a0g [A5 a c,A5 b d] M R Y=(R (a0S a b c d) M):=propext ⟨fun z=>by obtain ⟨_,_,_,_,_,_⟩:=z; walk_at "inj",fun h=>⟨a,b,c,d,rfl,h⟩⟩
def b6B:DSp:=fun ds M R Y=>∃ (a b c d y u:Rat),ds=[a0S a b c d,A5 y u]∧sz a+sz y+(sz b+sz u)≤8900∧sz c+sz y+(sz d+sz u)≤8900∧R (A5 (a*y+b*u) (c*y+d*u)) M
theorem a9G {a b c d y u:Rat} {M:Mem} {R:DK} {Y:DXK}:b6B [a0S a b c d,A5 y u] M R Y=(sz a+sz y+(sz b+sz u)≤8900∧sz c+sz y+(sz d+sz u)≤8900∧R (A5 (a*y+b*u) (c*y+d*u)) M):=propext ⟨fun z=>by obtain ⟨_,_,_,_,_,_,_,_⟩:=z; walk_at "inj",fun h=>⟨a,b,c,d,y,u,rfl,h⟩⟩
def a77:DSp:=fun ds M R Y=>∃ (x:Str × Rat) (y u:Rat),ds=[f9 x,A5 y u]∧sz x.2+sz y+sz u≤8900∧R (A5 (t9 x y u).1 (t9 x y u).2) M
theorem a7z {x:Str × Rat} {y u:Rat} {M:Mem} {R:DK} {Y:DXK}:a77 [f9 x,A5 y u] M R Y=(sz x.2+sz y+sz u≤8900∧R (A5 (t9 x y u).1 (t9 x y u).2) M):=propext ⟨fun z=>by obtain ⟨_,_,_,_,_⟩:=z; walk_at "inj",fun h=>⟨x,y,u,rfl,h⟩⟩
theorem o7.put {p l:Addr} {M M':Mem} {o:MO} (h:o7 p M M') (hl:M l=none) (hp:l≠p):o7 p M (v8 M' l o):=⟨fun b u hb e=>by
  rw [B7 (by intro z; subst z; rw [hl] at e; cases e)]; exact h.keep b u hb e,by
  obtain ⟨x,y,z,e⟩:=h.pool.ex
  exact ⟨x,y,z,by rw [B7 (Ne.symm hp)]; exact e⟩⟩
theorem o7.del {p l:Addr} {M M':Mem} (h:o7 p M M') (hl:M l=none) (hp:l≠p):o7 p M (X1 M' l):=⟨fun b u hb e=>by
  rw [a4y (by intro z; subst z; rw [hl] at e; cases e)]; exact h.keep b u hb e,by
  obtain ⟨x,y,z,e⟩:=h.pool.ex
  exact ⟨x,y,z,by rw [a4y (Ne.symm hp)]; exact e⟩⟩
end GM
set_option maxHeartbeats 1000000
namespace GM
open PySem PySem.Spec L2 DL
open RM (sz)
theorem N6 {xs:List D} {r:Int} {M:Mem} {R:DK} (h0:0≤r) (h1:r<xs.length) (h:∀ d∈xs,R d M):gIx (.vl xs) (.int r) M R:=by
 obtain ⟨z,e,hz⟩:=b4Y h0 h1
 exact ⟨z,e,h z hz⟩
local macro_rules | `(tactic| walk_at "inj")=>`(tactic| (rename_i e h; simp only [List.cons.injEq,and_true,true_and,GM.j3,GM.i0,GM.g8,GM.i3,GM.g9,D.tup.injEq,D.ref.injEq,D.int.injEq,D.str.injEq,D.bl.injEq,D.vl.injEq,Int.natCast_inj,and_assoc] at e; (repeat (obtain ⟨e1,e⟩:=e; subst e1)); subst e; exact h))
local macro_rules | `(tactic| walk_at "injs")=>`(tactic| (rename_i e o h; rcases o with o | o <;> (subst o; first | (exfalso; simp only [D.tup.injEq,List.cons.injEq,reduceCtorEq,false_and,and_false] at e; done) | (simp only [List.cons.injEq,and_true,true_and,GM.j3,GM.i0,GM.g8,GM.i3,GM.g9,D.tup.injEq,D.ref.injEq,D.int.injEq,D.str.injEq,D.bl.injEq,D.vl.injEq,Int.natCast_inj,and_assoc] at e; (repeat (obtain ⟨e1,e⟩:=e; subst e1)); subst e; exact h))))
structure b2r (w:Rat):Prop where
 n:w.num.natAbs≤4
 d:w.den≤4
 ne:w≠0
theorem small_one:b2r 1:=⟨by decide,by decide,by decide⟩
theorem b2r.sz {w:Rat} (h:b2r w):RM.sz w≤3:=by
 rw [← Rat.num_divInt_den w]
 exact b7h (by decide) (by have:=h.n; omega) (by have:=h.d; omega) (RM.C9 w)
end GM
namespace GM
open PySem PySem.Spec L2 DL
open RM (sz)
abbrev Q4:=Rat × Rat × Rat × Rat
def A0 (m:Q4):D:=a0S m.1 m.2.1 m.2.2.1 m.2.2.2
def G6 (m k:Q4):Q4:=(m.1*k.1+m.2.1*k.2.2.1,m.1*k.2.1+m.2.1*k.2.2.2,m.2.2.1*k.1+m.2.2.2*k.2.2.1,m.2.2.1*k.2.1+m.2.2.2*k.2.2.2)
def W9 (m:Q4):Rat:=m.1*m.2.2.2 - m.2.1*m.2.2.1
def CDQ (S:Nat) (m:Q4):Prop:=CD S m.1 m.2.1 m.2.2.1 m.2.2.2
def pwQ (m:Q4):Nat→Q4
 | 0=>(1,0,0,1)
 | k+1=>G6 m (pwQ m k)
def xwQ (m:Q4):Nat→Rat × Rat
 | 0=>(0,-1)
 | k+1=>((m.1+m.2.2.2)*(xwQ m k).1 - (xwQ m k).2,(xwQ m k).1)
theorem a4w {m k:Q4} (h1:m.1=k.1) (h2:m.2.1=k.2.1) (h3:m.2.2.1=k.2.2.1) (h4:m.2.2.2=k.2.2.2):m=k:=Prod.ext h1 (Prod.ext h2 (Prod.ext h3 h4))
theorem b5O {m:Q4} (hd:W9 m=1):∀ k,pwQ m k=(m.1*(xwQ m k).1 - (xwQ m k).2,m.2.1*(xwQ m k).1,m.2.2.1*(xwQ m k).1,m.2.2.2*(xwQ m k).1 - (xwQ m k).2)
 | 0=>by refine a4w ?_ ?_ ?_ ?_ <;> (simp only [pwQ,xwQ]; grind)
 | k+1=>by
  have ih:=b5O hd k
  have hd':m.1*m.2.2.2 - m.2.1*m.2.2.1=1:=hd
  show G6 m (pwQ m k)=_
  rw [ih]
  generalize h1:xwQ m k=xw at *
  refine a4w ?_ ?_ ?_ ?_ <;> (simp only [G6,xwQ,h1]; grind)
theorem a61 (a b c:Q4):G6 (G6 a b) c=G6 a (G6 b c):=by
 refine a4w ?_ ?_ ?_ ?_ <;> (simp only [G6]; grind)
theorem b0Q (m:Q4) (k:Nat):∀ j,G6 (pwQ m j) (pwQ m k)=pwQ m (j+k)
 | 0=>by
  rw [Nat.zero_add]
  refine a4w ?_ ?_ ?_ ?_ <;> (simp only [G6,pwQ]; grind)
 | j+1=>by
  rw [show j+1+k=(j+k)+1 by omega]
  show G6 (G6 m (pwQ m j)) (pwQ m k)=G6 m (pwQ m (j+k))
  rw [a61,b0Q m k j]
theorem CD.mul {S T:Nat} {m k:Q4} (h:CDQ S m) (g:CDQ T k):CDQ (S+T+1) (G6 m k):=by
 obtain ⟨A,B,C,E,D,h0,hd,⟨h1,h2,h3,h4⟩,e1,e2,e3,e4⟩:=h.ex
 obtain ⟨A',B',C',E',D',h0',hd',⟨h1',h2',h3',h4'⟩,e1',e2',e3',e4'⟩:=g.ex
 refine ⟨A*A'+B*C',A*B'+B*E',C*A'+E*C',C*B'+E*E',D*D',Nat.mul_ne_zero h0 h0',U2 (m6 hd hd') (by omega),⟨y9 (e7 h1 h1') (e7 h2 h3'),y9 (e7 h1 h2') (e7 h2 h4'),y9 (e7 h3 h1') (e7 h4 h3'),y9 (e7 h3 h2') (e7 h4 h4')⟩,?_,?_,?_,?_⟩
 all_goals (simp only [G6,Rat.natCast_mul,Rat.intCast_add,Rat.intCast_mul]; grind)
theorem CD.tr {S:Nat} {a b c d:Rat} (h:CD S a b c d):sz (a+d)≤S+1:=by
 obtain ⟨A,B,C,E,D,h0,hd,⟨h1,h2,h3,h4⟩,e1,e2,e3,e4⟩:=h.ex
 exact a55 (A:=A+E) (D:=D) (by omega) h0 (U2 hd (by omega)) (by rw [Rat.intCast_add]; grind) (y9 h1 h4)
theorem a2K {n:Int} {M:Mem} {R:DK} {Y:DXK}:a3H [.int n] M R Y=R (.bl true) M:=propext ⟨fun ⟨_,e,h⟩=>by cases e; exact h,fun h=>⟨_,rfl,h⟩⟩
local macro_rules | `(tactic| walk_at "inj")=>`(tactic| (rename_i e h; simp only [List.cons.injEq,and_true,true_and,GM.j3,GM.i0,GM.g8,GM.i3,GM.g9,D.tup.injEq,D.ref.injEq,D.int.injEq,D.str.injEq,D.bl.injEq,D.vl.injEq,Int.natCast_inj,and_assoc] at e; (repeat (obtain ⟨e1,e⟩:=e; subst e1)); subst e; exact h))
local macro_rules | `(tactic| walk_at "injs")=>`(tactic| (rename_i e o h; rcases o with o | o <;> (subst o; first | (exfalso; simp only [D.tup.injEq,List.cons.injEq,reduceCtorEq,false_and,and_false] at e; done) | (simp only [List.cons.injEq,and_true,true_and,GM.j3,GM.i0,GM.g8,GM.i3,GM.g9,D.tup.injEq,D.ref.injEq,D.int.injEq,D.str.injEq,D.bl.injEq,D.vl.injEq,Int.natCast_inj,and_assoc] at e; (repeat (obtain ⟨e1,e⟩:=e; subst e1)); subst e; exact h))))
end GM
namespace GM
open PySem PySem.Spec L2 DL
open RM (sz)
def p8 (G:Rat) (x:Str × Rat):Str × Rat:=if x.1 = "gap" then (x.1,G*x.2) else if x.1 = "glass" then (x.1,x.2 / G) else x
theorem a1w (G:Rat) (x:Str × Rat):(p8 G x).1=x.1:=by
 unfold p8; split
 ·rfl
 ·split <;> rfl
theorem b1h {G:Rat} (h:G≠0) (x:Str × Rat) (y u:Rat):t9 (p8 G x) (G*y) u=(G*(t9 x y u).1,(t9 x y u).2):=by
 unfold t9
 rw [a1w]
 unfold p8
 by_cases h1:x.1 = "gap"
 ·rw [if_pos h1,if_pos h1,if_pos h1]
  exact Prod.ext (by show G*y+G*x.2*u=G*(y+x.2*u); grind) rfl
 ·rw [if_neg h1,if_neg h1,if_neg h1]
  by_cases h2:x.1 = "glass"
  ·rw [if_pos h2,if_pos h2,if_pos h2]
   exact Prod.ext rfl (by show u - x.2 / G*(G*y)=u - x.2*y; grind)
  ·rw [if_neg h2,if_neg h2]
theorem b01 {G:Rat} (h:G≠0) (bs:List (Str × Rat)) (y u:Rat):h8 (bs.map (p8 G)) (G*y,u)=(G*(h8 bs (y,u)).1,(h8 bs (y,u)).2):=by
 induction bs generalizing y u with
 | nil=>rfl
 | cons x r ih =>
  show h8 (r.map (p8 G)) (t9 (p8 G x) (G*y) u)=_
  rw [b1h h x y u]
  exact ih _ _
def D5 (x:Str × Rat):Bool:=x.1 == "gap" || x.1 == "glass"
def B1 (bs:List (Str × Rat)):Nat:=(bs.filter D5).length
theorem a1X {x:Str × Rat} (h:D5 x=false) (y u:Rat):t9 x y u=(y,u):=by
 unfold D5 at h
 rw [Bool.or_eq_false_iff] at h
 unfold t9
 rw [if_neg (by have:=h.1; intro e; rw [e] at this; cases this),if_neg (by have:=h.2; intro e; rw [e] at this; cases this)]
theorem CD.ledk {S k:Nat} {x:Str × Rat} {y u y' u':Rat} (h:CD S y y' u u') (hx:sz x.2≤k):CD (S+(k+1)) (t9 x y u).1 (t9 x y' u').1 (t9 x y u).2 (t9 x y' u').2:=by
 unfold t9
 split
 ·exact h.step hx
 ·split
  ·have:=(h.swap.step (q:=-x.2) (k:=k) (by rw [RM.L3]; exact hx)).swap
   rw [show u + -x.2*y=u - x.2*y by grind,show u' + -x.2*y'=u' - x.2*y' by grind] at this
   exact this
  ·exact h.mono (by omega)
theorem b4b {k:Nat} (bs:List (Str × Rat)) (hb:∀ x∈bs,D5 x=true→sz x.2≤k):∀ {S:Nat} {y u y' u':Rat},CD S y y' u u'→CD (S+(k+1)*B1 bs) (h8 bs (y,u)).1 (h8 bs (y',u')).1 (h8 bs (y,u)).2 (h8 bs (y',u')).2:=by
 induction bs with
 | nil=>intro S y u y' u' h; exact h.mono (by omega)
 | cons x r ih =>
  intro S y u y' u' h
  have hr:=fun z hz=>hb z (List.mem_cons_of_mem _ hz)
  cases ha:D5 x with
  | false =>
   have e:B1 (x :: r)=B1 r:=by unfold B1; rw [List.filter_cons,ha]; rfl
   rw [e]
   show CD _ (h8 r (t9 x y u)).1 (h8 r (t9 x y' u')).1 (h8 r (t9 x y u)).2 (h8 r (t9 x y' u')).2
   rw [a1X ha,a1X ha]
   exact ih hr h
  | true =>
   have e:B1 (x :: r)=B1 r+1:=by unfold B1; rw [List.filter_cons,ha]; rfl
   rw [e,show S+(k+1)*(B1 r+1)=S+(k+1)+(k+1)*B1 r by rw [Nat.mul_succ]; omega]
   exact ih hr (h.ledk (hb x List.mem_cons_self ha))
theorem CD.wide {S k:Nat} {a b c d G:Rat} (h:CD S a b c d) (hG:sz G≤k) (hp:0<G.num):CD (S+2*k) a (G*b) (c / G) d:=by
 obtain ⟨A,B,C,E,D,h0,hd,⟨h1,h2,h3,h4⟩,e1,e2,e3,e4⟩:=h.ex
 have hn:=u8 G hG
 have hm:=u0 G hG
 have hm':(G.den:Int).natAbs<2 ^ k:=by rw [Int.natAbs_natCast]; exact hm
 have e:=v7 G
 obtain ⟨n,en⟩:∃ n:Nat,G.num=(n:Int):=⟨G.num.toNat,by omega⟩
 rw [en] at hn e hp
 rw [Int.natAbs_natCast] at hn
 rw [Rat.intCast_natCast] at e
 have hn':(n:Int).natAbs<2 ^ k:=by rw [Int.natAbs_natCast]; exact hn
 have g0:G≠0:=by
  intro z
  rw [z] at e
  have:(n:Rat)=0:=by grind
  have:n=0:=by exact_mod_cast this
  omega
 refine ⟨A*((n:Int)*G.den),B*((n:Int)*n),C*((G.den:Int)*G.den),E*((n:Int)*G.den),D*(n*G.den),Nat.mul_ne_zero h0 (Nat.mul_ne_zero (by omega) G.den_nz),?_,⟨?_,?_,?_,?_⟩,?_,?_,?_,?_⟩
 ·rw [show S+2*k=S+(k+k) by omega]; exact m6 hd (m6 hn hm)
 ·rw [show S+2*k=S+(k+k) by omega]; exact e7 h1 (e7 hn' hm')
 ·rw [show S+2*k=S+(k+k) by omega]; exact e7 h2 (e7 hn' hn')
 ·rw [show S+2*k=S+(k+k) by omega]; exact e7 h3 (e7 hm' hm')
 ·rw [show S+2*k=S+(k+k) by omega]; exact e7 h4 (e7 hn' hm')
 all_goals (simp only [Rat.natCast_mul,Rat.intCast_mul,Rat.intCast_natCast])
 ·grind
 ·grind
 ·have:c / G*G=c:=by grind
  grind
 ·grind
theorem a8P {G:Rat} (h:G≠0) (x:Str × Rat):p8 G (p8 (1 / G) x)=x:=by
 have e:=a1w (1 / G) x
 by_cases h1:x.1 = "gap"
 ·have e2:p8 (1 / G) x=(x.1,1 / G*x.2):=if_pos h1
  rw [e2]
  show (if x.1 = "gap" then (x.1,G*(1 / G*x.2)) else _)=x
  rw [if_pos h1]
  exact Prod.ext rfl (by show G*(1 / G*x.2)=x.2; grind)
 ·by_cases h2:x.1 = "glass"
  ·have e2:p8 (1 / G) x=(x.1,x.2 / (1 / G)):=by unfold p8; rw [if_neg h1,if_pos h2]
   rw [e2]
   show (if x.1 = "gap" then _ else if x.1 = "glass" then (x.1,x.2 / (1 / G) / G) else _)=x
   rw [if_neg h1,if_pos h2]
   exact Prod.ext rfl (by show x.2 / (1 / G) / G=x.2; grind)
  ·have e2:p8 (1 / G) x=x:=by unfold p8; rw [if_neg h1,if_neg h2]
   rw [e2]
   unfold p8
   rw [if_neg h1,if_neg h2]
theorem a6e (G:Rat) (x:Str × Rat):D5 (p8 G x)=D5 x:=by unfold D5; rw [a1w]
theorem a9v (G:Rat) (xs:List (Str × Rat)):B1 (xs.map (p8 G))=B1 xs:=by
 induction xs with
 | nil=>rfl
 | cons x r ih =>
  unfold B1 at ih ⊢
  rw [List.map_cons,List.filter_cons,List.filter_cons,a6e]
  split
  ·rw [List.length_cons,List.length_cons,ih]
  ·exact ih
theorem R1 (xs ys:List (Str × Rat)):B1 (xs++ys)=B1 xs+B1 ys:=by unfold B1; rw [List.filter_append,List.length_append]
theorem a6d (xs:List (Str × Rat)):B1 xs.reverse=B1 xs:=by unfold B1; rw [List.filter_reverse,List.length_reverse]
theorem a9w (xs:List (Str × Rat)) (i:Nat):B1 (xs.take i)≤B1 xs:=by
 have:=R1 (xs.take i) (xs.drop i)
 rw [List.take_append_drop] at this
 omega
theorem a6T {G:Rat} (h:0<G.num):G≠0:=by
 intro z; rw [z] at h; exact absurd h (by decide)
def tbQ (bs:List (Str × Rat)):Q4:=((h8 bs (1,0)).1,(h8 bs (0,1)).1,(h8 bs (1,0)).2,(h8 bs (0,1)).2)
theorem b3r {G:Rat} (hp:0<G.num) (hG:sz G≤67) {xs:List (Str × Rat)} (hx:∀ x∈xs,D5 x=true→sz (p8 (1 / G) x).2≤5) (ha:B1 xs≤14):CDQ 230 (tbQ xs):=by
 have g0:=a6T hp
 have e:xs=(xs.map (p8 (1 / G))).map (p8 G):=by
  rw [List.map_map]
  exact (List.map_id xs).symm.trans (List.map_congr_left fun x _=>(a8P g0 x).symm)
 have c:=b4b (k:=5) (xs.map (p8 (1 / G))) (fun x h=>by
  obtain ⟨z,hz,rfl⟩:=List.mem_map.mp h
  rw [a6e]
  exact hx z hz) CD.one
 rw [a9v] at c
 have c2:=(c.mono (show 1+(5+1)*B1 xs≤85 by omega)).wide hG hp
 have o:=b01 g0 (xs.map (p8 (1 / G)))
 rw [← e] at o
 have o1:=o (1 / G) 0
 have o2:=o 0 1
 rw [show G*(1 / G)=1 by grind] at o1
 rw [show G*(0:Rat)=0 by grind] at o2
 have l1:=S3 (xs.map (p8 (1 / G))) (1 / G) 0
 unfold CDQ tbQ
 rw [o1,o2]
 generalize h8 (xs.map (p8 (1 / G))) (1,0)=p at *
 generalize h8 (xs.map (p8 (1 / G))) (0,1)=q at *
 show CD 230 (G*(h8 (xs.map (p8 (1 / G))) (1 / G,0)).1) (G*q.1) (h8 (xs.map (p8 (1 / G))) (1 / G,0)).2 q.2
 rw [l1.1,l1.2,show G*(p.1*(1 / G)+q.1*0)=p.1 by grind,show p.2*(1 / G)+q.2*0=p.2 / G by grind]
 exact c2.mono (by omega)
theorem b6p (bs:List (Str × Rat)):W9 (tbQ bs)=1:=b4a bs
def e9 (near:Rat) (bs:List (Str × Rat)) (far:Rat):List (Str × Rat):=bs++[(Str.ofString "glass",far)]++bs.reverse++[(Str.ofString "glass",near)]
structure p9 (near:Rat) (bs:List (Str × Rat)) (far:Rat):Prop where
 ex:∃ G:Rat,0<G.num∧sz G≤67∧sz (near*G)≤5∧sz (far*G)≤5∧∀ x∈bs,D5 x=true→sz (p8 (1 / G) x).2≤5
 act:B1 bs≤6
 len:bs.length≤9
 part:∀ x∈bs,sz x.2≤80∧((x.1 = "gap" ∧ 0≤x.2)∨x.1 = "glass" ∨ (x.1 = "stop" ∧ 0<x.2))
 zn:sz near≤80
 zf:sz far≤80
theorem a12 {G q:Rat} (h:sz (q*G)≤5):sz (p8 (1 / G) (Str.ofString "glass",q)).2≤5:=by
 have:p8 (1 / G) (Str.ofString "glass",q)=(Str.ofString "glass",q / (1 / G)):=by
  unfold p8
  rw [if_neg (show ¬ Str.ofString "glass" = Str.ofString "gap" by decide),if_pos rfl]
 rw [this]
 by_cases g:G=0
 ·rw [g]
  show sz (q / (1 / 0))≤5
  rw [show q / (1 / 0)=(0:Rat) by grind,RM.E6]; decide
 ·rw [show q / (1 / G)=q*G by grind]; exact h
theorem p9.cd {near far:Rat} {bs:List (Str × Rat)} (h:p9 near bs far) (i:Nat):CDQ 230 (tbQ ((e9 near bs far).take i)):=by
 obtain ⟨G,hp,hG,hn,hf,hb⟩:=h.ex
 refine b3r hp hG (fun x hx ha=>?_) ?_
 ·have hx:=List.mem_of_mem_take hx
  unfold e9 at hx
  rcases List.mem_append.mp hx with hx | hx
  ·rcases List.mem_append.mp hx with hx | hx
   ·rcases List.mem_append.mp hx with hx | hx
    ·exact hb x hx ha
    ·rw [List.mem_singleton.mp hx]; exact a12 hf
   ·exact hb x (List.mem_reverse.mp hx) ha
  ·rw [List.mem_singleton.mp hx]; exact a12 hn
 ·refine Nat.le_trans (a9w _ _) ?_
  unfold e9
  rw [R1,R1,R1,a6d]
  have:=h.act
  have e1:B1 [(Str.ofString "glass",far)]=1:=rfl
  have e2:B1 [(Str.ofString "glass",near)]=1:=rfl
  omega
theorem p9.szs {near far:Rat} {bs:List (Str × Rat)} (h:p9 near bs far):∀ x∈e9 near bs far,sz x.2≤80:=by
 intro x hx
 unfold e9 at hx
 rcases List.mem_append.mp hx with hx | hx
 ·rcases List.mem_append.mp hx with hx | hx
  ·rcases List.mem_append.mp hx with hx | hx
   ·exact (h.part x hx).1
   ·rw [List.mem_singleton.mp hx]; exact h.zf
  ·exact (h.part x (List.mem_reverse.mp hx)).1
 ·rw [List.mem_singleton.mp hx]; exact h.zn
theorem Z6 (near far:Rat) (bs:List (Str × Rat)):(e9 near bs far).length=2*bs.length+2:=by
 unfold e9
 simp only [List.length_append,List.length_reverse,List.length_cons,List.length_nil]
 omega
theorem a38 {S T:Nat} {xs:List (Str × Rat)} {y u:Rat} (h:CDQ S (tbQ xs)) (g:CD T y 0 u 0):CD (S+T+1) (h8 xs (y,u)).1 0 (h8 xs (y,u)).2 0:=by
 have c:=CD.mul (k:=(y,0,u,0)) h g
 have l:=S3 xs y u
 unfold CDQ G6 tbQ at c
 rw [l.1,l.2]
 rw [show ∀ a b:Rat,a*0+b*0=0 from fun a b=>by grind] at c
 rw [show ∀ a b:Rat,a*0+b*0=0 from fun a b=>by grind] at c
 exact c
theorem b4L (q:Rat) (m:Int):Rat.divInt q.num ((q.den:Int)*m)=q / (m:Rat):=by
 rw [Rat.divInt_eq_div,Rat.intCast_mul,Rat.intCast_natCast,← v7 q]
 have h:(q.den:Rat)≠0:=by
  intro z; exact q.den_nz (by exact_mod_cast z)
 grind
theorem c0u {m:Int} (h0:2≤m) (h1:m≤3):sz (m:Rat)≤2∧sz (1 - 1 / (m:Rat))≤2∧0<1 / (m:Rat)∧0<1 - 1 / (m:Rat):=by
 have:m=2∨m=3:=by omega
 rcases this with rfl | rfl
 ·exact ⟨by decide +kernel,by decide +kernel,by decide +kernel,by decide +kernel⟩
 ·exact ⟨by decide +kernel,by decide +kernel,by decide +kernel,by decide +kernel⟩
theorem a6Z {q:Rat} (h:0<q):0<q.num:=by
 have:=(Rat.lt_iff 0 q).mp h
 simpa using this
theorem a39 {t b:Int} {k:Nat} (hk:0<k) (ht:t.natAbs<2 ^ k) (h0:0<b) (hb:b.natAbs<2 ^ k):sz (Rat.divInt t b)≤k:=Nat.le_trans (RM.F3 t b (by omega)) (Nat.max_le.mpr ⟨RM.R0 ht hk,RM.R0 hb hk⟩)
theorem b0O {t b:Int} (h:0<t) (h0:0<b):0<Rat.divInt t b:=by
 rw [Rat.divInt_eq_div]
 have h1:(0:Rat)<(t:Rat):=by exact_mod_cast h
 have h2:(0:Rat)<(b:Rat):=by exact_mod_cast h0
 exact (Rat.lt_div_iff h2).mpr (by grind)
theorem S9 {ts bs:List Int} {k:Nat} (hk:0<k) (ht:∀ t∈ts,t.natAbs<2 ^ k) (hb:∀ b∈bs,0<b∧b.natAbs<2 ^ k):∀ t∈ts,∀ b∈bs,sz (Rat.divInt t b)≤k:=fun t h b g=>a39 hk (ht t h) (hb b g).1 (hb b g).2
theorem a4t {ts bs:List Int} {k:Nat} (hk:0<k) (ht:∀ t∈ts,0<t∧t.natAbs<2 ^ k) (hb:∀ b∈bs,0<b∧b.natAbs<2 ^ k):∀ t∈ts,∀ b∈bs,0<Rat.divInt t b∧sz (Rat.divInt t b)≤k:=fun t h b g=>⟨b0O (ht t h).1 (hb b g).1,a39 hk (ht t h).2 (hb b g).1 (hb b g).2⟩
theorem b4z {ts bs:List Int} {k:Nat} (hk:0<k) (ht:∀ t∈ts,0≤t∧t.natAbs<2 ^ k) (hb:∀ b∈bs,0<b∧b.natAbs<2 ^ k):∀ t∈ts,∀ b∈bs,0≤Rat.divInt t b∧sz (Rat.divInt t b)≤k:=fun t h b g=>⟨by
 by_cases z:t=0
 ·rw [z,Rat.zero_divInt]; exact Rat.le_refl
 ·exact Rat.le_of_lt (b0O (by have:=(ht t h).1; omega) (hb b g).1),a39 hk (ht t h).2 (hb b g).1 (hb b g).2⟩
theorem lg9 {n:Nat} (h:n<128):n.log2<9000:=Nat.lt_of_lt_of_le (F8 (k:=7) h (by decide)) (by decide)
local macro_rules | `(tactic| walk_at "inj")=>`(tactic| (rename_i e h; simp only [List.cons.injEq,and_true,true_and,GM.j3,GM.i0,GM.g8,GM.i3,GM.g9,D.tup.injEq,D.ref.injEq,D.int.injEq,D.str.injEq,D.bl.injEq,D.vl.injEq,Int.natCast_inj,and_assoc] at e; (repeat (obtain ⟨e1,e⟩:=e; subst e1)); subst e; exact h))
local macro_rules | `(tactic| walk_at "injs")=>`(tactic| (rename_i e o h; rcases o with o | o <;> (subst o; first | (exfalso; simp only [D.tup.injEq,List.cons.injEq,reduceCtorEq,false_and,and_false] at e; done) | (simp only [List.cons.injEq,and_true,true_and,GM.j3,GM.i0,GM.g8,GM.i3,GM.g9,D.tup.injEq,D.ref.injEq,D.int.injEq,D.str.injEq,D.bl.injEq,D.vl.injEq,Int.natCast_inj,and_assoc] at e; (repeat (obtain ⟨e1,e⟩:=e; subst e1)); subst e; exact h))))
def a1I:DSp:=fun ds M R Y=>∃ (p:Addr) (x y:D),ds=[.ref p,x,y]∧u6 M p∧∃ (ts bs:List Int) (P:Rat→Prop),x = .vl (ts.map D.int)∧y = .vl (bs.map D.int)∧((0<ts.length∧ts.length≤100)∧(0<bs.length∧bs.length≤100)∧(∀ b∈bs,0<b∧b≤100)∧∀ t∈ts,∀ b∈bs,P (Rat.divInt t b))∧∀ (q:Rat) M',P q→o7 p M M'→R (d7 q) M'
theorem a7y {p:Addr} {x y:D} {M:Mem} {R:DK} {Y:DXK}:a1I [.ref p,x,y] M R Y=(u6 M p∧∃ (ts bs:List Int) (P:Rat→Prop),x = .vl (ts.map D.int)∧y = .vl (bs.map D.int)∧((0<ts.length∧ts.length≤100)∧(0<bs.length∧bs.length≤100)∧(∀ b∈bs,0<b∧b≤100)∧∀ t∈ts,∀ b∈bs,P (Rat.divInt t b))∧∀ (q:Rat) M',P q→o7 p M M'→R (d7 q) M'):=propext ⟨fun z=>by obtain ⟨_,_,_,_,_⟩:=z; walk_at "inj",fun h=>⟨p,x,y,rfl,h⟩⟩
def a30:DSp:=fun ds M R Y=>∃ (p:Addr) (G:Rat),ds=[.ref p,d7 G]∧u6 M p∧(0<G∧sz G≤67)∧∀ (qs:List Rat) M',qs.length≤3→(∀ q∈qs,0≤q∧sz q≤5)→o7 p M M'→R (.vl ((qs.map fun q=>(Str.ofString "gap",G*q)).map f9)) M'
theorem a2R {p:Addr} {G:Rat} {M:Mem} {R:DK} {Y:DXK}:a30 [.ref p,d7 G] M R Y=(u6 M p∧(0<G∧sz G≤67)∧∀ (qs:List Rat) M',qs.length≤3→(∀ q∈qs,0≤q∧sz q≤5)→o7 p M M'→R (.vl ((qs.map fun q=>(Str.ofString "gap",G*q)).map f9)) M'):=propext ⟨fun z=>by obtain ⟨_,_,_,_⟩:=z; walk_at "inj",fun h=>⟨p,G,rfl,h⟩⟩
def a02:DSp:=fun ds M R Y=>∃ (p:Addr) (x:D) (n:Int),ds=[.ref p,x,.int n]∧u6 M p∧∃ bs:List (Str × Rat),x = .vl (bs.map f9)∧(0≤n∧n≤4∧bs.length≤20)∧∀ (cs:List (Str × Rat)) M',cs.length≤bs.length+n.toNat→cs.filter D5=bs.filter D5→(∀ x∈cs,x∈bs∨(x.1 = "stop" ∧ 0<x.2∧sz x.2≤10))→o7 p M M'→R (.vl (cs.map f9)) M'
theorem a2V {p:Addr} {x:D} {n:Int} {M:Mem} {R:DK} {Y:DXK}:a02 [.ref p,x,.int n] M R Y=(u6 M p∧∃ bs:List (Str × Rat),x = .vl (bs.map f9)∧(0≤n∧n≤4∧bs.length≤20)∧∀ (cs:List (Str × Rat)) M',cs.length≤bs.length+n.toNat→cs.filter D5=bs.filter D5→(∀ x∈cs,x∈bs∨(x.1 = "stop" ∧ 0<x.2∧sz x.2≤10))→o7 p M M'→R (.vl (cs.map f9)) M'):=propext ⟨fun z=>by obtain ⟨_,_,_,_,_⟩:=z; walk_at "inj",fun h=>⟨p,x,n,rfl,h⟩⟩
def a5v:DSp:=fun ds M R Y=>∃ (p:Addr),ds=[.ref p]∧u6 M p∧∀ (near:Rat) (bs:List (Str × Rat)) (far:Rat) M',p9 near bs far→bs.length≤7→B1 bs≤4→o7 p M M'→R (.tup [d7 near,.vl (bs.map f9),d7 far]) M'
theorem a7A {p:Addr} {M:Mem} {R:DK} {Y:DXK}:a5v [.ref p] M R Y=(u6 M p∧∀ (near:Rat) (bs:List (Str × Rat)) (far:Rat) M',p9 near bs far→bs.length≤7→B1 bs≤4→o7 p M M'→R (.tup [d7 near,.vl (bs.map f9),d7 far]) M'):=propext ⟨fun z=>by obtain ⟨_,_,_⟩:=z; walk_at "inj",fun h=>⟨p,rfl,h⟩⟩
theorem a5b {G near far:Rat} {bs cs:List (Str × Rat)} (hp:0<G.num) (hG:sz G≤67) (hn:sz (near*G)≤5) (hf:sz (far*G)≤5) (zn:sz near≤80) (zf:sz far≤80)
  (hb:∀ x∈bs,sz (p8 (1 / G) x).2≤5∧sz x.2≤80∧((x.1 = "gap" ∧ 0≤x.2)∨x.1 = "glass")) (hl:bs.length≤4) (hc:cs.length≤7) (hfl:cs.filter D5=bs.filter D5)
  (hm:∀ x∈cs,x∈bs∨(x.1 = "stop" ∧ 0<x.2∧sz x.2≤10)):p9 near cs far∧cs.length≤7∧B1 cs≤4:=by
 have ha:B1 cs≤4:=by
  unfold B1; rw [hfl]; exact Nat.le_trans (List.length_filter_le _ _) hl
 refine ⟨⟨⟨G,hp,hG,hn,hf,fun x hx h=>?_⟩,by omega,by omega,fun x hx=>?_,zn,zf⟩,hc,ha⟩
 ·rcases hm x hx with h1 | ⟨h1,_⟩
  ·exact (hb x h1).1
  ·unfold D5 at h; rw [h1] at h; exact absurd h (by decide)
 ·rcases hm x hx with h1 | ⟨h1,h2,h3⟩
  ·obtain ⟨_,h2,h3⟩:=hb x h1
   exact ⟨h2,h3.elim .inl fun h=>.inr (.inl h)⟩
  ·exact ⟨by omega,.inr (.inr ⟨h1,h2⟩)⟩
theorem b1x {G q:Rat} (h:G≠0):(p8 (1 / G) (Str.ofString "gap",G*q)).2=q:=by
 show (if Str.ofString "gap" = Str.ofString "gap" then (Str.ofString "gap",1 / G*(G*q)) else _).2=q
 rw [if_pos rfl]
 show 1 / G*(G*q)=q
 grind
theorem b03 (x:Str × Rat):(p8 (1 / 1) x).2=x.2:=by
 unfold p8
 split
 ·show 1 / 1*x.2=x.2; grind
 ·split
  ·show x.2 / (1 / 1)=x.2; grind
  ·rfl
theorem a5P {G:Rat} (h:0<G.num) {n b:Int} (hb:b≠0):Rat.divInt (n*(G.den:Int)) (b*G.num)=(n:Rat) / (b:Rat) / G:=by
 have hd:(G.den:Rat)≠0:=by
  intro z; exact G.den_nz (by exact_mod_cast z)
 have e:=v7 G
 have g0:=a6T h
 have b0:(b:Rat)≠0:=by
  intro z; exact hb (by exact_mod_cast z)
 rw [Rat.divInt_eq_div,Rat.intCast_mul,Rat.intCast_mul,Rat.intCast_natCast,← e]
 grind
theorem b1k {G:Rat} (h0:0<G) (hG:sz G≤67) {qs:List Rat} (hl:qs.length≤3) (hq:∀ q∈qs,0≤q∧sz q≤5) {cs:List (Str × Rat)} (hc:cs.length≤7)
  (hfl:cs.filter D5=(qs.map fun q=>(Str.ofString "gap",G*q)).filter D5) (hm:∀ x∈cs,x∈(qs.map fun q=>(Str.ofString "gap",G*q))∨(x.1 = "stop" ∧ 0<x.2∧sz x.2≤10)) {n f b:Int}
  (hn:n.natAbs≤13) (hf:f.natAbs≤13) (hb:b=1∨b=2):p9 ((n:Rat) / (b:Rat) / G) cs ((f:Rat) / (b:Rat) / G)∧cs.length≤7∧B1 cs≤4:=by
 have hp:0<G.num:=a6Z h0
 have g0:=a6T hp
 have sm:∀ k:Int,k.natAbs≤13→sz ((k:Rat) / (b:Rat))≤5:=fun k hk=>by
  have:=a39 (t:=k) (b:=b) (k:=5) (by decide) (show k.natAbs<32 by omega) (by omega) (show b.natAbs<32 by omega)
  rw [Rat.divInt_eq_div] at this
  exact this
 have z1:=RM.U9 ((n:Rat) / (b:Rat)) G g0
 have z2:=RM.U9 ((f:Rat) / (b:Rat)) G g0
 have y1:=sm n hn
 have y2:=sm f hf
 refine a5b hp hG ?_ ?_ (by omega) (by omega) (fun x hx=>?_) (by rw [List.length_map]; omega) hc hfl hm
 ·rw [show (n:Rat) / (b:Rat) / G*G=(n:Rat) / (b:Rat) by grind]; exact y1
 ·rw [show (f:Rat) / (b:Rat) / G*G=(f:Rat) / (b:Rat) by grind]; exact y2
 ·obtain ⟨q,h1,rfl⟩:=List.mem_map.mp hx
  have h2:=hq q h1
  have z3:=RM.D7 G q
  exact ⟨by rw [b1x g0]; exact h2.2,by show sz (G*q)≤80; omega,.inl ⟨rfl,Rat.mul_nonneg (Rat.le_of_lt h0) h2.1⟩⟩
theorem a5z {near far:Rat} {bs cs:List (Str × Rat)} (hn:sz near≤5) (hf:sz far≤5) (hb:∀ x∈bs,sz x.2≤5∧((x.1 = "gap" ∧ 0≤x.2)∨x.1 = "glass")) (hl:bs.length≤4) (hc:cs.length≤7) (hfl:cs.filter D5=bs.filter D5)
  (hm:∀ x∈cs,x∈bs∨(x.1 = "stop" ∧ 0<x.2∧sz x.2≤10)):p9 near cs far∧cs.length≤7∧B1 cs≤4 :=
 a5b (G:=1) (by decide) (by rw [RM.U8]; decide) (by rw [show near*1=near by grind]; exact hn) (by rw [show far*1=far by grind]; exact hf) (by omega) (by omega)
  (fun x hx=>⟨by rw [b03]; exact (hb x hx).1,Nat.le_trans (hb x hx).1 (by decide),(hb x hx).2⟩) hl hc hfl hm
theorem a3t (bs:List (Str × Rat)):K8 (bs.map f9)=bs.zipIdx.map fun x=>D.tup [.int (x.2:Int),f9 x.1]:=by
 unfold K8
 refine List.ext_getElem (by simp) fun i h1 h2=>?_
 simp
def g7 (near:Rat) (bs:List (Str × Rat)) (far:Rat):List (D × D × (Str × Rat)):=(bs.zipIdx.map fun x=>(D.str "forth",D.int (x.2:Int),x.1))++[(.non,.non,(Str.ofString "glass",far))]++(bs.zipIdx.reverse.map fun x=>(D.str "back",D.int (x.2:Int),x.1))++[(.non,.non,(Str.ofString "glass",near))]
theorem a8u (near far:Rat) (bs:List (Str × Rat)):e9 near bs far=(g7 near bs far).map fun z=>z.2.2:=by
 unfold e9 g7
 simp only [List.map_append,List.map_map,List.map_cons,List.map_nil,List.map_reverse]
 have e1:∀ w:D,List.map ((fun z:D × D × (Str × Rat)=>z.2.2) ∘ fun x:(Str × Rat) × Nat=>(w,D.int (x.2:Int),x.1)) bs.zipIdx=bs:=fun w=>by
  have:((fun z:D × D × (Str × Rat)=>z.2.2) ∘ fun x:(Str × Rat) × Nat=>(w,D.int (x.2:Int),x.1))=Prod.fst:=rfl
  rw [this]; exact List.zipIdx_map_fst 0 bs
 rw [e1,e1]
end GM
namespace GM
open PySem PySem.Spec L2 DL
open RM (sz)
theorem a5g {m k:Q4} (h:A0 m=A0 k):m=k:=by
 unfold A0 a0S at h
 injection h with h
 injection h with h1 h
 injection h with h2 h
 injection h with h3 h
 injection h with h4 _
 exact a4w (C2 h1) (C2 h2) (C2 h3) (C2 h4)
theorem b3t {q r:Rat} (h:r*r=q):sz r≤sz q:=by
 have e:=a1z r
 rw [h] at e
 refine RM.a72 (Nat.le_trans (RM.O3 ?_) (RM.F5 q)) (Nat.le_trans (RM.O3 ?_) (RM.A8 q))
 ·rw [e.1,Int.natAbs_mul]; exact Nat.le_mul_self _
 ·rw [e.2]; exact Nat.le_mul_self _
def trQ (m:Q4):Rat:=m.1+m.2.2.2
def Y7 (m:Q4):D:=if m=(1,0,0,1) then .int 1 else if m=(-1,0,0,-1) then .int 2 else if trQ m = -1 then .int 3 else if trQ m=0 then .int 4 else if trQ m=1 then .int 6 else .non
abbrev u7 (m:Q4):Prop:=m=(1,0,0,1)∨m=(-1,0,0,-1)∨trQ m = -1∨trQ m=0∨trQ m=1
theorem b3E {m:Q4} (h:u7 m):∃ n:Int,Y7 m = .int n:=by
 unfold Y7
 by_cases h1:m=(1,0,0,1)
 ·exact ⟨1,if_pos h1⟩
 ·rw [if_neg h1]
  by_cases h2:m=(-1,0,0,-1)
  ·exact ⟨2,if_pos h2⟩
  ·rw [if_neg h2]
   by_cases h3:trQ m = -1
   ·exact ⟨3,if_pos h3⟩
   ·rw [if_neg h3]
    by_cases h4:trQ m=0
    ·exact ⟨4,if_pos h4⟩
    ·rw [if_neg h4]
     by_cases h5:trQ m=1
     ·exact ⟨6,if_pos h5⟩
     ·rcases h with h | h | h | h | h <;> contradiction
theorem b3D {m:Q4} (h:¬ u7 m):Y7 m = .non:=by
 unfold u7 at h
 unfold Y7
 rw [if_neg (fun e=>h (.inl e)),if_neg (fun e=>h (.inr (.inl e))),if_neg (fun e=>h (.inr (.inr (.inl e)))),if_neg (fun e=>h (.inr (.inr (.inr (.inl e))))),if_neg (fun e=>h (.inr (.inr (.inr (.inr e)))))]
def kwS (m:Q4):Str:=if u7 m then "same" else if f7 (trQ m)=2 then "shear" else if f7 (trQ m)<2 then "turns" else "off"
def b1A (m:Q4):D:=.tup [d7 m.2.2.1,d7 (m.2.2.2 - m.1),d7 (-m.2.1)]
def a4D (m:Q4):D:=if m.2.1=0 then A5 0 1 else A5 m.2.1 (trQ m / 2 - m.1)
def a6g (t:Rat) (v:D):Prop:=(∃ r:Rat,0≤r∧r*r=t*t - 4∧v=d7 ((t - (if t<0 then -r else r)) / 2))∨((∀ r:Rat,r*r≠t*t - 4)∧v = .non)
def a7p (m:Q4) (v:D):Prop:=(kwS m = "same" ∧ v=Y7 m)∨(kwS m = "turns" ∧ v=b1A m)∨(kwS m = "shear" ∧ v=a4D m)∨(kwS m = "off" ∧ a6g (trQ m) v)
theorem b1d (m:Q4):G6 m (1,0,0,1)=m∧G6 (1,0,0,1) m=m∧G6 m (-1,0,0,-1)=(-m.1,-m.2.1,-m.2.2.1,-m.2.2.2)∧G6 (-1,0,0,-1) m=(-m.1,-m.2.1,-m.2.2.1,-m.2.2.2):=by
 refine ⟨?_,?_,?_,?_⟩ <;> (refine a4w ?_ ?_ ?_ ?_ <;> (simp only [G6]; grind))
theorem p9.rev {near far:Rat} {bs:List (Str × Rat)} (h:p9 near bs far):p9 far bs.reverse near:=by
 obtain ⟨G,g1,g2,g3,g4,g5⟩:=h.ex
 exact ⟨⟨G,g1,g2,g4,g3,fun x hx=>g5 x (List.mem_reverse.mp hx)⟩,by rw [a6d]; exact h.act,by rw [List.length_reverse]; exact h.len,fun x hx=>h.part x (List.mem_reverse.mp hx),h.zf,h.zn⟩
def O5 (m:Q4) (r:Rat × Rat):Nat→Rat × Rat
 | 0=>r
 | k+1=>(m.1*(O5 m r k).1+m.2.1*(O5 m r k).2,m.2.2.1*(O5 m r k).1+m.2.2.2*(O5 m r k).2)
theorem a6R (m:Q4) (r:Rat × Rat):∀ k,O5 m r k=((pwQ m k).1*r.1+(pwQ m k).2.1*r.2,(pwQ m k).2.2.1*r.1+(pwQ m k).2.2.2*r.2)
 | 0=>by
  show r=_
  simp only [pwQ]
  exact Prod.ext (by grind) (by grind)
 | k+1=>by
  have ih:=a6R m r k
  show (_,_)=_
  rw [ih]
  simp only [pwQ,G6]
  exact Prod.ext (by grind) (by grind)
theorem b6G {m:Q4} (hd:W9 m=1) (r:Rat × Rat) (p q:Rat) (k:Nat):p*(O5 m r (k+2)).1+q*(O5 m r (k+2)).2=trQ m*(p*(O5 m r (k+1)).1+q*(O5 m r (k+1)).2) - (p*(O5 m r k).1+q*(O5 m r k).2):=by
 have hd':m.1*m.2.2.2 - m.2.1*m.2.2.1=1:=hd
 simp only [O5,trQ]
 grind
local macro_rules | `(tactic| walk_at "inj")=>`(tactic| (rename_i e h; simp only [List.cons.injEq,and_true,true_and,GM.j3,GM.i0,GM.g8,GM.i3,GM.g9,D.tup.injEq,D.ref.injEq,D.int.injEq,D.str.injEq,D.bl.injEq,D.vl.injEq,Int.natCast_inj,and_assoc] at e; (repeat (obtain ⟨e1,e⟩:=e; subst e1)); subst e; exact h))
local macro_rules | `(tactic| walk_at "injs")=>`(tactic| (rename_i e o h; rcases o with o | o <;> (subst o; first | (exfalso; simp only [D.tup.injEq,List.cons.injEq,reduceCtorEq,false_and,and_false] at e; done) | (simp only [List.cons.injEq,and_true,true_and,GM.j3,GM.i0,GM.g8,GM.i3,GM.g9,D.tup.injEq,D.ref.injEq,D.int.injEq,D.str.injEq,D.bl.injEq,D.vl.injEq,Int.natCast_inj,and_assoc] at e; (repeat (obtain ⟨e1,e⟩:=e; subst e1)); subst e; exact h))))
def a3X:DSp:=fun ds M R Y=>∃ (x:D),ds=[x]∧∃ m:Q4,x=A0 m∧CDQ 230 m∧R (d7 (trQ m)) M
theorem a9C {x:D} {M:Mem} {R:DK} {Y:DXK}:a3X [x] M R Y=(∃ m:Q4,x=A0 m∧CDQ 230 m∧R (d7 (trQ m)) M):=propext ⟨fun z=>by obtain ⟨_,_,_⟩:=z; walk_at "inj",fun h=>⟨x,rfl,h⟩⟩
def a85:DSp:=fun ds M R Y=>∃ (x:D),ds=[x]∧∃ m:Q4,x=A0 m∧CDQ 230 m∧R (Y7 m) M
theorem a9F {x:D} {M:Mem} {R:DK} {Y:DXK}:a85 [x] M R Y=(∃ m:Q4,x=A0 m∧CDQ 230 m∧R (Y7 m) M):=propext ⟨fun z=>by obtain ⟨_,_,_⟩:=z; walk_at "inj",fun h=>⟨x,rfl,h⟩⟩
def sKw:DSp:=fun ds M R Y=>∃ (x:D),ds=[x]∧∃ m:Q4,x=A0 m∧CDQ 230 m∧R (.str (kwS m)) M
theorem b5o {x:D} {M:Mem} {R:DK} {Y:DXK}:sKw [x] M R Y=(∃ m:Q4,x=A0 m∧CDQ 230 m∧R (.str (kwS m)) M):=propext ⟨fun z=>by obtain ⟨_,_,_⟩:=z; walk_at "inj",fun h=>⟨x,rfl,h⟩⟩
def a35:DSp:=fun ds M R Y=>∃ (x:D),ds=[x]∧∃ m:Q4,x=A0 m∧CDQ 230 m∧R (b1A m) M
theorem a2W {x:D} {M:Mem} {R:DK} {Y:DXK}:a35 [x] M R Y=(∃ m:Q4,x=A0 m∧CDQ 230 m∧R (b1A m) M):=propext ⟨fun z=>by obtain ⟨_,_,_⟩:=z; walk_at "inj",fun h=>⟨x,rfl,h⟩⟩
def a6P:DSp:=fun ds M R Y=>∃ (x:D),ds=[x]∧∃ m:Q4,x=A0 m∧CDQ 230 m∧R (a4D m) M
theorem a4Y {x:D} {M:Mem} {R:DK} {Y:DXK}:a6P [x] M R Y=(∃ m:Q4,x=A0 m∧CDQ 230 m∧R (a4D m) M):=propext ⟨fun z=>by obtain ⟨_,_,_⟩:=z; walk_at "inj",fun h=>⟨x,rfl,h⟩⟩
def b6A:DSp:=fun ds M R Y=>∃ (t:Rat),ds=[d7 t]∧sz t≤231∧∀ v,a6g t v→R v M
theorem a9E {t:Rat} {M:Mem} {R:DK} {Y:DXK}:b6A [d7 t] M R Y=(sz t≤231∧∀ v,a6g t v→R v M):=propext ⟨fun z=>by obtain ⟨_,_,_⟩:=z; walk_at "inj",fun h=>⟨t,rfl,h⟩⟩
end GM
namespace GM
open PySem PySem.Spec L2 DL
open RM (sz)
theorem a2b (a b:Rat):f7 (a*b)=f7 a*f7 b:=by
 have h1:=a4G (a*b)
 have h2:0≤f7 a*f7 b:=Rat.mul_nonneg (a4G a) (a4G b)
 have h3:=a4F (a*b)
 have h4:=a4F a
 have h5:=a4F b
 have e:f7 (a*b)*f7 (a*b)=(f7 a*f7 b)*(f7 a*f7 b):=by grind
 have f:(f7 (a*b) - f7 a*f7 b)*(f7 (a*b)+f7 a*f7 b)=0:=by grind
 rcases Rat.mul_eq_zero.mp f with z | z <;> grind
theorem b6E {m:Q4} (hd:W9 m=1) (h:u7 m):∃ n:Nat,Y7 m = .int (n:Int)∧(n=1∨n=2∨n=3∨n=4∨n=6)∧pwQ m n=(1,0,0,1):=by
 have e:=b5O hd
 unfold Y7
 by_cases h1:m=(1,0,0,1)
 ·exact ⟨1,by rw [if_pos h1]; rfl,by decide,by rw [h1]; decide +kernel⟩
 ·rw [if_neg h1]
  by_cases h2:m=(-1,0,0,-1)
  ·exact ⟨2,by rw [if_pos h2]; rfl,by decide,by rw [h2]; decide +kernel⟩
  ·rw [if_neg h2]
   by_cases h3:trQ m = -1
   ·refine ⟨3,by rw [if_pos h3]; rfl,by decide,?_⟩
    have h3':m.1+m.2.2.2 = -1:=h3
    rw [e 3]
    simp only [xwQ,h3']
    exact a4w (by grind) (by grind) (by grind) (by grind)
   ·rw [if_neg h3]
    by_cases h4:trQ m=0
    ·refine ⟨4,by rw [if_pos h4]; rfl,by decide,?_⟩
     have h3':m.1+m.2.2.2=0:=h4
     rw [e 4]
     simp only [xwQ,h3']
     exact a4w (by grind) (by grind) (by grind) (by grind)
    ·rw [if_neg h4]
     by_cases h5:trQ m=1
     ·refine ⟨6,by rw [if_pos h5]; rfl,by decide,?_⟩
      have h3':m.1+m.2.2.2=1:=h5
      rw [e 6]
      simp only [xwQ,h3']
      exact a4w (by grind) (by grind) (by grind) (by grind)
     ·rcases h with h | h | h | h | h <;> contradiction
theorem b6x {t r:Rat} (h:¬ f7 t<2) (h2:¬ f7 t=2) (r0:0≤r) (r1:r*r=t*t - 4):∀ k,k=(t - (if t<0 then -r else r)) / 2→k<1∧-1<k∧k*k - t*k+1=0:=by
 intro k hk
 unfold f7 at h h2
 by_cases ht:t<0
 ·rw [if_pos ht] at hk
  rw [if_neg (by grind)] at h h2
  have e:k+k=t+r:=by grind
  have hr:r < -t:=by
   rcases Rat.le_total (a:=r) (b:=(-t)) with z | z
   ·rcases Decidable.em (r = -t) with y | y
    ·exfalso; rw [y] at r1; grind
    ·grind
   ·exfalso
    have:-t * -t≤r*r:=Rat.le_trans (Rat.mul_le_mul_of_nonneg_left z (by grind)) (Rat.mul_le_mul_of_nonneg_right z r0)
    grind
  have kk:k*k - t*k+1=0:=by grind
  refine ⟨by grind,?_,kk⟩
  rcases Rat.le_total (a:=k) (b:=(-1)) with z | z
  ·exfalso
   have e2:(k+1)*(k - t - 1)=k*k - t*k - t - 1:=by grind
   have e3:k - t - 1≥0:=by grind
   have:0≤(-1 - k)*(k - t - 1):=Rat.mul_nonneg (by grind) (by grind)
   grind
  ·rcases Decidable.em (k = -1) with y | y
   ·exfalso; rw [y] at kk; grind
   ·grind
 ·rw [if_neg ht] at hk
  rw [if_pos (by grind)] at h h2
  have e:k+k=t - r:=by grind
  have kk:k*k - t*k+1=0:=by grind
  have hr:r<t:=by
   rcases Rat.le_total (a:=r) (b:=t) with z | z
   ·rcases Decidable.em (r=t) with y | y
    ·exfalso; rw [y] at r1; grind
    ·grind
   ·exfalso
    have:t*t≤r*r:=Rat.le_trans (Rat.mul_le_mul_of_nonneg_left z (by grind)) (Rat.mul_le_mul_of_nonneg_right z r0)
    grind
  refine ⟨?_,by grind,kk⟩
  rcases Rat.le_total (a:=1) (b:=k) with z | z
  ·exfalso
   have:0≤(k - 1)*(t - 1 - k):=Rat.mul_nonneg (by grind) (by grind)
   grind
  ·rcases Decidable.em (k=1) with y | y
   ·exfalso; rw [y] at kk; grind
   ·grind
theorem K5 (m:Q4):(u7 m∧kwS m=Str.ofString "same")∨(¬ u7 m∧f7 (trQ m)=2∧kwS m=Str.ofString "shear")∨(¬ u7 m∧¬ f7 (trQ m)=2∧f7 (trQ m)<2∧kwS m=Str.ofString "turns")∨(¬ u7 m∧¬ f7 (trQ m)=2∧¬ f7 (trQ m)<2∧kwS m=Str.ofString "off"):=by
 unfold kwS
 by_cases h1:u7 m
 ·exact .inl ⟨h1,if_pos h1⟩
 ·rw [if_neg h1]
  by_cases h2:f7 (trQ m)=2
  ·exact .inr (.inl ⟨h1,h2,if_pos h2⟩)
  ·rw [if_neg h2]
   by_cases h3:f7 (trQ m)<2
   ·exact .inr (.inr (.inl ⟨h1,h2,h3,if_pos h3⟩))
   ·exact .inr (.inr (.inr ⟨h1,h2,h3,if_neg h3⟩))
def hD (h:Rat × List (Str × Rat) × Rat):D:=.tup [d7 h.1,.vl (h.2.1.map f9),d7 h.2.2]
local macro_rules | `(tactic| walk_at "inj")=>`(tactic| (rename_i e h; simp only [List.cons.injEq,and_true,true_and,GM.j3,GM.i0,GM.g8,GM.i3,GM.g9,D.tup.injEq,D.ref.injEq,D.int.injEq,D.str.injEq,D.bl.injEq,D.vl.injEq,Int.natCast_inj,and_assoc] at e; (repeat (obtain ⟨e1,e⟩:=e; subst e1)); subst e; exact h))
local macro_rules | `(tactic| walk_at "injs")=>`(tactic| (rename_i e o h; rcases o with o | o <;> (subst o; first | (exfalso; simp only [D.tup.injEq,List.cons.injEq,reduceCtorEq,false_and,and_false] at e; done) | (simp only [List.cons.injEq,and_true,true_and,GM.j3,GM.i0,GM.g8,GM.i3,GM.g9,D.tup.injEq,D.ref.injEq,D.int.injEq,D.str.injEq,D.bl.injEq,D.vl.injEq,Int.natCast_inj,and_assoc] at e; (repeat (obtain ⟨e1,e⟩:=e; subst e1)); subst e; exact h))))
end GM
namespace GM
open PySem PySem.Spec L2 DL
open RM (sz)
local macro_rules | `(tactic| walk_at "inj")=>`(tactic| (rename_i e h; simp only [List.cons.injEq,and_true,true_and,GM.j3,GM.i0,GM.g8,GM.i3,GM.g9,D.tup.injEq,D.ref.injEq,D.int.injEq,D.str.injEq,D.bl.injEq,D.vl.injEq,Int.natCast_inj,and_assoc] at e; (repeat (obtain ⟨e1,e⟩:=e; subst e1)); subst e; exact h))
local macro_rules | `(tactic| walk_at "injs")=>`(tactic| (rename_i e o h; rcases o with o | o <;> (subst o; first | (exfalso; simp only [D.tup.injEq,List.cons.injEq,reduceCtorEq,false_and,and_false] at e; done) | (simp only [List.cons.injEq,and_true,true_and,GM.j3,GM.i0,GM.g8,GM.i3,GM.g9,D.tup.injEq,D.ref.injEq,D.int.injEq,D.str.injEq,D.bl.injEq,D.vl.injEq,Int.natCast_inj,and_assoc] at e; (repeat (obtain ⟨e1,e⟩:=e; subst e1)); subst e; exact h))))
def a3W:DSp:=fun ds M R Y=>∃ (x0:D) (xs:List D),ds=[x0]∧(x0 = .vl (xs)∨x0 = .tup (xs))∧R (.vl xs.reverse) M
theorem a4Q {xs:List D} {M:Mem} {R:DK} {Y:DXK}:a3W [.vl (xs)] M R Y=(R (.vl xs.reverse) M):=propext ⟨fun z=>by obtain ⟨_,_,_,_,_⟩:=z; walk_at "injs",fun h=>⟨_,xs,rfl,.inl rfl,h⟩⟩
theorem a09 {xs:List D} {M:Mem} {R:DK} {Y:DXK}:a3W [.tup (xs)] M R Y=(R (.vl xs.reverse) M):=propext ⟨fun z=>by obtain ⟨_,_,_,_,_⟩:=z; walk_at "injs",fun h=>⟨_,xs,rfl,.inr rfl,h⟩⟩
def a1H:DSp:=fun ds M R Y=>∃ (x0:D) (near:Rat) (bs:List (Str × Rat)) (far:Rat),ds=[.tup [d7 near,x0,d7 far]]∧(x0 = .vl (bs.map f9)∨x0 = .tup (bs.map f9))∧bs.length≤9∧R (.vl ((e9 near bs far).map f9)) M
theorem a4S {near:Rat} {bs:List (Str × Rat)} {far:Rat} {M:Mem} {R:DK} {Y:DXK}:a1H [.tup [d7 near,.vl (bs.map f9),d7 far]] M R Y=(bs.length≤9∧R (.vl ((e9 near bs far).map f9)) M):=propext ⟨fun z=>by obtain ⟨_,_,_,_,_,_,_⟩:=z; walk_at "injs",fun h=>⟨_,near,bs,far,rfl,.inl rfl,h⟩⟩
theorem a1b {near:Rat} {bs:List (Str × Rat)} {far:Rat} {M:Mem} {R:DK} {Y:DXK}:a1H [.tup [d7 near,.tup (bs.map f9),d7 far]] M R Y=(bs.length≤9∧R (.vl ((e9 near bs far).map f9)) M):=propext ⟨fun z=>by obtain ⟨_,_,_,_,_,_,_⟩:=z; walk_at "injs",fun h=>⟨_,near,bs,far,rfl,.inr rfl,h⟩⟩
def a34:DSp:=fun ds M R Y=>∃ (x0:D) (near:Rat) (bs:List (Str × Rat)) (far:Rat),ds=[.tup [d7 near,x0,d7 far]]∧(x0 = .vl (bs.map f9)∨x0 = .tup (bs.map f9))∧p9 near bs far∧∀ v,a7p (tbQ (e9 near bs far)) v→R (.tup [.str (kwS (tbQ (e9 near bs far))),v]) M
theorem a4W {near:Rat} {bs:List (Str × Rat)} {far:Rat} {M:Mem} {R:DK} {Y:DXK}:a34 [.tup [d7 near,.vl (bs.map f9),d7 far]] M R Y=(p9 near bs far∧∀ v,a7p (tbQ (e9 near bs far)) v→R (.tup [.str (kwS (tbQ (e9 near bs far))),v]) M):=propext ⟨fun z=>by obtain ⟨_,_,_,_,_,_,_⟩:=z; walk_at "injs",fun h=>⟨_,near,bs,far,rfl,.inl rfl,h⟩⟩
theorem a1c {near:Rat} {bs:List (Str × Rat)} {far:Rat} {M:Mem} {R:DK} {Y:DXK}:a34 [.tup [d7 near,.tup (bs.map f9),d7 far]] M R Y=(p9 near bs far∧∀ v,a7p (tbQ (e9 near bs far)) v→R (.tup [.str (kwS (tbQ (e9 near bs far))),v]) M):=propext ⟨fun z=>by obtain ⟨_,_,_,_,_,_,_⟩:=z; walk_at "injs",fun h=>⟨_,near,bs,far,rfl,.inr rfl,h⟩⟩
end GM
namespace GM
open PySem PySem.Spec L2 DL
open RM (sz)
def rtN (m:Q4):Nat:=if m=(1,0,0,1) then 1 else if m=(-1,0,0,-1) then 2 else if trQ m = -1 then 3 else if trQ m=0 then 4 else if trQ m=1 then 6 else 0
theorem a37 (m:Q4) (h:u7 m):Y7 m = .int (rtN m:Int):=by
 unfold Y7 rtN
 by_cases h1:m=(1,0,0,1)
 ·rw [if_pos h1,if_pos h1]; rfl
 ·rw [if_neg h1,if_neg h1]
  by_cases h2:m=(-1,0,0,-1)
  ·rw [if_pos h2,if_pos h2]; rfl
  ·rw [if_neg h2,if_neg h2]
   by_cases h3:trQ m = -1
   ·rw [if_pos h3,if_pos h3]; rfl
   ·rw [if_neg h3,if_neg h3]
    by_cases h4:trQ m=0
    ·rw [if_pos h4,if_pos h4]; rfl
    ·rw [if_neg h4,if_neg h4]
     by_cases h5:trQ m=1
     ·rw [if_pos h5,if_pos h5]; rfl
     ·rcases h with h | h | h | h | h <;> contradiction
theorem b3F {m:Q4} (h:¬ u7 m):rtN m=0:=by
 unfold u7 at h
 unfold rtN
 rw [if_neg (fun e=>h (.inl e)),if_neg (fun e=>h (.inr (.inl e))),if_neg (fun e=>h (.inr (.inr (.inl e)))),if_neg (fun e=>h (.inr (.inr (.inr (.inl e))))),if_neg (fun e=>h (.inr (.inr (.inr (.inr e)))))]
theorem b6F {m:Q4}:u7 m↔0<rtN m:=by
 constructor
 ·intro h
  have e:=a37 m h
  unfold rtN
  rcases h with h | h | h | h | h
  ·rw [if_pos h]; decide
  all_goals (repeat' split)
  all_goals first | decide | contradiction
 ·intro h
  by_cases hs:u7 m
  ·exact hs
  ·rw [b3F hs] at h; omega
theorem a8c (k:Nat):∀ {bs:List (Str × Rat)},(∀ x∈bs,x.1 = "gap" ∨ x.1 = "glass" ∨ x.1 = "stop")→clL (k+2) (bs.map f9)=true
 | [],_=>rfl
 | x :: r,h=>by
  have c:PyData.canLay0 (.str x.1)=true:=by
   rcases h x List.mem_cons_self with e | e | e <;> (rw [e]; decide +kernel)
  have ih:=a8c k (bs:=r) fun y hy=>h y (List.mem_cons_of_mem _ hy)
  rw [List.map_cons]
  show ((PyData.canLay0 (.str x.1) && (cl (k+1) (d7 x.2) && true)) && clL (k+2) (r.map f9))=true
  rw [c,ih]; rfl
theorem p9.cl {near far:Rat} {bs:List (Str × Rat)} (h:p9 near bs far):clL 58 (bs.map f9)=true:=a8c 56 fun x hx=>by
 rcases (h.part x hx).2 with ⟨e,_⟩ | e | ⟨e,_⟩
 ·exact .inl e
 ·exact .inr (.inl e)
 ·exact .inr (.inr e)
theorem a4E {t:Rat}:f7 t<2 ↔ -2<t∧t<2:=by
 unfold f7; split <;> constructor <;> grind
local macro_rules | `(tactic| walk_at "inj")=>`(tactic| (rename_i e h; simp only [List.cons.injEq,and_true,true_and,GM.j3,GM.i0,GM.g8,GM.i3,GM.g9,D.tup.injEq,D.ref.injEq,D.int.injEq,D.str.injEq,D.bl.injEq,D.vl.injEq,Int.natCast_inj,and_assoc] at e; (repeat (obtain ⟨e1,e⟩:=e; subst e1)); subst e; exact h))
local macro_rules | `(tactic| walk_at "injs")=>`(tactic| (rename_i e o h; rcases o with o | o <;> (subst o; first | (exfalso; simp only [D.tup.injEq,List.cons.injEq,reduceCtorEq,false_and,and_false] at e; done) | (simp only [List.cons.injEq,and_true,true_and,GM.j3,GM.i0,GM.g8,GM.i3,GM.g9,D.tup.injEq,D.ref.injEq,D.int.injEq,D.str.injEq,D.bl.injEq,D.vl.injEq,Int.natCast_inj,and_assoc] at e; (repeat (obtain ⟨e1,e⟩:=e; subst e1)); subst e; exact h))))
end GM
namespace GM
open PySem PySem.Spec L2 DL
open RM (sz)
def a2s (t x f:Rat):Rat:=4*(x*x - t*(x*f)+f*f) / (4 - t*t)
theorem b5M {t:Rat} (h1:-2<t) (h2:t<2):0<4 - t*t:=by
 have:0<(2 - t)*(2+t):=Rat.mul_pos (by grind) (by grind)
 grind
theorem b3H {D V B n:Rat} (h1:n≠0) (h2:B≠0) (h3:D≠0):4*(n*V*B)*n / (B*(D*(n*n)))=4*V / D:=by
 have nz:B*(D*(n*n))≠0:=by
  intro z
  rcases Rat.mul_eq_zero.mp z with z | z
  ·exact h2 z
  ·rcases Rat.mul_eq_zero.mp z with z | z
   ·exact h3 z
   ·rcases Rat.mul_eq_zero.mp z with z | z <;> exact h1 z
 have e1:4*(n*V*B)*n / (B*(D*(n*n)))*(B*(D*(n*n)))=4*(n*V*B)*n:=by grind
 have e2:4*V / D*D=4*V:=by grind
 have:(4*(n*V*B)*n / (B*(D*(n*n))) - 4*V / D)*(B*(D*(n*n)))=0:=by
  generalize 4*(n*V*B)*n / (B*(D*(n*n)))=L at *
  generalize 4*V / D=W at *
  grind
 rcases Rat.mul_eq_zero.mp this with z | z
 ·grind
 ·exact absurd z nz
theorem D3 {q:Rat} {b:Nat} (h:q.den ∣ b):((q.num*((b:Int).fdiv (q.den:Int)):Int):Rat)=q*(b:Rat)∧(q.num*((b:Int).fdiv (q.den:Int))).natAbs≤q.num.natAbs*b:=by
 obtain ⟨k,rfl⟩:=h
 have e:((q.den*k:Nat):Int).fdiv (q.den:Int)=(k:Int):=by
  rw [I0 (by omega) (by omega),Int.natCast_mul]
  exact Int.mul_ediv_cancel_left _ (by have:=q.den_pos; omega)
 rw [e]
 constructor
 ·rw [Rat.intCast_mul,Rat.natCast_mul,← v7 q,Rat.intCast_natCast]; grind
 ·rw [Int.natAbs_mul,Int.natAbs_natCast]
  exact Nat.mul_le_mul_left _ (Nat.le_mul_of_pos_left k q.den_pos)
theorem b2o {a b:Int} {k:Nat} (h1:a.natAbs<2 ^ k) (h2:b.natAbs<2 ^ k):(a+b).natAbs<2 ^ (k+1):=y9 h1 h2
theorem Y3 {a b:Int} {k:Nat} (h1:a.natAbs<2 ^ k) (h2:b.natAbs<2 ^ k):(a - b).natAbs<2 ^ (k+1):=by
 rw [Int.sub_eq_add_neg]; exact y9 h1 (by rw [Int.natAbs_neg]; exact h2)
theorem p6 {n k l:Nat} (h:n<2 ^ k) (hk:k≤l):n<2 ^ l:=Nat.lt_of_lt_of_le h (Nat.pow_le_pow_right (by decide) hk)
local macro_rules | `(tactic| walk_at "inj")=>`(tactic| (rename_i e h; simp only [List.cons.injEq,and_true,true_and,GM.j3,GM.i0,GM.g8,GM.i3,GM.g9,D.tup.injEq,D.ref.injEq,D.int.injEq,D.str.injEq,D.bl.injEq,D.vl.injEq,Int.natCast_inj,and_assoc] at e; (repeat (obtain ⟨e1,e⟩:=e; subst e1)); subst e; exact h))
local macro_rules | `(tactic| walk_at "injs")=>`(tactic| (rename_i e o h; rcases o with o | o <;> (subst o; first | (exfalso; simp only [D.tup.injEq,List.cons.injEq,reduceCtorEq,false_and,and_false] at e; done) | (simp only [List.cons.injEq,and_true,true_and,GM.j3,GM.i0,GM.g8,GM.i3,GM.g9,D.tup.injEq,D.ref.injEq,D.int.injEq,D.str.injEq,D.bl.injEq,D.vl.injEq,Int.natCast_inj,and_assoc] at e; (repeat (obtain ⟨e1,e⟩:=e; subst e1)); subst e; exact h))))
def a6M:DSp:=fun ds M R Y=>∃ (p q y u:Rat),ds=[d7 p,d7 q,A5 y u]∧sz p+sz y+(sz q+sz u)≤8900∧R (d7 (p*y+q*u)) M
theorem a4U {p q y u:Rat} {M:Mem} {R:DK} {Y:DXK}:a6M [d7 p,d7 q,A5 y u] M R Y=(sz p+sz y+(sz q+sz u)≤8900∧R (d7 (p*y+q*u)) M):=propext ⟨fun z=>by obtain ⟨_,_,_,_,_,_⟩:=z; walk_at "inj",fun h=>⟨p,q,y,u,rfl,h⟩⟩
end GM
namespace GM
open PySem PySem.Spec L2 DL
open RM (sz)
def B9 (L:List (Str × Rat)):Nat→List (Rat × Rat × Rat)
 | 0=>[]
 | i+1=>B9 L i++(match L[i]? with | some x=>if x.1 = "stop" then [((h8 (L.take i) (1,0)).1,(h8 (L.take i) (0,1)).1,x.2)] else [] | none=>[])
def D8 (T:List (D × D × (Str × Rat))):Nat→List (D × D)
 | 0=>[]
 | i+1=>D8 T i++(match T[i]? with | some x=>if x.2.2.1 = "stop" then [(x.1,x.2.1)] else [] | none=>[])
def hlD (w:D × D) (l:Rat × Rat × Rat):D:=.tup [w.1,w.2,m8 l]
def hlN (T:List (D × D × (Str × Rat))) (i:Nat):List D:=List.zipWith hlD (D8 T i) (B9 (T.map fun z=>z.2.2) i)
theorem a3F (T:List (D × D × (Str × Rat))):∀ i,(D8 T i).length=(B9 (T.map fun z=>z.2.2) i).length
 | 0=>rfl
 | i+1=>by
  have ih:=a3F T i
  unfold D8 B9
  rw [List.length_append,List.length_append,ih,List.getElem?_map]
  cases T[i]? with
  | none=>rfl
  | some x =>
   show _+(if x.2.2.1 = "stop" then [(x.1,x.2.1)] else []).length=_+(if x.2.2.1 = "stop" then _ else []).length
   split <;> rfl
theorem O9 (L:List (Str × Rat)):∀ i,(B9 L i).length≤i
 | 0=>Nat.le_refl _
 | i+1=>by
  have ih:=O9 L i
  unfold B9
  rw [List.length_append]
  cases L[i]? with
  | none=>exact Nat.le_succ_of_le ih
  | some x =>
   show _+(if x.1 = "stop" then _ else []).length≤_
   split
   ·exact Nat.succ_le_succ ih
   ·exact Nat.le_succ_of_le ih
theorem a3G {L:List (Str × Rat)} {i:Nat} {x:Str × Rat} (h:L[i]? = some x):B9 L (i+1)=if x.1 = "stop" then B9 L i++[((h8 (L.take i) (1,0)).1,(h8 (L.take i) (0,1)).1,x.2)] else B9 L i:=by
 show B9 L i++(match L[i]? with | some x=>if x.1 = "stop" then [((h8 (L.take i) (1,0)).1,(h8 (L.take i) (0,1)).1,x.2)] else [] | none=>[])=_
 rw [h]
 show B9 L i++(if x.1 = "stop" then _ else [])=_
 split
 ·rfl
 ·exact List.append_nil _
theorem G7 (T:List (D × D × (Str × Rat))):∀ i,D8 T i=((T.take i).filter fun z=>z.2.2.1 == Str.ofString "stop").map fun z=>(z.1,z.2.1)
 | 0=>rfl
 | i+1=>by
  have ih:=G7 T i
  unfold D8
  rw [ih,List.take_add_one,List.filter_append,List.map_append]
  cases h:T[i]? with
  | none=>rfl
  | some x =>
   show _++(if x.2.2.1 = "stop" then [(x.1,x.2.1)] else [])=_++((List.filter _ [x]).map _)
   by_cases e:x.2.2.1=Str.ofString "stop"
   ·rw [if_pos e,List.filter_cons,if_pos (by rw [e]; exact beq_self_eq_true _)]; rfl
   ·rw [if_neg e,List.filter_cons,if_neg (fun z=>e (eq_of_beq z))]; rfl
def frW (bs:List (Str × Rat)):List ((Str × Rat) × Nat):=bs.zipIdx.filter fun x=>x.1.1 == Str.ofString "stop"
theorem a80 (near far:Rat) (bs:List (Str × Rat)):D8 (g7 near bs far) (g7 near bs far).length=((frW bs).map fun x=>(D.str "forth",D.int (x.2:Int)))++((frW bs).reverse.map fun x=>(D.str "back",D.int (x.2:Int))):=by
 rw [G7,List.take_length]
 unfold g7 frW
 rw [List.filter_append,List.filter_append,List.filter_append,List.filter_map,List.filter_map,List.map_append,List.map_append,List.map_append,List.map_map,List.map_map]
 have g:∀ q:Rat,List.filter (fun z:D × D × (Str × Rat)=>z.2.2.1 == Str.ofString "stop") [(D.non,D.non,(Str.ofString "glass",q))]=[]:=fun q=>by
  rw [List.filter_cons,if_neg (by show ¬ (Str.ofString "glass" == Str.ofString "stop")=true; decide)]; rfl
 rw [g,g,List.map_nil,List.append_nil,List.append_nil,List.filter_reverse]
 rfl
theorem F1 (near far:Rat) (bs:List (Str × Rat)):(g7 near bs far).map (fun z=>z.2.2)=e9 near bs far:=(a8u near far bs).symm
theorem K7 (near far:Rat) (bs:List (Str × Rat)):(g7 near bs far).length=(e9 near bs far).length:=by rw [a8u,List.length_map]
def fwD (x:(Str × Rat) × Nat):D:=.tup [.str "forth",.int (x.2:Int)]
def bwD (x:(Str × Rat) × Nat):D:=.tup [.str "back",.int (x.2:Int)]
def prD (w:D × D):D:=.tup [w.1,w.2]
theorem b7y (near far:Rat) (bs:List (Str × Rat)):(frW bs).map fwD++(frW bs).reverse.map bwD=(D8 (g7 near bs far) (g7 near bs far).length).map prD:=by
 rw [a80,List.map_append,List.map_map,List.map_map]; rfl
theorem b7s (near far:Rat) (bs:List (Str × Rat)):((D8 (g7 near bs far) (g7 near bs far).length).zip (B9 (e9 near bs far) (e9 near bs far).length)).map (fun z=>hlD z.1 z.2)=hlN (g7 near bs far) (g7 near bs far).length:=by
 unfold hlN
 rw [F1,K7,List.zip_eq_zipWith,List.map_zipWith]
theorem b6b (ws:List (D × D)) (ls:List (Rat × Rat × Rat)):U6 (ws.map prD) (ls.map m8)=(ws.zip ls).map fun z=>D.tup [prD z.1,m8 z.2]:=by
 unfold U6
 rw [List.zip_eq_zipWith,List.map_zipWith]
 rw [List.zipWith_map]
theorem b4D (bs:List (Str × Rat)):(frW bs).length≤bs.length:=by
 unfold frW
 have:=List.length_filter_le (fun x:(Str × Rat) × Nat=>x.1.1 == Str.ofString "stop") bs.zipIdx
 rw [List.length_zipIdx] at this
 exact this
theorem a19 {k:Nat} {ds:List D} (h:∀ d∈ds,cl k d=true):clL k ds=true:=by
 induction ds with
 | nil=>rfl
 | cons d r ih=>show (cl k d && clL k r)=true; rw [h d List.mem_cons_self,ih fun x hx=>h x (List.mem_cons_of_mem _ hx)]; rfl
theorem a11 {near far:Rat} {bs:List (Str × Rat)} {z:D × D × (Str × Rat)} (h:z∈g7 near bs far) (k:Nat):cl (k+1) z.1=true∧cl (k+1) z.2.1=true:=by
 have f:cl (k+1) (D.str (Str.ofString "forth"))=true:=by show PyData.canLay0 (.str (Str.ofString "forth"))=true; decide +kernel
 have b:cl (k+1) (D.str (Str.ofString "back"))=true:=by show PyData.canLay0 (.str (Str.ofString "back"))=true; decide +kernel
 unfold g7 at h
 rcases List.mem_append.mp h with h | h
 ·rcases List.mem_append.mp h with h | h
  ·rcases List.mem_append.mp h with h | h
   ·obtain ⟨x,_,rfl⟩:=List.mem_map.mp h
    exact ⟨f,rfl⟩
   ·rw [List.mem_singleton.mp h]; exact ⟨rfl,rfl⟩
  ·obtain ⟨x,_,rfl⟩:=List.mem_map.mp h
   exact ⟨b,rfl⟩
 ·rw [List.mem_singleton.mp h]; exact ⟨rfl,rfl⟩
theorem a8s (near far:Rat) (bs:List (Str × Rat)):hlN (g7 near bs far) (g7 near bs far).length=((D8 (g7 near bs far) (g7 near bs far).length).zip (B9 (e9 near bs far) (g7 near bs far).length)).map (fun z=>hlD z.1 z.2):=by
 unfold hlN
 rw [F1,List.zip_eq_zipWith,List.map_zipWith]
local macro_rules | `(tactic| walk_at "inj")=>`(tactic| (rename_i e h; simp only [List.cons.injEq,and_true,true_and,GM.j3,GM.i0,GM.g8,GM.i3,GM.g9,D.tup.injEq,D.ref.injEq,D.int.injEq,D.str.injEq,D.bl.injEq,D.vl.injEq,Int.natCast_inj,and_assoc] at e; (repeat (obtain ⟨e1,e⟩:=e; subst e1)); subst e; exact h))
local macro_rules | `(tactic| walk_at "injs")=>`(tactic| (rename_i e o h; rcases o with o | o <;> (subst o; first | (exfalso; simp only [D.tup.injEq,List.cons.injEq,reduceCtorEq,false_and,and_false] at e; done) | (simp only [List.cons.injEq,and_true,true_and,GM.j3,GM.i0,GM.g8,GM.i3,GM.g9,D.tup.injEq,D.ref.injEq,D.int.injEq,D.str.injEq,D.bl.injEq,D.vl.injEq,Int.natCast_inj,and_assoc] at e; (repeat (obtain ⟨e1,e⟩:=e; subst e1)); subst e; exact h))))
end GM
namespace GM
open PySem PySem.Spec L2 DL
open RM (sz)
structure C3 (near:Rat) (bs:List (Str × Rat)) (far:Rat):Prop where
 cd:∀ i,CDQ 230 (tbQ ((e9 near bs far).take i))
 szs:∀ x∈e9 near bs far,sz x.2≤3000
 len:bs.length≤9
 part:∀ x∈bs,(x.1 = "gap" ∨ x.1 = "glass")∨(x.1 = "stop" ∧ 0<x.2)
theorem p9.w {near far:Rat} {bs:List (Str × Rat)} (h:p9 near bs far):C3 near bs far :=
 ⟨h.cd,fun x hx=>Nat.le_trans (h.szs x hx) (by decide),h.len,fun x hx=>by
  rcases (h.part x hx).2 with h | h | h
  ·exact .inl (.inl h.1)
  ·exact .inl (.inr h)
  ·exact .inr h⟩
theorem b0K {S:Nat} {L:List (Str × Rat)} {y u:Rat} (h:∀ i,CDQ 230 (tbQ (L.take i))) (g:CD S y 0 u 0) (i:Nat):sz ((h8 (L.take i) (1,0)).1*y+(h8 (L.take i) (0,1)).1*u)≤231+S∧sz ((h8 (L.take i) (1,0)).1*(h8 L (y,u)).1+(h8 (L.take i) (0,1)).1*(h8 L (y,u)).2)≤462+S:=by
 have c1:=a38 (h i) g
 have cL:=h L.length
 rw [List.take_length] at cL
 have c2:=a38 cL g
 have c3:=a38 (h i) c2
 have e1:=(S3 (L.take i) y u).1
 have e2:=(S3 (L.take i) (h8 L (y,u)).1 (h8 L (y,u)).2).1
 have t1:=c1.t2.y
 have t3:=c3.t2.y
 rw [e1] at t1
 rw [e2] at t3
 exact ⟨by omega,by omega⟩
theorem O8 {L:List (Str × Rat)}:∀ i,∀ l∈B9 L i,∃ (j:Nat) (x:Str × Rat),L[j]? = some x∧x.1 = "stop" ∧ l=((h8 (L.take j) (1,0)).1,(h8 (L.take j) (0,1)).1,x.2)
 | 0,l,hl=>by cases hl
 | i+1,l,hl=>by
  cases e:L[i]? with
  | none =>
   have:B9 L (i+1)=B9 L i++[]:=by
    show B9 L i++_=_
    rw [e]
   rw [this,List.append_nil] at hl
   exact O8 i l hl
  | some x =>
   rw [a3G e] at hl
   by_cases hx:x.1 = "stop"
   ·rw [if_pos hx] at hl
    rcases List.mem_append.mp hl with hl | hl
    ·exact O8 i l hl
    ·exact ⟨i,x,e,hx,List.mem_singleton.mp hl⟩
   ·rw [if_neg hx] at hl
    exact O8 i l hl
theorem b1f {q:Rat} {T B:Int} (b0:0<B):q.num*B<T*(q.den:Int)↔q<Rat.divInt T B:=by
 have hB:(0:Rat)<(B:Rat):=by exact_mod_cast b0
 have hd:(0:Rat)<(q.den:Rat):=by
  have:=q.den_pos
  exact_mod_cast this
 rw [Rat.divInt_eq_div,Rat.lt_div_iff hB]
 have e:=v7 q
 have e1:(q.num*B<T*(q.den:Int))↔((q.num:Rat)*(B:Rat)<(T:Rat)*(q.den:Rat)):=by
  rw [← Rat.intCast_mul,← Rat.intCast_natCast,← Rat.intCast_mul,Rat.intCast_lt_intCast]
 rw [e1,← e]
 constructor
 ·intro h
  apply Classical.byContradiction
  intro n
  have h1:=Rat.mul_nonneg (a:=q*(B:Rat) - (T:Rat)) (b:=(q.den:Rat)) (by grind) (by grind)
  grind
 ·intro h
  have h1:=Rat.mul_pos (a:=(T:Rat) - q*(B:Rat)) (b:=(q.den:Rat)) (by grind) hd
  grind
def swQ (t x f:Rat):Rat:=x*x - t*(x*f)+f*f
def F9 (m:Q4) (x f r:Rat):Bool :=
 if u7 m then false else if f7 (trQ m)<2 then decide (r*r<a2s (trQ m) x f) else if swQ (trQ m) x f≠0 then true else if f7 (trQ m)=2 then false else decide (f7 x<f7 f∨r<f7 x)
theorem CD.ray2 {y u:Rat} {k l:Nat} (h1:sz y≤k) (h2:sz u≤l):CD (k+l) y 0 u 0:=by
 have n1:=u8 y h1
 have d1:=u0 y h1
 have n2:=u8 u h2
 have d2:=u0 u h2
 have d1':(y.den:Int).natAbs<2 ^ k:=by rw [Int.natAbs_natCast]; exact d1
 have d2':(u.den:Int).natAbs<2 ^ l:=by rw [Int.natAbs_natCast]; exact d2
 have e1:=v7 y
 have e2:=v7 u
 refine ⟨y.num*(u.den:Int),0,u.num*(y.den:Int),0,y.den*u.den,Nat.mul_ne_zero y.den_nz u.den_nz,m6 d1 d2,⟨e7 n1 d2',Nat.two_pow_pos _,by rw [Nat.add_comm k l]; exact e7 n2 d1',Nat.two_pow_pos _⟩,?_,?_,?_,?_⟩
 ·rw [Rat.natCast_mul,Rat.intCast_mul,Rat.intCast_natCast,← e1]; grind
 ·show (0:Rat)*_=((0:Int):Rat); grind
 ·rw [Rat.natCast_mul,Rat.intCast_mul,Rat.intCast_natCast,← e2]; grind
 ·show (0:Rat)*_=((0:Int):Rat); grind
theorem c0D {t k:Rat} (h:k*k - t*k+1=0):sz k≤sz t:=by
 have e1:=v7 k
 have e2:=v7 t
 have kd:(k.den:Rat)≠0:=by intro z; exact k.den_nz (by exact_mod_cast z)
 have tdn:(t.den:Rat)≠0:=by intro z; exact t.den_nz (by exact_mod_cast z)
 have main:(k.num*k.num+(k.den:Int)*(k.den:Int))*(t.den:Int)=t.num*(k.num*(k.den:Int)):=by
  have:(((k.num*k.num+(k.den:Int)*(k.den:Int))*(t.den:Int):Int):Rat)=((t.num*(k.num*(k.den:Int)):Int):Rat):=by
   rw [Rat.intCast_mul,Rat.intCast_add,Rat.intCast_mul,Rat.intCast_mul,Rat.intCast_mul,Rat.intCast_mul,Rat.intCast_natCast,Rat.intCast_natCast,← e1,← e2]
   grind
  exact_mod_cast this
 have cop:Nat.Coprime k.num.natAbs k.den:=k.reduced
 have main':(k.num.natAbs*k.num.natAbs+k.den*k.den)*t.den=t.num.natAbs*(k.num.natAbs*k.den):=by
  have hm:=congrArg Int.natAbs main
  rw [Int.natAbs_mul,Int.natAbs_mul,Int.natAbs_mul,Int.natAbs_natCast,Int.natAbs_natCast] at hm
  rw [← hm]
  congr 1
  have a1:0≤k.num*k.num:=by
   rcases Int.le_total 0 k.num with h | h
   ·exact Int.mul_nonneg h h
   ·exact Int.mul_nonneg_of_nonpos_of_nonpos h h
  have a2:(k.num.natAbs*k.num.natAbs:Nat)=(k.num*k.num).natAbs:=(Int.natAbs_mul _ _).symm
  have a3:((k.den:Int)*(k.den:Int))=((k.den*k.den:Nat):Int):=by rw [Int.natCast_mul]
  rw [a2,a3]
  omega
 have d0:=t.den_pos
 have key:∀ {P Q d n:Nat},Nat.Coprime P Q→(P*P+Q*Q)*d=n*(P*Q)→P ∣ d∧Q ∣ d:=fun {P Q d n} hc he=>by
  have h1:P ∣ Q*Q*d:=by
   have:P ∣ (P*P+Q*Q)*d:=by rw [he]; exact ⟨n*Q,by rw [Nat.mul_left_comm]⟩
   rw [Nat.add_mul] at this
   exact (Nat.dvd_add_right ⟨P*d,by rw [Nat.mul_assoc]⟩).mp this
  have h2:Q ∣ P*P*d:=by
   have:Q ∣ (P*P+Q*Q)*d:=by rw [he]; exact ⟨n*P,by rw [Nat.mul_comm P Q,Nat.mul_left_comm]⟩
   rw [Nat.add_comm,Nat.add_mul] at this
   exact (Nat.dvd_add_right ⟨Q*d,by rw [Nat.mul_assoc]⟩).mp this
  exact ⟨(Nat.Coprime.mul_right hc hc).dvd_of_dvd_mul_left h1,(Nat.Coprime.mul_right hc.symm hc.symm).dvd_of_dvd_mul_left h2⟩
 obtain ⟨p1,p2⟩:=key cop main'
 exact RM.a72 (Nat.le_trans (RM.O3 (Nat.le_of_dvd d0 p1)) (RM.A8 t)) (Nat.le_trans (RM.O3 (Nat.le_of_dvd d0 p2)) (RM.A8 t))
theorem b6w {t k:Rat} (h:¬ f7 t<2) (h2:¬ f7 t=2) (hs:a6g t (d7 k)):k≠0∧sz k≤sz t:=by
 rcases hs with ⟨r,r0,r1,e⟩ | ⟨_,e⟩
 ·have e:k=(t - (if t<0 then -r else r)) / 2:=j3.mp e
  obtain ⟨_,_,q⟩:=b6x h h2 r0 r1 k e
  exact ⟨fun z=>by rw [z] at q; grind,c0D q⟩
 ·cases e
theorem b91:a9A 10 20:=⟨by decide,by decide,by decide⟩
theorem b56:a9A 10 40:=⟨by decide,by decide,by decide⟩
theorem b90:a9A 10 25:=⟨by decide,by decide,by decide⟩
theorem b04 {N k:Nat} (h0:0<N) (h:N<2 ^ k):∃ q:Rat,D.tup [D.int 1,D.int (N:Int)]=d7 q∧sz q≤k+1:=by
 have hn:(0:Int)<(((N:Int):Rat)).num:=by show (0:Int)<(N:Int); omega
 refine ⟨(((N:Int):Rat))⁻¹,b9y hn,?_⟩
 have hne:((N:Int):Rat)≠0:=by intro z; exact absurd (show (N:Int)=0 by exact_mod_cast z) (by omega)
 have e:(((N:Int):Rat))⁻¹=1 / ((N:Int):Rat):=by grind
 rw [e]
 have s:=RM.U9 1 ((N:Int):Rat) hne
 have s1:sz (1:Rat)=1:=RM.U8
 have hk:0<k:=by
  rcases Nat.eq_zero_or_pos k with z | z
  ·rw [z] at h; omega
  ·exact z
 have s2:sz ((N:Int):Rat)≤k:=RM.a72 (RM.R0 (by show (N:Int).natAbs<_; rw [Int.natAbs_natCast]; exact h) hk) (RM.R0 (show 1<2 ^ k from Nat.one_lt_two_pow (by omega)) hk)
 omega
theorem C3.line {near far:Rat} {bs:List (Str × Rat)} (hw:C3 near bs far) {y u:Rat} (cd:CD 1000 y 0 u 0) {l:Rat × Rat × Rat} (hl:l∈B9 (e9 near bs far) (e9 near bs far).length) :
  (sz l.1≤230∧sz l.2.1≤230)∧(sz l.2.2≤3000∧0<l.2.2)∧sz (l.1*y+l.2.1*u)≤1231∧sz (l.1*(h8 (e9 near bs far) (y,u)).1+l.2.1*(h8 (e9 near bs far) (y,u)).2)≤1462:=by
 obtain ⟨j,px,hj,hpx,el⟩:=O8 _ l hl
 obtain ⟨z1,z2⟩:=b0K hw.cd cd j
 have hpz:=hw.szs px (List.mem_of_getElem? hj)
 have hp0:0<px.2:=by
  have hm:=List.mem_of_getElem? hj
  unfold e9 at hm
  have inb:px∈bs→0<px.2:=fun h=>by
   rcases hw.part px h with h | h
   ·rw [hpx] at h; exact absurd h (by decide)
   ·exact h.2
  rcases List.mem_append.mp hm with hm | hm
  ·rcases List.mem_append.mp hm with hm | hm
   ·rcases List.mem_append.mp hm with hm | hm
    ·exact inb hm
    ·rw [List.mem_singleton.mp hm] at hpx; exact absurd hpx (show ¬ Str.ofString "glass" = Str.ofString "stop" by decide)
   ·exact inb (List.mem_reverse.mp hm)
  ·rw [List.mem_singleton.mp hm] at hpx; exact absurd hpx (show ¬ Str.ofString "glass" = Str.ofString "stop" by decide)
 have lj:=CD.t4 (hw.cd j)
 have lj1:sz (h8 ((e9 near bs far).take j) (1,0)).1≤230:=lj.a
 have lj2:sz (h8 ((e9 near bs far).take j) (0,1)).1≤230:=lj.b
 rw [el]
 exact ⟨⟨lj1,lj2⟩,⟨hpz,hp0⟩,by omega,by omega⟩
theorem b89 {t x f:Rat} (hx:x≠0):swQ t x f=x*x*(1 - t*(f / x)+(f / x)*(f / x)):=by
 unfold swQ
 have:f=(f / x)*x:=by grind
 generalize f / x=p at *
 rw [this]; grind
theorem b96 {x f:Rat} (hx:x≠0):f7 f=f7 (f / x)*f7 x:=by
 rw [← a2b]
 congr 1
 grind
theorem b8m {x:Rat} (hx:x≠0):0<f7 x:=by unfold f7; split <;> grind
def erS (x:Str × Rat):Str × Rat:=if x.1 = "stop" then (Str.ofString "stop",0) else x
theorem b7j (x:Str × Rat) (y u:Rat):t9 (erS x) y u=t9 x y u:=by
 unfold erS
 split
 ·rename_i h
  obtain ⟨w,q⟩:=x
  have h:w=Str.ofString "stop" := h
  subst h
  unfold t9
  rfl
 ·rfl
theorem a4d (xs:List (Str × Rat)):∀ r:Rat × Rat,h8 (xs.map erS) r=h8 xs r:=by
 induction xs with
 | nil=>intro r; rfl
 | cons x xs ih =>
  intro r
  show h8 (xs.map erS) (t9 (erS x) r.1 r.2)=h8 xs (t9 x r.1 r.2)
  rw [b7j,ih]
theorem b8Z {xs ys:List (Str × Rat)} (h:xs.map erS=ys.map erS):tbQ xs=tbQ ys:=by
 unfold tbQ
 rw [← a4d xs,← a4d xs,← a4d ys,← a4d ys,h]
theorem b4y (near far:Rat) {bs cs:List (Str × Rat)} (h:bs.map erS=cs.map erS):(e9 near bs far).map erS=(e9 near cs far).map erS:=by
 unfold e9
 simp only [List.map_append,List.map_reverse,h]
theorem p9.set {near far:Rat} {bs:List (Str × Rat)} (h:p9 near bs far) {at':Nat} {q0 q:Rat} (hat:bs[at']? = some (Str.ofString "stop",q0)) (hq:0<q) (hz:sz q≤3000):C3 near (bs.set at' (Str.ofString "stop",q)) far:=by
 have hl:=(List.getElem?_eq_some_iff.mp hat).1
 have hm:(bs.set at' (Str.ofString "stop",q)).map erS=bs.map erS:=by
  apply List.ext_getElem?
  intro i
  rw [List.getElem?_map,List.getElem?_map,List.getElem?_set]
  by_cases e:at'=i
  ·subst e
   rw [if_pos rfl,if_pos hl,hat]; rfl
  ·rw [if_neg e]
 refine ⟨fun i=>?_,fun x hx=>?_,by rw [List.length_set]; exact h.len,fun x hx=>?_⟩
 ·rw [b8Z (ys:=(e9 near bs far).take i) (by rw [List.map_take,List.map_take,b4y near far hm])]
  exact h.cd i
 ·have inb:∀ x∈bs.set at' (Str.ofString "stop",q),sz x.2≤3000:=fun x hx=>by
   rcases List.mem_or_eq_of_mem_set hx with hx | rfl
   ·exact Nat.le_trans (h.part x hx).1 (by decide)
   ·exact hz
  unfold e9 at hx
  rcases List.mem_append.mp hx with hx | hx
  ·rcases List.mem_append.mp hx with hx | hx
   ·rcases List.mem_append.mp hx with hx | hx
    ·exact inb x hx
    ·rw [List.mem_singleton.mp hx]; exact Nat.le_trans h.zf (by decide)
   ·exact inb x (List.mem_reverse.mp hx)
  ·rw [List.mem_singleton.mp hx]; exact Nat.le_trans h.zn (by decide)
 ·rcases List.mem_or_eq_of_mem_set hx with hx | rfl
  ·exact h.w.part x hx
  ·exact .inr ⟨rfl,hq⟩
local macro_rules | `(tactic| walk_at "inj")=>`(tactic| (rename_i e h; simp only [List.cons.injEq,and_true,true_and,GM.j3,GM.i0,GM.g8,GM.i3,GM.g9,D.tup.injEq,D.ref.injEq,D.int.injEq,D.str.injEq,D.bl.injEq,D.vl.injEq,Int.natCast_inj,and_assoc] at e; (repeat (obtain ⟨e1,e⟩:=e; subst e1)); subst e; exact h))
local macro_rules | `(tactic| walk_at "injs")=>`(tactic| (rename_i e o h; rcases o with o | o <;> (subst o; first | (exfalso; simp only [D.tup.injEq,List.cons.injEq,reduceCtorEq,false_and,and_false] at e; done) | (simp only [List.cons.injEq,and_true,true_and,GM.j3,GM.i0,GM.g8,GM.i3,GM.g9,D.tup.injEq,D.ref.injEq,D.int.injEq,D.str.injEq,D.bl.injEq,D.vl.injEq,Int.natCast_inj,and_assoc] at e; (repeat (obtain ⟨e1,e⟩:=e; subst e1)); subst e; exact h))))
def b0G:DSp:=fun ds M R Y=>∃ (bs:List (Str × Rat)),ds=[.vl (bs.map f9)]∧(((∀ x∈bs,sz x.2≤3000)∧bs.length≤40)∧∀ i,CDQ 230 (tbQ (bs.take i)))∧R (A0 (tbQ bs)) M
theorem a7u {bs:List (Str × Rat)} {M:Mem} {R:DK} {Y:DXK}:b0G [.vl (bs.map f9)] M R Y=((((∀ x∈bs,sz x.2≤3000)∧bs.length≤40)∧∀ i,CDQ 230 (tbQ (bs.take i)))∧R (A0 (tbQ bs)) M):=propext ⟨fun z=>by obtain ⟨_,_,_⟩:=z; walk_at "inj",fun h=>⟨bs,rfl,h⟩⟩
def a3l:DSp:=fun ds M R Y=>∃ (x0:D) (near:Rat) (bs:List (Str × Rat)) (far:Rat),ds=[.tup [d7 near,x0,d7 far]]∧(x0 = .vl (bs.map f9)∨x0 = .tup (bs.map f9))∧C3 near bs far∧R (A0 (tbQ (e9 near bs far))) M
theorem a7v {near:Rat} {bs:List (Str × Rat)} {far:Rat} {M:Mem} {R:DK} {Y:DXK}:a3l [.tup [d7 near,.vl (bs.map f9),d7 far]] M R Y=(C3 near bs far∧R (A0 (tbQ (e9 near bs far))) M):=propext ⟨fun z=>by obtain ⟨_,_,_,_,_,_,_⟩:=z; walk_at "injs",fun h=>⟨_,near,bs,far,rfl,.inl rfl,h⟩⟩
theorem a2Q {near:Rat} {bs:List (Str × Rat)} {far:Rat} {M:Mem} {R:DK} {Y:DXK}:a3l [.tup [d7 near,.tup (bs.map f9),d7 far]] M R Y=(C3 near bs far∧R (A0 (tbQ (e9 near bs far))) M):=propext ⟨fun z=>by obtain ⟨_,_,_,_,_,_,_⟩:=z; walk_at "injs",fun h=>⟨_,near,bs,far,rfl,.inr rfl,h⟩⟩
def a32:DSp:=fun ds M R Y=>∃ (bs:List (Str × Rat)),ds=[.vl (bs.map f9)]∧(((∀ x∈bs,sz x.2≤3000)∧bs.length≤40)∧∀ i,CDQ 230 (tbQ (bs.take i)))∧R (.vl ((B9 bs bs.length).map m8)) M
theorem a2T {bs:List (Str × Rat)} {M:Mem} {R:DK} {Y:DXK}:a32 [.vl (bs.map f9)] M R Y=((((∀ x∈bs,sz x.2≤3000)∧bs.length≤40)∧∀ i,CDQ 230 (tbQ (bs.take i)))∧R (.vl ((B9 bs bs.length).map m8)) M):=propext ⟨fun z=>by obtain ⟨_,_,_⟩:=z; walk_at "inj",fun h=>⟨bs,rfl,h⟩⟩
def Y6:DSp:=fun ds M R Y=>∃ (x0:D) (near:Rat) (bs:List (Str × Rat)) (far:Rat),ds=[.tup [d7 near,x0,d7 far]]∧(x0 = .vl (bs.map f9)∨x0 = .tup (bs.map f9))∧C3 near bs far∧∀ p,M p=none→R (.ref p) (v8 M p (.lst (hlN (g7 near bs far) (g7 near bs far).length)))
theorem a1d {near:Rat} {bs:List (Str × Rat)} {far:Rat} {M:Mem} {R:DK} {Y:DXK}:Y6 [.tup [d7 near,.vl (bs.map f9),d7 far]] M R Y=(C3 near bs far∧∀ p,M p=none→R (.ref p) (v8 M p (.lst (hlN (g7 near bs far) (g7 near bs far).length)))):=propext ⟨fun z=>by obtain ⟨_,_,_,_,_,_,_⟩:=z; walk_at "injs",fun h=>⟨_,near,bs,far,rfl,.inl rfl,h⟩⟩
theorem X8 {near:Rat} {bs:List (Str × Rat)} {far:Rat} {M:Mem} {R:DK} {Y:DXK}:Y6 [.tup [d7 near,.tup (bs.map f9),d7 far]] M R Y=(C3 near bs far∧∀ p,M p=none→R (.ref p) (v8 M p (.lst (hlN (g7 near bs far) (g7 near bs far).length)))):=propext ⟨fun z=>by obtain ⟨_,_,_,_,_,_,_⟩:=z; walk_at "injs",fun h=>⟨_,near,bs,far,rfl,.inr rfl,h⟩⟩
def a6N:DSp:=fun ds M R Y=>∃ (q:Rat) (T B:Int),ds=[d7 q,.tup [.int T,.int B]]∧(0<B∧sz q≤9000∧B.natAbs<2 ^ 9000∧T.natAbs<2 ^ 20000)∧R (.bl (decide (q<Rat.divInt T B))) M
theorem a4V {q:Rat} {T B:Int} {M:Mem} {R:DK} {Y:DXK}:a6N [d7 q,.tup [.int T,.int B]] M R Y=((0<B∧sz q≤9000∧B.natAbs<2 ^ 9000∧T.natAbs<2 ^ 20000)∧R (.bl (decide (q<Rat.divInt T B))) M):=propext ⟨fun z=>by obtain ⟨_,_,_,_,_⟩:=z; walk_at "inj",fun h=>⟨q,T,B,rfl,h⟩⟩
def a3Z:DSp:=fun ds M R Y=>∃ (y u g:Rat),ds=[A5 y u,d7 g]∧(sz y+sz g≤8900∧sz u+sz g≤8900)∧R (A5 (y*g) (u*g)) M
theorem a2P {y u g:Rat} {M:Mem} {R:DK} {Y:DXK}:a3Z [A5 y u,d7 g] M R Y=((sz y+sz g≤8900∧sz u+sz g≤8900)∧R (A5 (y*g) (u*g)) M):=propext ⟨fun z=>by obtain ⟨_,_,_,_,_⟩:=z; walk_at "inj",fun h=>⟨y,u,g,rfl,h⟩⟩
def a36:DSp:=fun ds M R Y=>∃ (near:Rat) (bs:List (Str × Rat)) (far:Rat) (b:Bool),ds=[.tup [d7 near,.vl (bs.map f9),d7 far],.bl b]∧p9 near bs far∧∀ (y u:Rat),(sz y≤463∧sz u≤463∧sz y+sz u≤700)→R (A5 y u) M
theorem a2Y {near:Rat} {bs:List (Str × Rat)} {far:Rat} {b:Bool} {M:Mem} {R:DK} {Y:DXK}:a36 [.tup [d7 near,.vl (bs.map f9),d7 far],.bl b] M R Y=(p9 near bs far∧∀ (y u:Rat),(sz y≤463∧sz u≤463∧sz y+sz u≤700)→R (A5 y u) M):=propext ⟨fun z=>by obtain ⟨_,_,_,_,_,_⟩:=z; walk_at "inj",fun h=>⟨near,bs,far,b,rfl,h⟩⟩
def a6L:DSp:=fun ds M R Y=>∃ (p:Addr) (x y:D),ds=[.ref p,x,y]∧u6 M p∧∃ (ts bs:List Int) (P:Rat→Prop),x = .vl (ts.map D.int)∧y = .vl (bs.map D.int)∧((0<ts.length∧ts.length≤100)∧(0<bs.length∧bs.length≤100)∧(∀ b∈bs,0<b∧b.natAbs<2 ^ 133)∧∀ t∈ts,∀ b∈bs,P (Rat.divInt t b))∧∀ (q:Rat) M',P q→o7 p M M'→R (d7 q) M'
theorem a4T {p:Addr} {x y:D} {M:Mem} {R:DK} {Y:DXK}:a6L [.ref p,x,y] M R Y=(u6 M p∧∃ (ts bs:List Int) (P:Rat→Prop),x = .vl (ts.map D.int)∧y = .vl (bs.map D.int)∧((0<ts.length∧ts.length≤100)∧(0<bs.length∧bs.length≤100)∧(∀ b∈bs,0<b∧b.natAbs<2 ^ 133)∧∀ t∈ts,∀ b∈bs,P (Rat.divInt t b))∧∀ (q:Rat) M',P q→o7 p M M'→R (d7 q) M'):=propext ⟨fun z=>by obtain ⟨_,_,_,_,_⟩:=z; walk_at "inj",fun h=>⟨p,x,y,rfl,h⟩⟩
def b0I:DSp:=fun ds M R Y=>∃ (p:Addr) (near:Rat) (bs:List (Str × Rat)) (far:Rat),ds=[.ref p,.tup [d7 near,.vl (bs.map f9),d7 far]]∧u6 M p∧p9 near bs far∧∀ (y u:Rat) M',CD 1000 y 0 u 0→o7 p M M'→R (A5 y u) M'
theorem a7x {p:Addr} {near:Rat} {bs:List (Str × Rat)} {far:Rat} {M:Mem} {R:DK} {Y:DXK}:b0I [.ref p,.tup [d7 near,.vl (bs.map f9),d7 far]] M R Y=(u6 M p∧p9 near bs far∧∀ (y u:Rat) M',CD 1000 y 0 u 0→o7 p M M'→R (A5 y u) M'):=propext ⟨fun z=>by obtain ⟨_,_,_,_,_,_⟩:=z; walk_at "inj",fun h=>⟨p,near,bs,far,rfl,h⟩⟩
end GM
namespace DL
open PySem PySem.Spec L2
theorem b2c {e0:Ev} {g:DTG} {te:DTE} {ds:List D} {stay:Mem→Prop} {M1:Mem} {E:List D→Mem→Prop} {β:Type} (out:β→D) (Rl:Nat→β→Prop) (hn:ds.length≤1000) (hst:stay M1)
  (step:∀ i d,ds[i]? = some d→∀ Q:DK,(∀ b,Rl i b→Q (out b) M1)→g d e0 M1 fun e2 M2=>te e2 M2 Q) (h:∀ bs:List β,bs.length=ds.length→(∀ i b,bs[i]? = some b→Rl i b)→E (bs.map out) M1):∃ W,a2f e0 g a7i te ds stay M1 E W:=by
 refine ⟨fun i ys M=>M=M1∧∃ bs:List β,bs.length=i∧(∀ j b,bs[j]? = some b→Rl j b)∧ys=bs.map out,⟨⟨rfl,[],rfl,(fun j b z=>by simp at z),rfl⟩,fun i ys M _ w=>by rw [w.1]; exact hst,fun i d ys M hd w=>?_,fun ys M w=>?_⟩⟩
 ·obtain ⟨rfl,bs,hl,hok,rfl⟩:=w
  have hi:i<ds.length:=(List.getElem?_eq_some_iff.mp hd).1
  refine step i d hd _ fun b hb=>⟨?_,rfl,bs++[b],by simp [hl],fun j c hc=>?_,by simp⟩
  ·rw [List.length_map,hl]; exact Nat.lt_of_lt_of_le (Nat.lt_of_lt_of_le hi hn) (show 1000≤sizeLine by decide)
  ·rcases Nat.lt_or_ge j bs.length with z | z
   ·rw [List.getElem?_append_left z] at hc; exact hok j c hc
   ·rw [List.getElem?_append_right z] at hc
    have hj:j - bs.length=0:=by
     have:=(List.getElem?_eq_some_iff.mp hc).1
     simp at this; omega
    rw [hj] at hc
    have e:b=c:=by simpa using hc
    have ej:j=i:=by omega
    rw [ej,← e]; exact hb
 ·obtain ⟨rfl,bs,hl,hok,rfl⟩:=w
  exact h bs hl hok
end DL
namespace GM
open PySem PySem.Spec L2 DL
open RM (sz)
def stQ (t:Rat) (p:Rat × Rat):Nat→Rat × Rat
 | 0=>p
 | n+1=>((stQ t p n).2,t*(stQ t p n).2 - (stQ t p n).1)
def D1 (t:Rat) (l:Rat × Rat × Rat) (n:Nat):Prop:=l.2.2<f7 (stQ t (l.1,l.2.1) n).1
instance b95 (t:Rat) (l:Rat × Rat × Rat) (n:Nat):Decidable (D1 t l n):=by unfold D1; infer_instance
def v6 (t:Rat) (ls:List (Rat × Rat × Rat)) (k n:Nat):Bool:=match ls[k]? with | some l=>decide (D1 t l n) | none=>false
def O4 (t:Rat) (ls:List (Rat × Rat × Rat)) (ws:List Nat) (N:Nat):Option (Nat × Nat) :=
 match (List.range N).find? fun n=>ws.any fun k=>v6 t ls k n with
 | none=>none
 | some n=>(ws.find? fun k=>v6 t ls k n).map fun k=>(n,k)
theorem a6u {t:Rat} {ls:List (Rat × Rat × Rat)} {ws:List Nat} {N:Nat} (h:∀ n,n<N→∀ k∈ws,v6 t ls k n=false):O4 t ls ws N=none:=by
 unfold O4
 rw [List.find?_eq_none.mpr fun n hn=>?_]
 rw [Bool.not_eq_true,List.any_eq_false]
 exact fun k hk=>by rw [h n (List.mem_range.mp hn) k hk]; decide
theorem a6t {t:Rat} {ls:List (Rat × Rat × Rat)} {ws:List Nat} {N n i k:Nat} (hn:n<N) (hi:ws[i]? = some k) (hb:v6 t ls k n=true) (h1:∀ j,j<n→∀ k∈ws,v6 t ls k j=false)
  (h2:∀ j,j<i→∀ k',ws[j]? = some k'→v6 t ls k' n=false):O4 t ls ws N=some (n,k):=by
 unfold O4
 have hk:=List.mem_of_getElem? hi
 have e:(List.range N).find? (fun n=>ws.any fun k=>v6 t ls k n)=some n:=by
  rw [List.find?_range_eq_some]
  refine ⟨List.any_eq_true.mpr ⟨k,hk,hb⟩,List.mem_range.mpr hn,fun j hj=>?_⟩
  have:(ws.any fun k=>v6 t ls k j)=false:=List.any_eq_false.mpr fun k hk=>by rw [h1 j hj k hk]; decide
  rw [this]; rfl
 rw [e]
 have hl:=(List.getElem?_eq_some_iff.mp hi).1
 have e2:ws.find? (fun k=>v6 t ls k n)=some k:=by
  rw [List.find?_eq_some_iff_getElem]
  refine ⟨hb,i,hl,(List.getElem?_eq_some_iff.mp hi).2,fun j hj=>?_⟩
  rw [h2 j hj _ (List.getElem?_eq_getElem (Nat.lt_trans hj hl))]; rfl
 show (ws.find? fun k=>v6 t ls k n).map (fun k=>(n,k))=_
 rw [e2]; rfl
def a3h:Option (Nat × Nat)→D
 | none=>.non
 | some z=>.tup [.int (z.1:Int),.int (z.2:Int)]
theorem a8I (a:Int):f7 (a:Rat)=((a.natAbs:Nat):Rat):=by
 rw [← Rat.intCast_natCast]
 unfold f7
 split
 ·rename_i h
  have h:0≤a:=by exact_mod_cast h
  rw [show ((a.natAbs:Nat):Int)=a by omega]
 ·rename_i h
  have h:¬ 0≤a:=fun z=>h (by exact_mod_cast z)
  rw [show ((a.natAbs:Nat):Int) = -a by omega,Rat.intCast_neg]
structure a4I (t:Rat) (l:Rat × Rat × Rat) (n:Nat) (s:Int × Int × Int):Prop where
 ex:∃ W:Nat,0<W∧(s.1:Rat)=(stQ t (l.1,l.2.1) n).1*(W:Rat)∧(s.2.1:Rat)=(stQ t (l.1,l.2.1) n).2*((W:Rat)*(t.den:Rat))∧(s.2.2:Rat)=l.2.2*(W:Rat)
 b1:s.1.natAbs<2 ^ (12000+470*n)
 b2:s.2.1.natAbs<2 ^ (12000+470*n)
 b3:s.2.2.natAbs<2 ^ (12000+470*n)
def stD (s:Int × Int × Int):D:=.tup [.int s.1,.int s.2.1,.int s.2.2]
theorem a4I.bey {t:Rat} {l:Rat × Rat × Rat} {n:Nat} {s:Int × Int × Int} (h:a4I t l n s):(s.2.2<(s.1.natAbs:Int))↔D1 t l n:=by
 obtain ⟨W,W0,e1,_,e3⟩:=h.ex
 have W0:(0:Rat)<(W:Rat):=by exact_mod_cast W0
 unfold D1
 have e4:=a8I s.1
 rw [e1,a2b,show f7 (W:Rat)=(W:Rat) by unfold f7; rw [if_pos (by grind)]] at e4
 generalize (stQ t (l.1,l.2.1) n).1=x at *
 have c:(s.2.2<(s.1.natAbs:Int))↔((s.2.2:Rat)<((s.1.natAbs:Nat):Rat)):=by
  rw [← Rat.intCast_natCast,Rat.intCast_lt_intCast]
 rw [c,e3,← e4]
 generalize f7 x=a at *
 constructor
 ·intro z
  apply Classical.byContradiction
  intro nz
  have:=Rat.mul_nonneg (a:=l.2.2 - a) (b:=(W:Rat)) (by grind) (by grind)
  grind
 ·intro z
  have:=Rat.mul_pos (a:=a - l.2.2) (b:=(W:Rat)) (by grind) W0
  grind
theorem a4I.next {t:Rat} {l:Rat × Rat × Rat} {n:Nat} {s:Int × Int × Int} (ht:sz t≤231) (h:a4I t l n s):a4I t l (n+1) (s.2.1,t.num*s.2.1 - (t.den:Int)*(t.den:Int)*s.1,s.2.2*(t.den:Int)):=by
 obtain ⟨W,W0,e1,e2,e3⟩:=h.ex
 have td:=u0 t ht
 have tn:=u8 t ht
 have td':(t.den:Int).natAbs<2 ^ 231:=by rw [Int.natAbs_natCast]; exact td
 have e:=v7 t
 refine ⟨⟨W*t.den,Nat.mul_pos W0 t.den_pos,?_,?_,?_⟩,?_,?_,?_⟩
 ·show (s.2.1:Rat)=(stQ t (l.1,l.2.1) n).2*((W*t.den:Nat):Rat)
  rw [e2,Rat.natCast_mul]
 ·show ((t.num*s.2.1 - (t.den:Int)*(t.den:Int)*s.1:Int):Rat)=(t*(stQ t (l.1,l.2.1) n).2 - (stQ t (l.1,l.2.1) n).1)*(((W*t.den:Nat):Rat)*(t.den:Rat))
  rw [Rat.intCast_sub,Rat.intCast_mul,Rat.intCast_mul,Rat.intCast_mul,Rat.intCast_natCast,e1,e2,← e,Rat.natCast_mul]
  grind
 ·show ((s.2.2*(t.den:Int):Int):Rat)=l.2.2*((W*t.den:Nat):Rat)
  rw [Rat.intCast_mul,e3,Rat.intCast_natCast,Rat.natCast_mul]
  grind
 ·exact p6 h.b2 (by omega)
 ·have m1:=e7 tn h.b2
  have m2:=e7 (e7 td' td') h.b1
  exact p6 (Y3 (p6 m1 (show _≤462+(12000+470*n) by omega)) (p6 m2 (by omega))) (by omega)
 ·exact p6 (e7 h.b3 td') (by omega)
def szs (qs:List Rat):Nat:=(qs.map sz).sum
theorem a0Z {qs:List Rat} {q:Rat} (h:q∈qs):sz q≤szs qs:=by
 induction qs with
 | nil=>cases h
 | cons a r ih =>
  show sz q≤sz a+szs r
  rcases List.mem_cons.mp h with rfl | h
  ·omega
  ·have:=ih h; omega
theorem b0w {qs:List Rat} {i:Nat} {q:Rat} (h:qs[i]? = some q):szs (qs.take (i+1))=szs (qs.take i)+sz q:=by
 rw [List.take_add_one,h]
 unfold szs
 rw [List.map_append,List.sum_append]; rfl
theorem b6t (qs:List Rat) (i:Nat):szs (qs.take i)≤szs qs:=by
 have h:=congrArg szs (List.take_append_drop i qs)
 unfold szs at h ⊢
 rw [List.map_append,List.sum_append] at h
 omega
local macro_rules | `(tactic| walk_at "inj")=>`(tactic| (rename_i e h; simp only [List.cons.injEq,and_true,true_and,GM.j3,GM.i0,GM.g8,GM.i3,GM.g9,D.tup.injEq,D.ref.injEq,D.int.injEq,D.str.injEq,D.bl.injEq,D.vl.injEq,Int.natCast_inj,and_assoc] at e; (repeat (obtain ⟨e1,e⟩:=e; subst e1)); subst e; exact h))
local macro_rules | `(tactic| walk_at "injs")=>`(tactic| (rename_i e o h; rcases o with o | o <;> (subst o; first | (exfalso; simp only [D.tup.injEq,List.cons.injEq,reduceCtorEq,false_and,and_false] at e; done) | (simp only [List.cons.injEq,and_true,true_and,GM.j3,GM.i0,GM.g8,GM.i3,GM.g9,D.tup.injEq,D.ref.injEq,D.int.injEq,D.str.injEq,D.bl.injEq,D.vl.injEq,Int.natCast_inj,and_assoc] at e; (repeat (obtain ⟨e1,e⟩:=e; subst e1)); subst e; exact h))))
def b0J:DSp:=fun ds M R Y=>∃ (x:D),ds=[x]∧∃ qs:List Rat,(x = .tup (qs.map d7)∨x = .vl (qs.map d7))∧szs qs≤8500∧∀ B:Nat,0<B→B≤2 ^ szs qs→(∀ q∈qs,q.den ∣ B)→B ∣ (qs.map fun q:Rat=>q.den).prod→R (.int (B:Int)) M
theorem a9I {x:D} {M:Mem} {R:DK} {Y:DXK}:b0J [x] M R Y=(∃ qs:List Rat,(x = .tup (qs.map d7)∨x = .vl (qs.map d7))∧szs qs≤8500∧∀ B:Nat,0<B→B≤2 ^ szs qs→(∀ q∈qs,q.den ∣ B)→B ∣ (qs.map fun q:Rat=>q.den).prod→R (.int (B:Int)) M):=propext ⟨fun z=>by obtain ⟨_,_,_⟩:=z; walk_at "inj",fun h=>⟨x,rfl,h⟩⟩
def b0H:DSp:=fun ds M R Y=>∃ (x:D) (b:Nat),ds=[x,.int (b:Int)]∧∃ qs:List Rat,(x = .tup (qs.map d7)∨x = .vl (qs.map d7))∧(qs.length≤1000∧b≤2 ^ 8500∧0<b∧(∀ q∈qs,q.den ∣ b∧sz q≤8900))∧R (.vl (qs.map fun q=>.int (q.num*(b:Int).fdiv (q.den:Int)))) M
theorem a9D {x:D} {b:Nat} {M:Mem} {R:DK} {Y:DXK}:b0H [x,.int (b:Int)] M R Y=(∃ qs:List Rat,(x = .tup (qs.map d7)∨x = .vl (qs.map d7))∧(qs.length≤1000∧b≤2 ^ 8500∧0<b∧(∀ q∈qs,q.den ∣ b∧sz q≤8900))∧R (.vl (qs.map fun q=>.int (q.num*(b:Int).fdiv (q.den:Int)))) M):=propext ⟨fun z=>by obtain ⟨_,_,_,_⟩:=z; walk_at "inj",fun h=>⟨x,b,rfl,h⟩⟩
def a1J:DSp:=fun ds M R Y=>∃ (t x f r:Rat),ds=[d7 t,d7 x,d7 f,d7 r]∧(sz t≤231∧sz x+sz f+sz r≤8400∧sz x≤3000∧sz f≤3000∧sz r≤3000)∧∀ s:Int × Int × Int,a4I t (x,f,r) 0 s→R (stD s) M
theorem a1e {t x f r:Rat} {M:Mem} {R:DK} {Y:DXK}:a1J [d7 t,d7 x,d7 f,d7 r] M R Y=((sz t≤231∧sz x+sz f+sz r≤8400∧sz x≤3000∧sz f≤3000∧sz r≤3000)∧∀ s:Int × Int × Int,a4I t (x,f,r) 0 s→R (stD s) M):=propext ⟨fun z=>by obtain ⟨_,_,_,_,_,_⟩:=z; walk_at "inj",fun h=>⟨t,x,f,r,rfl,h⟩⟩
def a31:DSp:=fun ds M R Y=>∃ (t:Rat) (x:D),ds=[d7 t,x]∧∃ s:Int × Int × Int,x=stD s∧(sz t≤231∧∃ k,s.1.natAbs<2 ^ k∧s.2.1.natAbs<2 ^ k∧s.2.2.natAbs<2 ^ k∧k≤60000)∧R (stD (s.2.1,t.num*s.2.1 - (t.den:Int)*(t.den:Int)*s.1,s.2.2*(t.den:Int))) M
theorem a2S {t:Rat} {x:D} {M:Mem} {R:DK} {Y:DXK}:a31 [d7 t,x] M R Y=(∃ s:Int × Int × Int,x=stD s∧(sz t≤231∧∃ k,s.1.natAbs<2 ^ k∧s.2.1.natAbs<2 ^ k∧s.2.2.natAbs<2 ^ k∧k≤60000)∧R (stD (s.2.1,t.num*s.2.1 - (t.den:Int)*(t.den:Int)*s.1,s.2.2*(t.den:Int))) M):=propext ⟨fun z=>by obtain ⟨_,_,_,_⟩:=z; walk_at "inj",fun h=>⟨t,x,rfl,h⟩⟩
def a01:DSp:=fun ds M R Y=>∃ (t x f:Rat),ds=[d7 t,d7 x,d7 f]∧(sz t≤231∧sz x+sz f≤4200)∧∀ (T B:Int),0<B→B.natAbs<2 ^ 8402→T.natAbs<2 ^ 17100→(T:Rat)=t.den*(x*x - t*(x*f)+f*f)*B→R (.tup [.int T,.int B]) M
theorem a2N {t x f:Rat} {M:Mem} {R:DK} {Y:DXK}:a01 [d7 t,d7 x,d7 f] M R Y=((sz t≤231∧sz x+sz f≤4200)∧∀ (T B:Int),0<B→B.natAbs<2 ^ 8402→T.natAbs<2 ^ 17100→(T:Rat)=t.den*(x*x - t*(x*f)+f*f)*B→R (.tup [.int T,.int B]) M):=propext ⟨fun z=>by obtain ⟨_,_,_,_,_⟩:=z; walk_at "inj",fun h=>⟨t,x,f,rfl,h⟩⟩
def a76:DSp:=fun ds M R Y=>∃ (t x f:Rat),ds=[d7 t,d7 x,d7 f]∧(sz t≤231∧-2<t∧t<2∧sz x+sz f≤4200)∧∀ (T B:Int),0<B→B.natAbs<2 ^ 8870→T.natAbs<2 ^ 17400→Rat.divInt T B=a2s t x f→R (.tup [.int T,.int B]) M
theorem a7w {t x f:Rat} {M:Mem} {R:DK} {Y:DXK}:a76 [d7 t,d7 x,d7 f] M R Y=((sz t≤231∧-2<t∧t<2∧sz x+sz f≤4200)∧∀ (T B:Int),0<B→B.natAbs<2 ^ 8870→T.natAbs<2 ^ 17400→Rat.divInt T B=a2s t x f→R (.tup [.int T,.int B]) M):=propext ⟨fun z=>by obtain ⟨_,_,_,_,_⟩:=z; walk_at "inj",fun h=>⟨t,x,f,rfl,h⟩⟩
def a3Y:DSp:=fun ds M R Y=>∃ (w:D) (t x f r:Rat),ds=[w,d7 t,d7 x,d7 f,d7 r]∧∃ m:Q4,w = .str (kwS m)∧t=trQ m∧(CDQ 230 m∧W9 m=1∧sz x+sz f≤4200∧sz r≤3000∧0<r)∧R (.bl (F9 m x f r)) M
theorem a2O {w:D} {t x f r:Rat} {M:Mem} {R:DK} {Y:DXK}:a3Y [w,d7 t,d7 x,d7 f,d7 r] M R Y=(∃ m:Q4,w = .str (kwS m)∧t=trQ m∧(CDQ 230 m∧W9 m=1∧sz x+sz f≤4200∧sz r≤3000∧0<r)∧R (.bl (F9 m x f r)) M):=propext ⟨fun z=>by obtain ⟨_,_,_,_,_,_,_⟩:=z; walk_at "inj",fun h=>⟨w,t,x,f,r,rfl,h⟩⟩
structure X3 (l:Rat × Rat × Rat):Prop where
 xf:sz l.1+sz l.2.1≤4200
 x:sz l.1≤3000
 f:sz l.2.1≤3000
 r:sz l.2.2≤3000
 p:0<l.2.2
def a6J:DSp:=fun ds M R Y=>∃ (t:Rat) (x y:D) (N:Nat),ds=[d7 t,x,y,.int (N:Int)]∧∃ (ls:List (Rat × Rat × Rat)) (ws:List Nat),x = .vl (ls.map m8)∧y = .vl (ws.map fun k:Nat=>D.int (k:Int))∧(sz t≤231∧(ls.length≤40∧ws.length≤40)∧N≤60∧(∀ l∈ls,X3 l)∧∀ k∈ws,k<ls.length)∧R (a3h (O4 t ls ws N)) M
theorem X7 {t:Rat} {x y:D} {N:Nat} {M:Mem} {R:DK} {Y:DXK}:a6J [d7 t,x,y,.int (N:Int)] M R Y=(∃ (ls:List (Rat × Rat × Rat)) (ws:List Nat),x = .vl (ls.map m8)∧y = .vl (ws.map fun k:Nat=>D.int (k:Int))∧(sz t≤231∧(ls.length≤40∧ws.length≤40)∧N≤60∧(∀ l∈ls,X3 l)∧∀ k∈ws,k<ls.length)∧R (a3h (O4 t ls ws N)) M):=propext ⟨fun z=>by obtain ⟨_,_,_,_,_,_⟩:=z; walk_at "inj",fun h=>⟨t,x,y,N,rfl,h⟩⟩
inductive En where
 | one (w:Str)
 | int (w:Str) (n:Int)
 | rat (w:Str) (q:Rat)
def enD:En→D
 | .one w=>.tup [.str w]
 | .int w n=>.tup [.str w,.int n]
 | .rat w q=>.tup [.str w,d7 q]
def F0 (L:List (Str × Rat)) (y u:Rat) (l:Rat × Rat × Rat):Rat × Rat × Rat:=(l.1*y+l.2.1*u,l.1*(h8 L (y,u)).1+l.2.1*(h8 L (y,u)).2,l.2.2)
def B6 (near:Rat) (bs:List (Str × Rat)) (far:Rat) (y u:Rat):List (Rat × Rat × Rat):=(B9 (e9 near bs far) (e9 near bs far).length).map (F0 (e9 near bs far) y u)
theorem C3.ln {near far:Rat} {bs:List (Str × Rat)} (hw:C3 near bs far) {y u:Rat} {S:Nat} (cd:CD S y 0 u 0) (hS:S≤1700) {l:Rat × Rat × Rat} (hl:l∈B9 (e9 near bs far) (e9 near bs far).length):X3 (F0 (e9 near bs far) y u l)∧sz l.1≤230∧sz l.2.1≤230:=by
 obtain ⟨⟨a1,a2⟩,⟨a3,a4⟩,_,_⟩:=hw.line (y:=0) (u:=0) ((CD.ray2 (k:=1) (l:=1) (by rw [RM.E6]; decide) (by rw [RM.E6]; decide)).mono (by decide)) hl
 obtain ⟨j,px,hj,hpx,el⟩:=O8 _ l hl
 obtain ⟨z1,z2⟩:=b0K hw.cd cd j
 have e1:(h8 ((e9 near bs far).take j) (1,0)).1=l.1:=by rw [el]
 have e2:(h8 ((e9 near bs far).take j) (0,1)).1=l.2.1:=by rw [el]
 rw [e1,e2] at z1 z2
 have w1:sz (F0 (e9 near bs far) y u l).1≤231+S:=z1
 have w2:sz (F0 (e9 near bs far) y u l).2.1≤462+S:=z2
 exact ⟨⟨by omega,by omega,by omega,a3,a4⟩,a1,a2⟩
theorem b1u {near far:Rat} {bs:List (Str × Rat)} (hw:C3 near bs far) {y u:Rat} {S:Nat} (cd:CD S y 0 u 0) (hS:S≤1700):∀ l∈B6 near bs far y u,X3 l:=fun l hl=>by
 obtain ⟨l0,h0,rfl⟩:=List.mem_map.mp hl
 exact (hw.ln cd hS h0).1
theorem a9l (near far:Rat) (bs:List (Str × Rat)) (y u:Rat):(B6 near bs far y u).length≤2*bs.length+2:=by
 have:=O9 (e9 near bs far) (e9 near bs far).length
 have:=Z6 near far bs
 unfold B6
 rw [List.length_map]; omega
theorem a8N (near far:Rat) (bs:List (Str × Rat)):(((D8 (g7 near bs far) (g7 near bs far).length).zip (B9 (e9 near bs far) (g7 near bs far).length)).map fun z=>m8 z.2)=(B9 (e9 near bs far) (e9 near bs far).length).map m8:=by
 have h:=a3F (g7 near bs far) (g7 near bs far).length
 rw [F1] at h
 rw [show (fun z:(D × D) × (Rat × Rat × Rat)=>m8 z.2)=m8 ∘ Prod.snd from rfl,← List.map_map,List.map_snd_zip (by omega),K7]
def W2:DSp:=fun ds M R Y=>∃ (x:D) (y u:Rat) (z:D),ds=[x,A5 y u,z]∧∃ (L:List (Str × Rat)) (ls:List (Rat × Rat × Rat)),x=A0 (tbQ L)∧z = .vl (ls.map m8)∧(∃ S,CDQ 230 (tbQ L)∧CD S y 0 u 0∧S≤1700∧ls.length≤40∧∀ l∈ls,sz l.1≤230∧sz l.2.1≤230)∧R (.vl ((ls.map (F0 L y u)).map m8)) M
theorem X9 {x:D} {y u:Rat} {z:D} {M:Mem} {R:DK} {Y:DXK}:W2 [x,A5 y u,z] M R Y=(∃ (L:List (Str × Rat)) (ls:List (Rat × Rat × Rat)),x=A0 (tbQ L)∧z = .vl (ls.map m8)∧(∃ S,CDQ 230 (tbQ L)∧CD S y 0 u 0∧S≤1700∧ls.length≤40∧∀ l∈ls,sz l.1≤230∧sz l.2.1≤230)∧R (.vl ((ls.map (F0 L y u)).map m8)) M):=propext ⟨fun z=>by obtain ⟨_,_,_,_,_,_⟩:=z; walk_at "inj",fun h=>⟨x,y,u,z,rfl,h⟩⟩
end GM
namespace L2
open PySem PySem.Spec PyProof.Rows
theorem a9u (a d:Value):argsOk "min" ⟨[a],[(Str.ofString "default",d)]⟩:=by unfold argsOk; kernel_rfl
def A6 (h0 h:Heap):Prop:=∀ b o,h0.get? b=some o→h.get? b=some o
def a8M (prog:Program) (w:World) (A:Around) (h0:Heap) (P:Nat→Value→Prop) (bt:Nat→Nat→Bool):Prop :=
 ∀ i j x y (s:Shared) (Q:Value→Shared→Prop) (E:Value→Shared→Prop),A6 h0 s.heap→P i x→P j y→Q (.bool (bt i j)) s→wpAny (model prog w) A (richCompare .Lt x y) Q E s
section
variable {prog:Program} {w:World} {A:Around} {R:Result→Shared→Prop} {I S:Addr} {fp wr:List Addr} {n:Nat} {P:Nat→Value→Prop} {St:Nat→Heap→Prop} {bt:Nat→Nat→Bool} {h0:Heap}
theorem a8f:(toString "min" ++ toString ".loop" : String) = "min.loop" := by decide
abbrev dfl:List (Str × Value):=[(Str.ofString "default",.none)]
theorem a62 (W:Walks prog w A.in1 I fp wr n P St) (cmp:a8M prog w A.in1 h0 P bt) (nf:S∉fp) (n0:h0.get? S=none) (w0:∀ b∈wr,h0.get? b=none) :
  ∀ (k j:Nat) (s:Shared) (x:Value) (c:Nat),j+1+k=n→A6 h0 s.heap→St (j+1) s.heap→P (argBest bt j) x→s.heap.get? S=some { cls:=.type "list",dict:=none,data:=.seq #[x,x] c,slots:=#[] } →
  (∀ v h2 tk,P (argBest bt (n - 1)) v→A6 h0 h2→R (.ok (.ret v)) { s with heap:=h2,toks:=tk })→codeAny (model prog w) A (.builtin "min.loop" ⟨[.ref I,.none,.ref S],dfl⟩) R s:=by
 have nw:S∉wr:=fun z=>nf (W.sub _ z)
 have onw:∀ {h h2:Heap},A6 h0 h→(∀ b o,b∉wr→h.get? b=some o→h2.get? b=some o)→A6 h0 h2:=fun st kp b o e=>kp b o (fun z=>by rw [w0 b z] at e; cases e) (st b o e)
 have onS:∀ {h:Heap} {g:Obj→Obj},A6 h0 h→A6 h0 (h.update S g):=fun st b o e=>(Heap.get?_update_other _ _ (fun z:S=b=>by rw [← z,n0] at e; cases e)).trans (st b o e)
 intro k
 induction k with
 | zero =>
  intro j s x c ej st hst px oS fin
  refine codeAny_builtin F.entry_min_loop ?_
  rw [Around.under_plainId F.plain_min_loop _]
  show wpAny _ A.in1 (seqItems? (.ref S) >>= _) _ _ s
  refine wpAny_bind (wpAny_seqItems oS rfl ?_)
  show wpAny _ A.in1 (tryCatch (pyNext (.ref I)) _ >>= _) _ _ s
  have ej:j+1=n:=by omega
  refine wpAny_bind (wpAny_tryCatch (W.done s _ _ (ej▸hst) fun h2 tk kp=>?_))
  have oS2:=kp S _ nw oS
  show wpAny _ A.in1 (updateSeq S (fun _=>#[]) >>= _) _ _ _
  refine wpAny_bind ?_
  refine wpAny_updateSeq oS2 rfl (wpAny_bind (wpAny_letGo (wpAny_pure ?_)))
  exact fin x _ tk (by rw [← ej]; exact px) (onS (onw st kp))
 | succ k ih =>
  intro j s x c ej st hst px oS fin
  refine codeAny_builtin F.entry_min_loop ?_
  rw [Around.under_plainId F.plain_min_loop _]
  show wpAny _ A.in1 (seqItems? (.ref S) >>= _) _ _ s
  refine wpAny_bind (wpAny_seqItems oS rfl ?_)
  show wpAny _ A.in1 (tryCatch (pyNext (.ref I)) _ >>= _) _ _ s
  refine wpAny_bind (wpAny_tryCatch (W.item (j+1) s _ _ (by omega) hst fun y h2 tk py hst2 kp=>?_))
  have oS2:=kp S _ nw oS
  have st2:=onw st kp
  show wpAny _ A.in1 (tryCatch (holding [y,y] (richCompare .Lt y x >>= _)) _ >>= _) _ _ _
  refine wpAny_bind (wpAny_tryCatch (wpAny_holding (wpAny_bind (cmp (j+1) (argBest bt j) y x _ _ _ st2 py px ?_))))
  refine wpAny_bind (wpAny_holding (wpAny_truthy_bool ?_))
  refine wpAny_bind (wpAny_letGo (wpAny_pure ?_))
  cases hb:bt (j+1) (argBest bt j) with
  | true =>
   simp only [if_true]
   refine wpAny_bind ?_
   refine wpAny_updateSeq oS2 rfl (wpAny_bind (wpAny_letGo ?_))
   rw [a8f]
   refine wpAny_pure ⟨plainId_quiet F.plain_min_loop _,ih (j+1) _ y _ (by omega) (onS st2) (W.frame _ _ _ hst2 fun b bf o e=>?_) (by simp only [argBest,hb,if_true]; exact py) (Heap.get?_update_self _ oS2 rfl) fin⟩
   exact (Heap.get?_update_other _ _ (fun z:S=b=>nf (by rw [z]; exact bf))).trans e
  | false =>
   simp only [Bool.false_eq_true,if_false]
   refine wpAny_bind (wpAny_letGo ?_)
   rw [a8f]
   exact wpAny_pure ⟨plainId_quiet F.plain_min_loop _,ih (j+1) _ x c (by omega) st2 hst2 (by simp only [argBest,hb,Bool.false_eq_true,if_false]; exact px) oS2 fin⟩
theorem a63 (W:Walks prog w A.in1 I fp wr n P St) (cmp:a8M prog w A.in1 h0 P bt) (nf:S∉fp) (n0:h0.get? S=none) (w0:∀ b∈wr,h0.get? b=none) {s:Shared} {c:Nat} (st:A6 h0 s.heap) (hst:St 0 s.heap)
  (oS:s.heap.get? S=some { cls:=.type "list",dict:=none,data:=.seq #[] c,slots:=#[] })
  (fin0:n=0→∀ h2 tk,A6 h0 h2→R (.ok (.ret .none)) { s with heap:=h2,toks:=tk })
  (fin:0<n→∀ v h2 tk,P (argBest bt (n - 1)) v→A6 h0 h2→R (.ok (.ret v)) { s with heap:=h2,toks:=tk }):codeAny (model prog w) A (.builtin "min.loop" ⟨[.ref I,.none,.ref S],dfl⟩) R s:=by
 have nw:S∉wr:=fun z=>nf (W.sub _ z)
 have onw:∀ {h h2:Heap},A6 h0 h→(∀ b o,b∉wr→h.get? b=some o→h2.get? b=some o)→A6 h0 h2:=fun st kp b o e=>kp b o (fun z=>by rw [w0 b z] at e; cases e) (st b o e)
 have onS:∀ {h:Heap} {g:Obj→Obj},A6 h0 h→A6 h0 (h.update S g):=fun st b o e=>(Heap.get?_update_other _ _ (fun z:S=b=>by rw [← z,n0] at e; cases e)).trans (st b o e)
 refine codeAny_builtin F.entry_min_loop ?_
 rw [Around.under_plainId F.plain_min_loop _]
 show wpAny _ A.in1 (seqItems? (.ref S) >>= _) _ _ s
 refine wpAny_bind (wpAny_seqItems oS rfl ?_)
 show wpAny _ A.in1 (tryCatch (pyNext (.ref I)) _ >>= _) _ _ s
 rcases Nat.eq_zero_or_pos n with z | z
 ·subst z
  refine wpAny_bind (wpAny_tryCatch (W.done s _ _ hst fun h2 tk kp=>?_))
  show wpAny _ A.in1 (rule _ >>= _) _ _ _
  exact wpAny_bind (wpAny_rule (wpAny_pure (fin0 rfl h2 tk (onw st kp))))
 ·refine wpAny_bind (wpAny_tryCatch (W.item 0 s _ _ z hst fun y h2 tk py hst2 kp=>?_))
  have oS2:=kp S _ nw oS
  show wpAny _ A.in1 (updateSeq S (fun _=>#[y,y]) >>= _) _ _ _
  refine wpAny_bind ?_
  refine wpAny_updateSeq oS2 rfl ?_
  rw [a8f]
  refine wpAny_pure ⟨plainId_quiet F.plain_min_loop _,a62 W cmp nf n0 w0 (n - 1) 0 _ y _ (by omega) (onS (onw st kp)) (W.frame _ _ _ hst2 fun b bf o e=>?_) py (Heap.get?_update_self _ oS2 rfl) (fin z)⟩
  exact (Heap.get?_update_other _ _ (fun z:S=b=>nf (by rw [z]; exact bf))).trans e
theorem a7o {l:Addr} {vs:Array Value} {s:Shared} {Q:Value→Shared→Prop} {E:Value→Shared→Prop} (hh:A.handled=none) (hl:s.heap.IsList l vs) (cmp:a8M prog w A.in1 s.heap (fun i v=>vs[i]? = some v) bt)
  (fin0:vs.size=0→∀ h2 tk,A6 s.heap h2→Q .none { s with heap:=h2,toks:=tk })
  (fin:0<vs.size→∀ v h2 tk,vs[argBest bt (vs.size - 1)]? = some v→A6 s.heap h2→Q v { s with heap:=h2,toks:=tk }) :
  wpAny (model prog w) A (call (.builtin "min") [.ref l] dfl) Q E s:=by
 have lt:l<s.heap.objs.size:=by obtain ⟨o,ho,_⟩:=hl; exact Heap.lt_size ho
 refine kmb_tree F.kind_min F.plain_min F.entry_min (a9u _ _) ?_
 show wpAny _ A.in1 (Builtin.Builtins.bindParams "min" ["key", "default"] 0 ⟨[],dfl⟩ >>= _) _ _ s
 refine wpAny_bind (wpAny_of_eq (a:=[none,some .none]) rfl ?_)
 refine wpAny_bind (wpAny_pure ?_)
 refine wpAny_bind (wpAny_pyIter_list hl ?_)
 refine wpAny_bind (wpAny_newObj_type ?_)
 rw [a8f]
 have z1:(s.heap.push { cls:=.type "list_iterator",data:=.fields #[.ref l,.int 0 0] }).objs.size=s.heap.objs.size+1:=Heap.size_push ..
 have fr:∀ b,s.heap.objs.size≤b→s.heap.get? b=none:=fun b hb=>Heap.get?_none_of_le hb
 refine wpAny_pure ⟨plainId_quiet F.plain_min_loop _,?_⟩
 refine a63 (Walks.list (A:=A.in1) hh s.heap.objs.size l (Nat.ne_of_lt lt) vs) cmp (fun hm=>?_) (fr _ (by rw [z1]; omega)) (fun b hb=>by rw [List.mem_singleton.mp hb]; exact fr _ (Nat.le_refl _)) (fun b o e=>Heap.get?_push_of_some _ (Heap.get?_push_of_some _ e)) ⟨⟨_,Heap.get?_push_of_some _ (Heap.get?_push_size _ rfl),rfl,rfl⟩,(hl.push _).push _⟩ (Heap.get?_push_size _ rfl) (fun z h2 tk st=>fin0 z h2 tk st) (fun z v h2 tk pv st=>fin z v h2 tk pv st)
 rcases List.mem_cons.mp hm with hm | hm
 ·rw [z1] at hm; exact Nat.ne_of_gt (Nat.lt_succ_self _) hm
 ·have e:=List.mem_singleton.mp hm
  rw [z1] at e
  rw [← e] at lt
  exact Nat.lt_irrefl _ (Nat.lt_of_succ_lt lt)
end
end L2
namespace L2
open PySem PySem.Spec PyProof.Rows
theorem A6.tup {h h2:Heap} {a:Addr} {its:Array Value} (st:A6 h h2) (t:IsTup h a its):IsTup h2 a its:=by
 obtain ⟨o,ho,r⟩:=t
 exact ⟨o,st a o ho,r⟩
theorem b4n {a b c d:Int}:HT.A3 [a,b] [c,d]=true↔a<c∨(a=c∧b<d):=by
 rw [HT.W6]
 by_cases h:a=c
 ·rw [if_pos h,HT.W6]
  by_cases h2:b=d
  ·rw [if_pos h2,HT.U3]; simp; omega
  ·rw [if_neg h2,decide_eq_true_eq]; omega
 ·rw [if_neg h,decide_eq_true_eq]; omega
theorem b59 (p:Nat→Int × Int):∀ k,argBest (fun i j=>HT.A3 [(p i).1,(p i).2] [(p j).1,(p j).2]) k≤k∧∀ j,j≤k→¬ HT.A3 [(p j).1,(p j).2] [(p (argBest (fun i j=>HT.A3 [(p i).1,(p i).2] [(p j).1,(p j).2]) k)).1,(p (argBest (fun i j=>HT.A3 [(p i).1,(p i).2] [(p j).1,(p j).2]) k)).2]=true
 | 0=>⟨Nat.le_refl _,fun j hj=>by
  obtain rfl:j=0:=by omega
  show ¬ HT.A3 [(p 0).1,(p 0).2] [(p 0).1,(p 0).2]=true
  rw [b4n]; omega⟩
 | k+1=>by
  obtain ⟨h1,h2⟩:=b59 p k
  generalize hb:argBest (fun i j=>HT.A3 [(p i).1,(p i).2] [(p j).1,(p j).2]) k=b at *
  have e:argBest (fun i j=>HT.A3 [(p i).1,(p i).2] [(p j).1,(p j).2]) (k+1)=if HT.A3 [(p (k+1)).1,(p (k+1)).2] [(p b).1,(p b).2]=true then k+1 else b:=by
   rw [← hb]; rfl
  rw [e]
  by_cases h:HT.A3 [(p (k+1)).1,(p (k+1)).2] [(p b).1,(p b).2]=true
  ·rw [if_pos h]
   refine ⟨Nat.le_refl _,fun j hj=>?_⟩
   rcases Nat.lt_or_ge k j with z | z
   ·obtain rfl:j=k+1:=by omega
    rw [b4n]; omega
   ·have:=h2 j z
    rw [b4n] at *; omega
  ·rw [if_neg h]
   refine ⟨by omega,fun j hj=>?_⟩
   rcases Nat.lt_or_ge k j with z | z
   ·obtain rfl:j=k+1:=by omega
    exact h
   ·exact h2 j z
section
variable {X:Cx} {e:Expr} {p pos:Pos} {t:TA}
def b9f (K:PySem.W.Frag) (xs:List V) (H:Hp) (Q:VK):Prop:=∃ (l:Addr) (as:List Addr) (ps:List (Int × Int)),xs=[.ref l]∧SqL K H l (as.map V.ref)∧as.length=ps.length∧(∀ (i:Nat) (a:Addr) (p:Int × Int),as[i]? = some a→ps[i]? = some p→SqT K H a ([p.1,p.2].map V.int)) ∧
 (ps=[]→Q .non H)∧∀ (i:Nat) (a:Addr) (p:Int × Int),as[i]? = some a→ps[i]? = some p→(∀ q∈ps,¬ HT.A3 [q.1,q.2] [p.1,p.2]=true)→Q (.ref a) H
theorem a5c:∀ {as:List Addr} {us:List Value},j9 (as.map V.ref) us→us=as.map Value.ref
 | [],us,h=>by cases h; rfl
 | a :: as,us,h=>by
  cases h with
  | cons r t=>rw [a5c t]; cases r; rfl
theorem b3T {kj kp kq} (hu:X.A.units+64<cLine) (hc:X.calm=true) (hg:Gl X "min") (hm:X.mg "min" = none) (hv:bootBuiltins "min" = some (.builtin "min")) (ha:PA X [e] t) (he:backTo pos (starEach [e] X.env)=(false,eval e X.env) :: backTo pos (starEach [] X.env):=by rfl)
  (hpl:(backTo pos (starEach [e] X.env)).any (·.1)=false:=by rfl):PE X (.Call (.Name "min" p) [e] [⟨some "default",.Constant .none kj kp,kq⟩] pos) (tCB (b9f X.K) t):=by
 intro pins s σ H Q I h
 refine wpAny_Call_Name_kw (K0 I hg hm hv ?_ (by decide) (by decide))
 refine callWith_kw (thn (ha pos pins s σ H _ I h) fun us s1 ⟨vs,H1,I1,r1,q1⟩=>kws_cons (Constant_none (kws_nil ?_))) he hpl
 obtain ⟨l,as,ps,rfl,hS,hlen,hT,q0,q⟩:=q1
 obtain ⟨u,rfl,ru⟩:=Y1 r1
 cases ru
 obtain ⟨its,rv,pl,_⟩:=I1.list hS
 have ei:=a5c rv
 subst ei
 have hl:s1.heap.IsList l (as.map Value.ref).toArray:=pl.isList
 have sz:(as.map Value.ref).toArray.size=ps.length:=by rw [List.size_toArray,List.length_map,hlen]
 let pp:Nat→Int × Int:=fun i=>ps.getD i (0,0)
 have cmp:a8M X.prog X.w X.A.in1 s1.heap (fun i v=>(as.map Value.ref).toArray[i]? = some v) (fun i j=>HT.A3 [(pp i).1,(pp i).2] [(pp j).1,(pp j).2]):=by
  intro i j x y s2 Q2 E2 st hx hy q2
  have one:∀ {i:Nat} {x:Value},(as.map Value.ref).toArray[i]? = some x→∃ a its,x = .ref a∧IsTup s2.heap a its∧IntsAre its.toList [(pp i).1,(pp i).2]:=fun {i x} hx=>by
   rw [List.getElem?_toArray,List.getElem?_map] at hx
   obtain ⟨a,hai,rfl⟩:=Option.map_eq_some_iff.mp hx
   have hi:i<ps.length:=by rw [← hlen]; exact (List.getElem?_eq_some_iff.mp hai).1
   have hpi:=List.getElem?_eq_getElem hi
   obtain ⟨its,r2,p2,_⟩:=I1.tuple (hT i a _ hai hpi)
   refine ⟨a,its.toArray,rfl,st.tup p2,?_⟩
   have:pp i=ps[i]:=by show ps.getD i (0,0)=_; rw [List.getD_eq_getElem?_getD,hpi]; rfl
   rw [this]
   exact a10 r2
  obtain ⟨a,i1,rfl,t1,n1⟩:=one hx
  obtain ⟨b,i2,rfl,t2,n2⟩:=one hy
  exact HT.a65 t1 t2 n1 n2 (by show X.A.units+1<cLine; omega) q2
 refine a7o (I1.ok.hd hc) hl cmp (fun z h2 tk st=>?_) (fun z v h2 tk hv2 st=>?_)
 ·rw [sz] at z
  exact ⟨.non,H1,I1.kept st,rfl,q0 (List.eq_nil_of_length_eq_zero z)⟩
 ·rw [sz] at z hv2
  obtain ⟨b1,b2⟩:=b59 pp (ps.length - 1)
  generalize argBest (fun i j=>HT.A3 [(pp i).1,(pp i).2] [(pp j).1,(pp j).2]) (ps.length - 1)=b at *
  rw [List.getElem?_toArray,List.getElem?_map] at hv2
  obtain ⟨a,hab,rfl⟩:=Option.map_eq_some_iff.mp hv2
  have hb:b<ps.length:=by omega
  have hpb:=List.getElem?_eq_getElem hb
  have eb:pp b=ps[b]:=by show ps.getD b (0,0)=_; rw [List.getD_eq_getElem?_getD,hpb]; rfl
  rw [eb] at b2
  refine ⟨.ref a,H1,I1.kept st,rfl,q b a _ hab hpb fun r hr=>?_⟩
  obtain ⟨j,hj⟩:=List.getElem?_of_mem hr
  have ej:pp j=r:=by show ps.getD j (0,0)=_; rw [List.getD_eq_getElem?_getD,hj]; rfl
  have:=b2 j (by have:=(List.getElem?_eq_some_iff.mp hj).1; omega)
  rw [ej] at this
  exact this
end
end L2
namespace DL
open PySem PySem.Spec L2
open PyProof.Rows hiding St
section
variable {X:Cx} {e:Expr} {p pos:Pos} {t:DTA}
def a0U (p:Int × Int):D:=.tup [.int p.1,.int p.2]
def b5X:DRC:=fun ds M R=>∃ ps:List (Int × Int),ds=[.vl (ps.map a0U)]∧(ps=[]→R .non M)∧∀ p∈ps,(∀ q∈ps,¬ (q.1<p.1∨(q.1=p.1∧q.2<p.2)))→R (a0U p) M
theorem HasL.prs2 {K:PySem.W.Frag} {H:Hp}:∀ {ps:List (Int × Int)} {xs:List V},HasL K H xs (ps.map a0U)→∃ as:List Addr,xs=as.map V.ref∧as.length=ps.length∧∀ (i:Nat) (a:Addr) (p:Int × Int),as[i]? = some a→ps[i]? = some p→SqT K H a ([p.1,p.2].map V.int)
 | [],xs,h=>by cases h; exact ⟨[],rfl,rfl,fun i a p h=>by simp at h⟩
 | p :: ps,xs,h=>by
  cases h with
  | cons h1 h2 =>
   obtain ⟨as,rfl,hl,ht⟩:=HasL.prs2 h2
   unfold a0U at h1
   cases h1 with
   | tup sq hi =>
    rename_i a xs
    cases hi with
    | cons i1 hi=>cases hi with
     | cons i2 hi =>
      cases hi; cases i1; cases i2
      refine ⟨a :: as,rfl,by rw [List.length_cons,List.length_cons,hl],fun i b q hb hq=>?_⟩
      cases i with
      | zero=>cases hb; cases hq; exact sq
      | succ i=>exact ht i b q hb hq
theorem b4u {kj kp kq} (hu:X.A.units+64<cLine) (hc:X.calm=true) (hg:Gl X "min") (hm:X.mg "min" = none) (hv:bootBuiltins "min" = some (.builtin "min")) (ha:JA X [e] t) (he:backTo pos (starEach [e] X.env)=(false,eval e X.env) :: backTo pos (starEach [] X.env):=by rfl)
  (hpl:(backTo pos (starEach [e] X.env)).any (·.1)=false:=by rfl):JE X (.Call (.Name "min" p) [e] [⟨some "default",.Constant .none kj kp,kq⟩] pos) (dCB b5X t):=by
 refine ⟨(b3T hu hc hg hm hv ha.out he hpl).imp fun σ H Q ⟨e,M,R,ok,am,t,f⟩=>⟨e,M,_,ok,am,t,fun ds M1 ⟨ps,z,r0,r⟩ vs H1 k1 a1 hl=>?_⟩⟩
 subst z
 obtain ⟨v,rfl,hv⟩:=hl.one
 obtain ⟨a,xs,rfl,hS,hL⟩:=C8 a1 hv (show Q8 M1 (.vl (ps.map a0U))=some (ps.map a0U) from rfl)
 obtain ⟨as,rfl,hlen,hT⟩:=hL.prs2
 refine ⟨a,as,ps,rfl,hS,hlen,hT,fun z=>f _ _ (r0 z) _ _ k1 a1 .non,fun i b q hb hq hm=>?_⟩
 refine f _ _ (r q (List.mem_of_getElem? hq) fun x hx=>by rw [← b4n]; exact hm x hx) _ _ k1 a1 ?_
 exact .tup (hT i b q hb hq) (.cons (.int _) (.cons (.int _) .nil))
end
end DL
namespace DL
theorem b6n {ps:List (Int × Int)} {M:Mem} {R:DK}:b5X [.vl (ps.map a0U)] M R=((ps=[]→R .non M)∧∀ p∈ps,(∀ q∈ps,¬ (q.1<p.1∨(q.1=p.1∧q.2<p.2)))→R (a0U p) M):=propext ⟨fun ⟨qs,e,h⟩=>by
 have inj:∀ {x y:Int × Int},a0U x=a0U y→x=y:=fun {x y} h=>by
  unfold a0U at h
  injection h with h; injection h with h1 h; injection h with h2 _
  injection h1 with h1; injection h2 with h2
  exact Prod.ext h1 h2
 have e:ps=qs:=by
  injection e with e _
  injection e with e
  exact (List.map_inj_right (fun _ _=>inj)).mp e
 subst e; exact h,fun h=>⟨_,rfl,h⟩⟩
end DL
namespace L2
open PySem PySem.Spec PyProof.Rows
def a5w (n:Nat):List V:=(List.range n).map fun i:Nat=>V.int (i:Int)
def tLr (ta:TA):TE:=fun σ H Q=>ta σ H fun vs H1=>∃ n:Nat,vs=[.int (n:Int)]∧n≤1000∧∀ l,H1 l=none→Q (.ref l) (upd H1 l (.lst (a5w n)))
theorem a81 (n:Nat):Builtin.Range.rangeSize 0 (n:Int) 1=n:=by
 unfold Builtin.Range.rangeSize
 rw [if_pos (by decide)]
 by_cases h:(0:Int)<(n:Int)
 ·rw [if_pos h,Int.ediv_one]; omega
 ·rw [if_neg h]; omega
theorem a8T {n:Nat} {acc:Array Value} (h:ItemsOf (fun i v=>∃ t,v=Value.int (0+(i:Int)*1) t) acc n):j9 (a5w n) acc.toList:=by
 obtain ⟨hs,hv⟩:=h
 have key:∀ (k:Nat) (us:List Value),(∀ (j:Nat) v,us[j]? = some v→∃ t,v=Value.int ((k+j:Nat):Int) t)→j9 ((List.range us.length).map fun i:Nat=>V.int ((k+i:Nat):Int)) us:=by
  intro k us
  induction us generalizing k with
  | nil=>intro _; exact .nil
  | cons u us ih =>
   intro h
   rw [List.length_cons,List.range_succ_eq_map,List.map_cons,List.map_map]
   obtain ⟨t,rfl⟩:=h 0 u rfl
   refine .cons ⟨t,rfl⟩ ?_
   have:=ih (k+1) fun j v hj=>by
    obtain ⟨t,e⟩:=h (j+1) v hj
    exact ⟨t,by rw [e]; congr 1; omega⟩
   have e:((fun i:Nat=>V.int ((k+i:Nat):Int)) ∘ Nat.succ)=fun i:Nat=>V.int ((k+1+i:Nat):Int):=by
    funext i; show V.int ((k+(i+1):Nat):Int)=_; congr 1; omega
   rw [e]; exact this
 have:=key 0 acc.toList fun j v hj=>by
  rw [Array.getElem?_toList] at hj
  obtain ⟨t,e⟩:=hv j v hj
  exact ⟨t,by rw [e]; congr 1; omega⟩
 rw [Array.length_toList,hs] at this
 have e:a5w n=(List.range n).map fun i:Nat=>V.int ((0+i:Nat):Int):=by
  unfold a5w; congr 1; funext i; congr 1; omega
 rw [e]; exact this
theorem a4b {X:Cx} {a:Expr} {ta:TA} {p1 p2 pos1 pos2:Pos} (hc:X.calm=true) (g1:Gl X "list") (n1:X.mg "list" = none) (v1:bootBuiltins "list" = some (.type "list")) (g2:Gl X "range") (n2:X.mg "range" = none) (ha:PA X [a] ta)
  (hs:starEach [a] X.env=[(false,eval a X.env)]:=by rfl) (hs3:starEach [.Call (.Name "range" p2) [a] [] pos2] X.env=[(false,eval (.Call (.Name "range" p2) [a] [] pos2) X.env)]:=by rfl) :
  PE X (.Call (.Name "list" p1) [.Call (.Name "range" p2) [a] [] pos2] [] pos1) (tLr ta):=by
 intro pins s σ H Q I h
 refine wpAny_Call_Name_kw (K0 I g1 n1 v1 ?_ (by decide) (by decide))
 refine PyProof.Rows.callWith_type1 ?_ (by rw [hs3]; rfl) (by rfl)
 rw [hs3]
 show wpAny _ _ (spliced ((false,eval (.Call (.Name "range" p2) [a] [] pos2) X.env) :: backTo pos1 (starEach [] X.env))) _ _ s
 refine Calls.spliced_cons ?_
 refine wpAny_Call_Name_kw (K0 I g2 n2 boot_range (PyProof.Rows.callWith_type1 (thn (ha pos2 pins s σ H _ I h) fun us s1 ⟨vs,H1,I1,r1,q1⟩=>?_) (by rw [hs]; rfl) (by rfl)) (by decide) (by decide))
 obtain ⟨n,rfl,hn,q⟩:=q1
 obtain ⟨u,rfl,ru⟩:=Y1 r1
 obtain ⟨t,rfl⟩:=ru
 refine call_range_1 ?_
 refine Calls.spliced_nil ?_
 refine call_list_range (n:=n) (I1.ok.hd hc) (Heap.get?_push_size _ rfl) (small_one (by omega) (by omega) (by omega) (by omega)) (a81 n) (by omega) fun h' tk acc c kk e2 e3=>?_
 have k0:∀ b o,s1.heap.get? b=some o→h'.get? b=some o:=fun b o e=>kk b o (Heap.get?_push_of_some _ e)
 have big:s1.heap.objs.size≤(s1.heap.push { cls:=.type "range",data:=.fields #[.int 0 s1.toks,.int (n:Int) t,.int 1 (s1.toks+1)] }).objs.size:=by rw [Heap.size_push]; exact Nat.le_succ _
 refine ⟨.ref _,_,I1.laid (t':=tk) (o:=.lst (a5w n)) k0 big ?_,rfl,q _ (I1.hok.fresh big)⟩
 refine ⟨?_,acc.toList,c,a8T e3,?_⟩
 ·unfold a5w
  rw [List.length_map,List.length_range]
  exact Nat.le_trans hn (by decide)
 ·rw [Array.toArray_toList]; exact e2
end L2
namespace DL
open PySem PySem.Spec L2
open PyProof.Rows hiding St
section
variable {X:Cx} {a:Expr} {ta:DTA} {p1 p2 pos1 pos2:Pos}
def dLr (ta:DTA):DTE:=fun e M R=>ta e M fun ds M1=>∃ n:Nat,ds=[.int (n:Int)]∧n≤1000∧R (.vl ((List.range n).map fun i:Nat=>D.int (i:Int))) M1
theorem b3G {K:PySem.W.Frag} {H:Hp} (n:Nat):HasL K H (a5w n) ((List.range n).map fun i:Nat=>D.int (i:Int)):=by
 unfold a5w
 induction (List.range n) with
 | nil=>exact .nil
 | cons i r ih=>exact .cons (.int _) ih
theorem a4r (hc:X.calm=true) (g1:Gl X "list") (n1:X.mg "list" = none) (v1:bootBuiltins "list" = some (.type "list")) (g2:Gl X "range") (n2:X.mg "range" = none) (ha:JA X [a] ta)
  (hs:starEach [a] X.env=[(false,eval a X.env)]:=by rfl) (hs3:starEach [.Call (.Name "range" p2) [a] [] pos2] X.env=[(false,eval (.Call (.Name "range" p2) [a] [] pos2) X.env)]:=by rfl) :
  JE X (.Call (.Name "list" p1) [.Call (.Name "range" p2) [a] [] pos2] [] pos1) (dLr ta):=by
 refine ⟨(W3 (a4b hc g1 n1 v1 g2 n2 ha.out hs hs3)).imp fun σ H Q ⟨e,M,R,ok,am,t,f⟩=>⟨e,M,_,ok,am,t,fun ds M1 ⟨n,z,hn,r⟩ vs H1 k1 a1 r1=>?_⟩⟩
 subst z
 obtain ⟨v,rfl,hv⟩:=r1.one
 cases hv
 exact ⟨n,rfl,hn,fun p hp=>Z7 f k1 a1 (b3G n) r p hp⟩
theorem c0e {ta:DTA} {e:Ev} {M:Mem} {R:DK}:dLr ta e M R=ta e M fun ds M1=>∃ n:Nat,ds=[.int (n:Int)]∧n≤1000∧R (.vl ((List.range n).map fun i:Nat=>D.int (i:Int))) M1:=rfl
end
end DL
namespace GM
open PySem PySem.Spec L2 DL
open RM (sz)
theorem b3u (t x f:Rat):swQ t f (t*f - x)=swQ t x f:=by unfold swQ; grind
theorem b5N (t:Rat) (p:Rat × Rat):∀ n,swQ t (stQ t p n).1 (stQ t p n).2=swQ t p.1 p.2
 | 0=>rfl
 | n+1=>by
  show swQ t (stQ t p n).2 (t*(stQ t p n).2 - (stQ t p n).1)=_
  rw [b3u,b5N t p n]
theorem b6v {a r:Rat} (hr:0≤r) (h:a*a≤r*r):¬ r<f7 a:=by
 intro z
 have h1:f7 a*f7 a=a*a:=by unfold f7; split <;> grind
 have:=Rat.mul_pos (a:=f7 a - r) (b:=f7 a+r) (by grind) (by grind)
 grind
theorem a6o {t x f r:Rat} (t1:-2<t) (t2:t<2) (hr:0<r) (h:¬ r*r<a2s t x f) (n:Nat):¬ D1 t (x,f,r) n:=by
 have h4:=b5M t1 t2
 unfold D1
 have e:=b5N t (x,f) n
 have e:swQ t (stQ t (x,f) n).1 (stQ t (x,f) n).2=swQ t x f:=e
 generalize (stQ t (x,f) n).1=a at *
 generalize (stQ t (x,f) n).2=b at *
 refine b6v (by grind) ?_
 have r1:a2s t x f=4*swQ t x f / (4 - t*t):=rfl
 rw [r1,← e] at h
 have p:(0:Rat)≤(2*b - t*a)*(2*b - t*a):=by
  rcases Rat.le_total (a:=0) (b:=2*b - t*a) with z | z
  ·exact Rat.mul_nonneg z z
  ·have:=Rat.mul_nonneg (a:=-(2*b - t*a)) (b:=-(2*b - t*a)) (by grind) (by grind)
   grind
 apply Classical.byContradiction
 intro nz
 apply h
 rw [Rat.lt_div_iff h4]
 have m1:=Rat.mul_pos (a:=a*a - r*r) (b:=4 - t*t) (by grind) h4
 unfold swQ
 grind
theorem b94 {t k x:Rat} (hk:k*k - t*k+1=0):∀ n,(stQ t (x,k*x) n).2=k*(stQ t (x,k*x) n).1
 | 0=>rfl
 | n+1=>by
  show t*(stQ t (x,k*x) n).2 - (stQ t (x,k*x) n).1=k*(stQ t (x,k*x) n).2
  rw [b94 hk n]
  generalize (stQ t (x,k*x) n).1=a
  have:(k*k - t*k+1)*a=0:=by rw [hk]; grind
  grind
theorem a8k {t k x r:Rat} (hk:k*k - t*k+1=0) (h1:f7 k≤1) (h:¬ r<f7 x):∀ n,¬ r<f7 (stQ t (x,k*x) n).1
 | 0=>h
 | n+1=>by
  show ¬ r<f7 (stQ t (x,k*x) n).2
  rw [b94 hk n,a2b]
  have ih:=a8k hk h1 h n
  generalize (stQ t (x,k*x) n).1=a at *
  have a0:0≤f7 a:=by unfold f7; split <;> grind
  have:=Rat.mul_nonneg (a:=1 - f7 k) (b:=f7 a) (by grind) a0
  grind
theorem a08 {t r:Rat} (hr:0<r):∀ n,(stQ t (0,0) n)=(0,0)
 | 0=>rfl
 | n+1=>by
  show ((stQ t (0,0) n).2,t*(stQ t (0,0) n).2 - (stQ t (0,0) n).1)=_
  rw [a08 hr n]
  show ((0:Rat),t*0 - 0)=(0,0)
  congr 1; grind
theorem a67 {m:Q4} (hs:¬ u7 m) {l:Rat × Rat × Rat} (hr:0<l.2.2) (hl:F9 m l.1 l.2.1 l.2.2=false) (h0:¬ l.2.2<f7 l.1) (n:Nat):¬ D1 (trQ m) l n:=by
 obtain ⟨x,f,r⟩:=l
 have hr:0<r:=hr
 have h0:¬ r<f7 x:=h0
 have hl:F9 m x f r=false:=hl
 unfold F9 at hl
 rw [if_neg hs] at hl
 by_cases h2:f7 (trQ m)<2
 ·rw [if_pos h2] at hl
  obtain ⟨t1,t2⟩:=a4E.mp h2
  exact a6o t1 t2 hr (of_decide_eq_false hl) n
 ·rw [if_neg h2] at hl
  by_cases hw:swQ (trQ m) x f≠0
  ·rw [if_pos hw] at hl; cases hl
  ·rw [if_neg hw] at hl
   have hw:swQ (trQ m) x f=0:=Classical.byContradiction hw
   unfold D1
   show ¬ r<f7 (stQ (trQ m) (x,f) n).1
   by_cases hx:x=0
   ·have hf:f=0:=by
     rw [hx] at hw
     unfold swQ at hw
     grind
    rw [hx,hf,a08 hr n]
    have:f7 (0:Rat)=0:=by decide +kernel
    rw [this]; grind
   ·have hk:(f / x)*(f / x) - trQ m*(f / x)+1=0:=by
     rw [b89 hx] at hw
     have:=Rat.mul_eq_zero.mp hw
     rcases this with z | z
     ·rcases Rat.mul_eq_zero.mp z with z | z <;> exact absurd z hx
     ·grind
    have ef:f=(f / x)*x:=by grind
    have h1:f7 (f / x)≤1:=by
     by_cases h3:f7 (trQ m)=2
     ·have ht:trQ m=2∨trQ m = -2:=by
       unfold f7 at h3; split at h3
       ·exact .inl h3
       ·exact .inr (by grind)
      rcases ht with ht | ht
      ·rw [ht] at hk
       have z:(f / x - 1)*(f / x - 1)=0:=by grind
       have:f / x=1:=by rcases Rat.mul_eq_zero.mp z with z | z <;> grind
       rw [this]; decide +kernel
      ·rw [ht] at hk
       have z:(f / x+1)*(f / x+1)=0:=by grind
       have:f / x = -1:=by rcases Rat.mul_eq_zero.mp z with z | z <;> grind
       rw [this]; decide +kernel
     ·rw [if_neg h3] at hl
      have hl:=of_decide_eq_false hl
      have h4:¬ f7 x<f7 f:=fun z=>hl (.inl z)
      rw [b96 (f:=f) hx] at h4
      have p:=b8m hx
      apply Classical.byContradiction
      intro nz
      have:=Rat.mul_pos (a:=f7 (f / x) - 1) (b:=f7 x) (by grind) p
      grind
    rw [ef]
    exact a8k hk h1 h0 n
def a6h (m:Q4) (l:Rat × Rat × Rat):Prop:=∃ p q y u:Rat,l.1=p*y+q*u∧l.2.1=p*(m.1*y+m.2.1*u)+q*(m.2.2.1*y+m.2.2.2*u)
theorem a6v {m:Q4} (hd:W9 m=1) {p q y u:Rat}:∀ n,stQ (trQ m) (p*y+q*u,p*(m.1*y+m.2.1*u)+q*(m.2.2.1*y+m.2.2.2*u)) n=(p*(O5 m (y,u) n).1+q*(O5 m (y,u) n).2,p*(O5 m (y,u) (n+1)).1+q*(O5 m (y,u) (n+1)).2)
 | 0=>rfl
 | n+1=>by
  show ((stQ _ _ n).2,trQ m*(stQ _ _ n).2 - (stQ _ _ n).1)=_
  rw [a6v hd n,b6G hd (y,u) p q n]
theorem b3w {m:Q4} (hd:W9 m=1) (hs:u7 m) {l:Rat × Rat × Rat} (h:a6h m l) (n:Nat):stQ (trQ m) (l.1,l.2.1) (n+rtN m)=stQ (trQ m) (l.1,l.2.1) n:=by
 obtain ⟨p,q,y,u,e1,e2⟩:=h
 obtain ⟨n0,h1,h2,h3⟩:=b6E hd hs
 rw [a37 _ hs] at h1
 have h1:rtN m=n0:=by injection h1 with h1; omega
 subst h1
 have key:∀ k,O5 m (y,u) (k+rtN m)=O5 m (y,u) k:=fun k=>by
  have:pwQ m (k+rtN m)=pwQ m k:=by rw [← b0Q m (rtN m) k,h3,(b1d (pwQ m k)).1]
  rw [a6R,a6R,this]
 rw [e1,e2,a6v hd,a6v hd,key n,show n+rtN m+1=(n+1)+rtN m by omega,key (n+1)]
theorem a6C {m:Q4} (hd:W9 m=1) (hs:u7 m) {l:Rat × Rat × Rat} (h:a6h m l) (hb:∀ n,n<rtN m→¬ D1 (trQ m) l n):∀ n,¬ D1 (trQ m) l n:=fun n=>by
 have hp:=b6F.mp hs
 induction n using Nat.strongRecOn with
 | _ n ih =>
  rcases Nat.lt_or_ge n (rtN m) with z | z
  ·exact hb n z
  ·have:=ih (n - rtN m) (by omega)
   unfold D1 at *
   rw [show n=(n - rtN m)+rtN m by omega,b3w hd hs h]
   exact this
theorem a7b {near far:Rat} {bs:List (Str × Rat)} {y u:Rat}:∀ l∈B6 near bs far y u,a6h (tbQ (e9 near bs far)) l:=fun l hl=>by
 obtain ⟨l0,_,rfl⟩:=List.mem_map.mp hl
 have ol:=S3 (e9 near bs far) y u
 refine ⟨l0.1,l0.2.1,y,u,rfl,?_⟩
 show l0.1*(h8 (e9 near bs far) (y,u)).1+l0.2.1*(h8 (e9 near bs far) (y,u)).2=_
 rw [ol.1,ol.2]; rfl
def a5N (m:Q4):Prop:=u7 m∨f7 (trQ m)=2
def FS (m:Q4) (ls:List (Rat × Rat × Rat)):Option (Nat × Nat)→Prop
 | none=>∀ n k,(a5N m∨n<60)→v6 (trQ m) ls k n=false
 | some z=>v6 (trQ m) ls z.2 z.1=true∧(∀ n,n<z.1→∀ k,v6 (trQ m) ls k n=false)∧(∀ k,k<z.2→v6 (trQ m) ls k z.1=false)∧(a5N m∨z.1<60)
def r9 (m:Q4) (ls:List (Rat × Rat × Rat)):List Nat:=((ls.zipIdx).filter fun z=>F9 m z.1.1 z.1.2.1 z.1.2.2).map Prod.snd
theorem K4 {m:Q4} {ls:List (Rat × Rat × Rat)} {k:Nat}:k∈r9 m ls ↔ ∃ l,ls[k]? = some l∧F9 m l.1 l.2.1 l.2.2=true:=by
 unfold r9
 rw [List.mem_map]
 constructor
 ·rintro ⟨z,hz,rfl⟩
  obtain ⟨h1,h2⟩:=List.mem_filter.mp hz
  exact ⟨z.1,List.mem_zipIdx_iff_getElem?.mp h1,h2⟩
 ·rintro ⟨l,h1,h2⟩
  exact ⟨(l,k),List.mem_filter.mpr ⟨List.mem_zipIdx_iff_getElem?.mpr h1,h2⟩,rfl⟩
theorem b4p (m:Q4) (ls:List (Rat × Rat × Rat)):(r9 m ls).Pairwise (· < ·):=by
 unfold r9
 have h:∀ (xs:List (Rat × Rat × Rat)) (k:Nat),((xs.zipIdx k).map Prod.snd).Pairwise (· < ·):=fun xs k=>by
  rw [List.zipIdx_map_snd]; exact List.pairwise_lt_range'
 have h0:=h ls 0
 rw [List.pairwise_map] at h0 ⊢
 exact h0.filter _
theorem b1j {m:Q4} {ls:List (Rat × Rat × Rat)} {i j a b:Nat} (hi:(r9 m ls)[i]? = some a) (hj:(r9 m ls)[j]? = some b) (h:a<b):i<j:=by
 have pw:=b4p m ls
 rw [List.pairwise_iff_getElem] at pw
 obtain ⟨h1,e1⟩:=List.getElem?_eq_some_iff.mp hi
 obtain ⟨h2,e2⟩:=List.getElem?_eq_some_iff.mp hj
 rcases Nat.lt_trichotomy i j with z | z | z
 ·exact z
 ·subst z; rw [e1] at e2; omega
 ·have:=pw j i h2 h1 z
  rw [e1,e2] at this; omega
theorem a0c {t:Rat} {ls:List (Rat × Rat × Rat)} {k n:Nat}:v6 t ls k n=true ↔ ∃ l,ls[k]? = some l∧D1 t l n:=by
 unfold v6
 cases h:ls[k]? with
 | none=>simp
 | some l=>simp
theorem J1 {t:Rat} {ls:List (Rat × Rat × Rat)} {k n:Nat}:v6 t ls k n=false ↔ ∀ l,ls[k]? = some l→¬ D1 t l n:=by
 unfold v6
 cases h:ls[k]? with
 | none=>simp
 | some l=>simp
theorem P3 {t:Rat} {ls:List (Rat × Rat × Rat)} {ws:List Nat} {N:Nat} (h:O4 t ls ws N=none):∀ n,n<N→∀ k∈ws,v6 t ls k n=false:=by
 intro n hn k hk
 unfold O4 at h
 cases e:(List.range N).find? fun n=>ws.any fun k=>v6 t ls k n with
 | none =>
  have:=List.find?_eq_none.mp e n (List.mem_range.mpr hn)
  rw [Bool.not_eq_true,List.any_eq_false] at this
  have:=this k hk
  rwa [Bool.not_eq_true] at this
 | some n2 =>
  rw [e] at h
  have h5:=List.find?_some e
  obtain ⟨k2,h6,h7⟩:=List.any_eq_true.mp h5
  cases e2:ws.find? fun k=>v6 t ls k n2 with
  | none=>exact absurd h7 (List.find?_eq_none.mp e2 k2 h6)
  | some k3 =>
   simp only [e2,Option.map_some] at h
   cases h
theorem P2 {t:Rat} {ls:List (Rat × Rat × Rat)} {ws:List Nat} {N:Nat} {z:Nat × Nat} (h:O4 t ls ws N=some z):z.1<N∧(∃ i:Nat,ws[i]? = some z.2∧∀ j:Nat,j<i→∀ k,ws[j]? = some k→v6 t ls k z.1=false)∧v6 t ls z.2 z.1=true∧∀ n,n<z.1→∀ k∈ws,v6 t ls k n=false:=by
 unfold O4 at h
 cases e:(List.range N).find? fun n=>ws.any fun k=>v6 t ls k n with
 | none=>rw [e] at h; cases h
 | some n2 =>
  rw [e] at h
  obtain ⟨_,h2,h3⟩:=List.find?_range_eq_some.mp e
  cases e2:ws.find? fun k=>v6 t ls k n2 with
  | none=>simp only [e2,Option.map_none] at h; cases h
  | some k3 =>
   simp only [e2,Option.map_some] at h
   obtain rfl:=Option.some.inj h
   obtain ⟨h4,i,hi,h5,h6⟩:=List.find?_eq_some_iff_getElem.mp e2
   refine ⟨List.mem_range.mp h2,⟨i,by rw [List.getElem?_eq_getElem hi,h5],fun j hj k hk=>?_⟩,h4,fun n hn k hk=>?_⟩
   ·have:=h6 j hj
    obtain ⟨hl,e3⟩:=List.getElem?_eq_some_iff.mp hk
    rw [e3] at this
    simpa using this
   ·have:=h3 n hn
    have:(ws.any fun k=>v6 t ls k n)=false:=by simpa using this
    have:=List.any_eq_false.mp this k hk
    rwa [Bool.not_eq_true] at this
theorem a3k {t x f:Rat} (ht:f7 t=2):∀ n:Nat,f7 (stQ t (x,f) n).1=f7 (x+(n:Rat)*((if 0<t then f else -f) - x)):=by
 have key:∀ n:Nat,∃ e:Rat,(e=1∨e = -1)∧(stQ t (x,f) n).1=e*(x+(n:Rat)*((if 0<t then f else -f) - x))∧(stQ t (x,f) n).2=e*(if 0<t then 1 else -1)*(x+((n:Rat)+1)*((if 0<t then f else -f) - x)):=by
  have h2:t=2∨t = -2:=by
   unfold f7 at ht; split at ht
   ·exact .inl ht
   ·exact .inr (by grind)
  intro n
  induction n with
  | zero =>
   refine ⟨1,.inl rfl,?_,?_⟩
   ·show x=1*(x+((0:Nat):Rat)*_)
    rw [show ((0:Nat):Rat)=0 from rfl]; grind
   ·show f=1*(if 0<t then 1 else -1)*(x+(((0:Nat):Rat)+1)*((if 0<t then f else -f) - x))
    rw [show ((0:Nat):Rat)=0 from rfl]
    split <;> grind
  | succ n ih =>
   obtain ⟨e,he,e1,e2⟩:=ih
   have c:((n+1:Nat):Rat)=(n:Rat)+1:=by rw [Rat.natCast_add]; rfl
   refine ⟨e*(if 0<t then 1 else -1),?_,?_,?_⟩
   ·split <;> grind
   ·show (stQ t (x,f) n).2=_
    rw [e2,c]
   ·show t*(stQ t (x,f) n).2 - (stQ t (x,f) n).1=_
    rw [e1,e2,c]
    rcases h2 with h | h
    ·rw [h,if_pos (by decide),if_pos (by decide)]; grind
    ·rw [h,if_neg (by decide),if_neg (by decide)]; grind
 intro n
 obtain ⟨e,he,e1,_⟩:=key n
 rw [e1,a2b]
 have:f7 e=1:=by rcases he with rfl | rfl <;> decide +kernel
 rw [this]; grind
theorem a6y {t x f:Rat} (ht:f7 t=2) (h:swQ t x f≠0):(if 0<t then f else -f) - x≠0:=by
 have h2:t=2∨t = -2:=by
  unfold f7 at ht; split at ht
  ·exact .inl ht
  ·exact .inr (by grind)
 intro z
 apply h
 unfold swQ
 rcases h2 with h | h
 ·rw [h,if_pos (by decide)] at z
  have:f=x:=by grind
  rw [h,this]; grind
 ·rw [h,if_neg (by decide)] at z
  have:f = -x:=by grind
  rw [h,this]; grind
theorem a5l {t x f r:Rat} (ht:f7 t=2) (h0:¬ r<f7 x) {d g:Rat} (hd:d=(if 0<t then f else -f) - x) (hdn:d≠0) (hg:g=if 0<d then r - x else r+x) {N:Nat} (h1:(N:Rat)*f7 d≤g) (h2:g<((N:Rat)+1)*f7 d) :
  D1 t (x,f,r) (N+1)∧∀ n,n<N+1→¬ D1 t (x,f,r) n:=by
 have xr:x≤r∧-r≤x:=by
  unfold f7 at h0; split at h0 <;> exact ⟨by grind,by grind⟩
 have c:((N+1:Nat):Rat)=(N:Rat)+1:=by rw [Rat.natCast_add]; rfl
 refine ⟨?_,fun n hn=>?_⟩
 ·unfold D1
  show r<f7 (stQ t (x,f) (N+1)).1
  rw [a3k ht,← hd,c]
  by_cases p:0<d
  ·rw [if_pos p] at hg
   rw [show f7 d=d by unfold f7; rw [if_pos (by grind)]] at h2
   have:r<x+((N:Rat)+1)*d:=by grind
   unfold f7; split <;> grind
  ·rw [if_neg p] at hg
   rw [show f7 d = -d by unfold f7; rw [if_neg (by grind)]] at h2
   have:x+((N:Rat)+1)*d < -r:=by grind
   unfold f7; split <;> grind
 ·unfold D1
  show ¬ r<f7 (stQ t (x,f) n).1
  rw [a3k ht,← hd]
  have n0:(0:Rat)≤(n:Rat):=by exact_mod_cast Nat.zero_le n
  have nN:(n:Rat)≤(N:Rat):=by exact_mod_cast Nat.le_of_lt_succ hn
  by_cases p:0<d
  ·rw [if_pos p] at hg
   rw [show f7 d=d by unfold f7; rw [if_pos (by grind)]] at h1
   have a1:=Rat.mul_nonneg (a:=(n:Rat)) (b:=d) n0 (by grind)
   have a2:=Rat.mul_nonneg (a:=(N:Rat) - (n:Rat)) (b:=d) (by grind) (by grind)
   unfold f7; split <;> grind
  ·rw [if_neg p] at hg
   rw [show f7 d = -d by unfold f7; rw [if_neg (by grind)]] at h1
   have a1:=Rat.mul_nonneg (a:=(n:Rat)) (b:=-d) n0 (by grind)
   have a2:=Rat.mul_nonneg (a:=(N:Rat) - (n:Rat)) (b:=-d) (by grind) (by grind)
   unfold f7; split <;> grind
theorem a8B (bs:List (Rat × Rat × Rat)):K8 (bs.map m8)=bs.zipIdx.map fun x=>D.tup [.int (x.2:Int),m8 x.1]:=by
 unfold K8
 refine List.ext_getElem (by simp) fun i h1 h2=>?_
 simp
theorem a70 {q:Rat} {B P k l n:Nat} (h:q.den ∣ B) (hp:B ∣ q.den*P) (hq:q.num.natAbs<2 ^ k) (P0:0<P) (hP:P<2 ^ l) (hn:k+l≤n):(q.num*(B:Int).fdiv (q.den:Int)).natAbs<2 ^ n:=by
 obtain ⟨c,rfl⟩:=h
 have e:((q.den*c:Nat):Int).fdiv (q.den:Int)=(c:Int):=by
  rw [I0 (by omega) (by omega),Int.natCast_mul]
  exact Int.mul_ediv_cancel_left _ (by have:=q.den_pos; omega)
 rw [e,Int.natAbs_mul,Int.natAbs_natCast]
 have hc:c ∣ P:=Nat.dvd_of_mul_dvd_mul_left q.den_pos hp
 exact p6 (Nat.lt_of_le_of_lt (Nat.mul_le_mul_left _ (Nat.le_of_dvd P0 hc)) (m6 hq hP)) hn
local macro_rules | `(tactic| walk_at "inj")=>`(tactic| (rename_i e h; simp only [List.cons.injEq,and_true,true_and,GM.j3,GM.i0,GM.g8,GM.i3,GM.g9,D.tup.injEq,D.ref.injEq,D.int.injEq,D.str.injEq,D.bl.injEq,D.vl.injEq,Int.natCast_inj,and_assoc] at e; (repeat (obtain ⟨e1,e⟩:=e; subst e1)); subst e; exact h))
local macro_rules | `(tactic| walk_at "injs")=>`(tactic| (rename_i e o h; rcases o with o | o <;> (subst o; first | (exfalso; simp only [D.tup.injEq,List.cons.injEq,reduceCtorEq,false_and,and_false] at e; done) | (simp only [List.cons.injEq,and_true,true_and,GM.j3,GM.i0,GM.g8,GM.i3,GM.g9,D.tup.injEq,D.ref.injEq,D.int.injEq,D.str.injEq,D.bl.injEq,D.vl.injEq,Int.natCast_inj,and_assoc] at e; (repeat (obtain ⟨e1,e⟩:=e; subst e1)); subst e; exact h))))
def a33:DSp:=fun ds M R Y=>∃ (x y:D),ds=[x,y]∧∃ (m:Q4) (ls:List (Rat × Rat × Rat)),x=A0 m∧y = .vl (ls.map m8)∧(CDQ 230 m∧W9 m=1∧ls.length≤40∧∀ l∈ls,X3 l)∧R (.vl ((r9 m ls).map fun k:Nat=>D.int (k:Int))) M
theorem a2U {x y:D} {M:Mem} {R:DK} {Y:DXK}:a33 [x,y] M R Y=(∃ (m:Q4) (ls:List (Rat × Rat × Rat)),x=A0 m∧y = .vl (ls.map m8)∧(CDQ 230 m∧W9 m=1∧ls.length≤40∧∀ l∈ls,X3 l)∧R (.vl ((r9 m ls).map fun k:Nat=>D.int (k:Int))) M):=propext ⟨fun z=>by obtain ⟨_,_,_,_⟩:=z; walk_at "inj",fun h=>⟨x,y,rfl,h⟩⟩
def a6K:DSp:=fun ds M R Y=>∃ (t x f r:Rat),ds=[d7 t,d7 x,d7 f,d7 r]∧(f7 t=2∧X3 (x,f,r)∧¬ r<f7 x∧swQ t x f≠0)∧∀ N:Nat,D1 t (x,f,r) N→(∀ n,n<N→¬ D1 t (x,f,r) n)→R (.int (N:Int)) M
theorem a4R {t x f r:Rat} {M:Mem} {R:DK} {Y:DXK}:a6K [d7 t,d7 x,d7 f,d7 r] M R Y=((f7 t=2∧X3 (x,f,r)∧¬ r<f7 x∧swQ t x f≠0)∧∀ N:Nat,D1 t (x,f,r) N→(∀ n,n<N→¬ D1 t (x,f,r) n)→R (.int (N:Int)) M):=propext ⟨fun z=>by obtain ⟨_,_,_,_,_,_⟩:=z; walk_at "inj",fun h=>⟨t,x,f,r,rfl,h⟩⟩
def b6C:DSp:=fun ds M R Y=>∃ (t:Rat) (x y:D),ds=[d7 t,x,y]∧∃ (ls:List (Rat × Rat × Rat)) (ws:List Nat),x = .vl (ls.map m8)∧y = .vl (ws.map fun k:Nat=>D.int (k:Int))∧(f7 t=2∧(ls.length≤40∧ws.length≤40)∧(∀ l∈ls,X3 l∧¬ l.2.2<f7 l.1)∧∀ k∈ws,∃ l,ls[k]? = some l∧swQ t l.1 l.2.1≠0)∧(ws=[]→R .non M)∧∀ n k:Nat,k∈ws→v6 t ls k n=true→(∀ n',n'<n→∀ k'∈ws,v6 t ls k' n'=false)→(∀ k'∈ws,k'<k→v6 t ls k' n=false)→R (.tup [.int (n:Int),.int (k:Int)]) M
theorem a9H {t:Rat} {x y:D} {M:Mem} {R:DK} {Y:DXK}:b6C [d7 t,x,y] M R Y=(∃ (ls:List (Rat × Rat × Rat)) (ws:List Nat),x = .vl (ls.map m8)∧y = .vl (ws.map fun k:Nat=>D.int (k:Int))∧(f7 t=2∧(ls.length≤40∧ws.length≤40)∧(∀ l∈ls,X3 l∧¬ l.2.2<f7 l.1)∧∀ k∈ws,∃ l,ls[k]? = some l∧swQ t l.1 l.2.1≠0)∧(ws=[]→R .non M)∧∀ n k:Nat,k∈ws→v6 t ls k n=true→(∀ n',n'<n→∀ k'∈ws,v6 t ls k' n'=false)→(∀ k'∈ws,k'<k→v6 t ls k' n=false)→R (.tup [.int (n:Int),.int (k:Int)]) M):=propext ⟨fun z=>by obtain ⟨_,_,_,_,_⟩:=z; walk_at "inj",fun h=>⟨t,x,y,rfl,h⟩⟩
def a6O:DSp:=fun ds M R Y=>∃ (x y z:D),ds=[x,y,z]∧∃ (m:Q4) (ls:List (Rat × Rat × Rat)),x=A0 m∧y = .vl (ls.map m8)∧z = .vl ((r9 m ls).map fun k:Nat=>D.int (k:Int))∧(CDQ 230 m∧W9 m=1∧ls.length≤40∧∀ l∈ls,X3 l∧a6h m l)∧∀ o,FS m ls o→R (a3h o) M
theorem a4X {x y z:D} {M:Mem} {R:DK} {Y:DXK}:a6O [x,y,z] M R Y=(∃ (m:Q4) (ls:List (Rat × Rat × Rat)),x=A0 m∧y = .vl (ls.map m8)∧z = .vl ((r9 m ls).map fun k:Nat=>D.int (k:Int))∧(CDQ 230 m∧W9 m=1∧ls.length≤40∧∀ l∈ls,X3 l∧a6h m l)∧∀ o,FS m ls o→R (a3h o) M):=propext ⟨fun z=>by obtain ⟨_,_,_,_,_⟩:=z; walk_at "inj",fun h=>⟨x,y,z,rfl,h⟩⟩
def C0 (m:Q4) (l:Rat × Rat × Rat):En:=if l.1=0∧l.2.1=0 then .one "nought" else if u7 m then .int "round" (rtN m:Int) else if f7 (trQ m)<2 then .rat "reach" (a2s (trQ m) l.1 l.2.1) else .rat "kept" (l.2.1 / l.1)
def a1G:DSp:=fun ds M R Y=>∃ (w x:D) (a f:Rat),ds=[w,x,d7 a,d7 f]∧∃ (m:Q4) (r:Rat),w = .str (kwS m)∧x=A0 m∧(CDQ 230 m∧W9 m=1∧X3 (a,f,r)∧(¬ u7 m→¬ f7 (trQ m)<2→a=0→f=0))∧R (enD (C0 m (a,f,r))) M
theorem a1a {w x:D} {a f:Rat} {M:Mem} {R:DK} {Y:DXK}:a1G [w,x,d7 a,d7 f] M R Y=(∃ (m:Q4) (r:Rat),w = .str (kwS m)∧x=A0 m∧(CDQ 230 m∧W9 m=1∧X3 (a,f,r)∧(¬ u7 m→¬ f7 (trQ m)<2→a=0→f=0))∧R (enD (C0 m (a,f,r))) M):=propext ⟨fun z=>by obtain ⟨_,_,_,_,_,_⟩:=z; walk_at "inj",fun h=>⟨w,x,a,f,rfl,h⟩⟩
inductive EvR where
 | stopped (n k:Nat)
 | late (k:Nat)
 | never
def b2u (m:Q4) (ls:List (Rat × Rat × Rat)):EvR→Prop
 | .stopped n k=>FS m ls (some (n,k))
 | .late k=>FS m ls none∧(r9 m ls).head? = some k
 | .never=>FS m ls none∧r9 m ls=[]
def evD (ws:List (D × D)) (m:Q4) (ls:List (Rat × Rat × Rat)):EvR→D
 | .stopped n k=>.tup [.str "stopped",.int (n:Int),(ws.getD k (.non,.non)).1,(ws.getD k (.non,.non)).2]
 | .late k=>.tup [.str "late",.int (k:Int)]
 | .never=>.tup [.str "never",.vl ((ls.map (C0 m)).map enD)]
def a78:DSp:=fun ds M R Y=>∃ (x0:D) (near:Rat) (bs:List (Str × Rat)) (far:Rat) (y u:Rat),ds=[.tup [d7 near,x0,d7 far],A5 y u]∧(x0 = .vl (bs.map f9)∨x0 = .tup (bs.map f9))∧(C3 near bs far∧∃ S,CD S y 0 u 0∧S≤1700)∧∀ r,b2u (tbQ (e9 near bs far)) (B6 near bs far y u) r→R (evD (D8 (g7 near bs far) (g7 near bs far).length) (tbQ (e9 near bs far)) (B6 near bs far y u) r) M
theorem a7B {near:Rat} {bs:List (Str × Rat)} {far:Rat} {y u:Rat} {M:Mem} {R:DK} {Y:DXK}:a78 [.tup [d7 near,.vl (bs.map f9),d7 far],A5 y u] M R Y=((C3 near bs far∧∃ S,CD S y 0 u 0∧S≤1700)∧∀ r,b2u (tbQ (e9 near bs far)) (B6 near bs far y u) r→R (evD (D8 (g7 near bs far) (g7 near bs far).length) (tbQ (e9 near bs far)) (B6 near bs far y u) r) M):=propext ⟨fun z=>by obtain ⟨_,_,_,_,_,_,_,_,_⟩:=z; walk_at "injs",fun h=>⟨_,near,bs,far,y,u,rfl,.inl rfl,h⟩⟩
theorem a2X {near:Rat} {bs:List (Str × Rat)} {far:Rat} {y u:Rat} {M:Mem} {R:DK} {Y:DXK}:a78 [.tup [d7 near,.tup (bs.map f9),d7 far],A5 y u] M R Y=((C3 near bs far∧∃ S,CD S y 0 u 0∧S≤1700)∧∀ r,b2u (tbQ (e9 near bs far)) (B6 near bs far y u) r→R (evD (D8 (g7 near bs far) (g7 near bs far).length) (tbQ (e9 near bs far)) (B6 near bs far y u) r) M):=propext ⟨fun z=>by obtain ⟨_,_,_,_,_,_,_,_,_⟩:=z; walk_at "injs",fun h=>⟨_,near,bs,far,y,u,rfl,.inr rfl,h⟩⟩
end GM
namespace GM
open PySem PySem.Spec L2 DL
open RM (sz)
abbrev T3:=D × D × (Str × Rat)
def T8 (T:List T3) (j:Nat) (z:T3):Rat × Rat × Rat:=((h8 ((T.map fun z=>z.2.2).take j) (1,0)).1,(h8 ((T.map fun z=>z.2.2).take j) (0,1)).1,z.2.2.2)
def a69 (z:T3):Bool:=z.2.2.1 == Str.ofString "stop"
def E9 (T:List T3) (i:Nat):List (T3 × Nat):=((T.take i).zipIdx).filter fun z=>a69 z.1
theorem P1 {z:T3}:a69 z=true↔z.2.2.1 = "stop" := by unfold a69; exact beq_iff_eq
theorem b0T {T:List T3} {i:Nat} {z:T3} (h:T[i]? = some z):E9 T (i+1)=E9 T i++(if z.2.2.1 = "stop" then [(z,i)] else []):=by
 have hl:=(List.getElem?_eq_some_iff.mp h).1
 unfold E9
 rw [List.take_add_one,h,List.zipIdx_append,List.filter_append,List.length_take,Nat.min_eq_left (by omega)]
 congr 1
 show ([(z,0+i)].filter fun z=>a69 z.1)=_
 rw [Nat.zero_add]
 by_cases hz:z.2.2.1 = "stop"
 ·rw [if_pos hz,List.filter_cons_of_pos (p:=fun z:T3 × Nat=>a69 z.1) (P1.mpr hz)]; rfl
 ·rw [if_neg hz,List.filter_cons_of_neg (p:=fun z:T3 × Nat=>a69 z.1) (fun e=>hz (P1.mp e))]; rfl
theorem a5i (T:List T3):∀ i,i≤T.length→B9 (T.map fun z=>z.2.2) i=(E9 T i).map fun z=>T8 T z.2 z.1
 | 0,_=>rfl
 | i+1,h=>by
  have hz:=List.getElem?_eq_getElem (l:=T) (i:=i) (by omega)
  have hL:(T.map fun z=>z.2.2)[i]? = some (T[i]).2.2:=by rw [List.getElem?_map,hz]; rfl
  rw [a3G hL,b0T hz,List.map_append,← a5i T i (by omega)]
  split
  ·rfl
  ·rw [List.map_nil,List.append_nil]
theorem a5h (T:List T3):∀ i,i≤T.length→D8 T i=(E9 T i).map fun z=>(z.1.1,z.1.2.1)
 | 0,_=>rfl
 | i+1,h=>by
  have hz:=List.getElem?_eq_getElem (l:=T) (i:=i) (by omega)
  rw [G7,List.take_add_one,hz,List.filter_append,List.map_append,b0T hz,List.map_append,← a5h T i (by omega),G7]
  congr 1
  show (([T[i]].filter a69).map fun z=>(z.1,z.2.1))=_
  by_cases hs:(T[i]).2.2.1 = "stop"
  ·rw [if_pos hs,List.filter_cons_of_pos (P1.mpr hs)]; rfl
  ·rw [if_neg hs,List.filter_cons_of_neg (fun e=>hs (P1.mp e))]; rfl
theorem R9 {T:List T3} {z:T3} {j:Nat}:(z,j)∈E9 T T.length↔T[j]? = some z∧z.2.2.1 = "stop" := by
 unfold E9
 rw [List.take_length,List.mem_filter,List.mem_zipIdx_iff_getElem?]
 exact and_congr Iff.rfl P1
theorem b3N {T:List T3} {i k:Nat} {a b:T3 × Nat} (hi:(E9 T T.length)[i]? = some a) (hk:(E9 T T.length)[k]? = some b):a.2<b.2↔i<k:=by
 have pw:((E9 T T.length).map Prod.snd).Pairwise (· < ·):=by
  unfold E9
  rw [List.take_length]
  have h:∀ (xs:List T3) (k:Nat),((xs.zipIdx k).map Prod.snd).Pairwise (· < ·):=fun xs k=>by
   rw [List.zipIdx_map_snd]; exact List.pairwise_lt_range'
  have h0:=h T 0
  rw [List.pairwise_map] at h0 ⊢
  exact h0.filter _
 rw [List.pairwise_map,List.pairwise_iff_getElem] at pw
 obtain ⟨h1,e1⟩:=List.getElem?_eq_some_iff.mp hi
 obtain ⟨h2,e2⟩:=List.getElem?_eq_some_iff.mp hk
 rcases Nat.lt_trichotomy i k with z | z | z
 ·have:=pw i k h1 h2 z
  rw [e1,e2] at this
  exact ⟨fun _=>z,fun _=>this⟩
 ·subst z; rw [e1] at e2; subst e2
  exact ⟨fun h=>absurd h (by omega),fun h=>absurd h (by omega)⟩
 ·have:=pw k i h2 h1 z
  rw [e1,e2] at this
  exact ⟨fun h=>absurd h (by omega),fun h=>absurd h (by omega)⟩
def bT (t:Rat) (T:List T3) (y u:Rat) (n j:Nat):Prop:=∃ z,T[j]? = some z∧z.2.2.1 = "stop" ∧ D1 t (F0 (T.map fun z=>z.2.2) y u (T8 T j z)) n
def laT (m:Q4) (T:List T3) (y u:Rat) (j:Nat):Prop:=∃ z,T[j]? = some z∧z.2.2.1 = "stop" ∧ F9 m (F0 (T.map fun z=>z.2.2) y u (T8 T j z)).1 (F0 (T.map fun z=>z.2.2) y u (T8 T j z)).2.1 z.2.2.2=true
theorem a9k (near far:Rat) (bs:List (Str × Rat)) (y u:Rat):B6 near bs far y u=(E9 (g7 near bs far) (g7 near bs far).length).map fun z=>F0 ((g7 near bs far).map fun z=>z.2.2) y u (T8 (g7 near bs far) z.2 z.1):=by
 unfold B6
 rw [← K7,← F1,a5i _ _ (Nat.le_refl _),List.map_map]; rfl
section
variable {m:Q4} {T:List T3} {y u:Rat} {ls:List (Rat × Rat × Rat)}
theorem a0b (hls:ls=(E9 T T.length).map fun z=>F0 (T.map fun z=>z.2.2) y u (T8 T z.2 z.1)) {t:Rat} {i n:Nat} {z:T3 × Nat} (h:(E9 T T.length)[i]? = some z):v6 t ls i n=true↔bT t T y u n z.2:=by
 have hm:=List.mem_of_getElem? h
 obtain ⟨hz,hs⟩:=R9.mp (show (z.1,z.2)∈_ from hm)
 have e:ls[i]? = some (F0 (T.map fun z=>z.2.2) y u (T8 T z.2 z.1)):=by rw [hls,List.getElem?_map,h]; rfl
 rw [a0c]
 constructor
 ·rintro ⟨l,hl,hb⟩
  rw [e] at hl
  obtain rfl:=Option.some.inj hl
  exact ⟨z.1,hz,hs,hb⟩
 ·rintro ⟨z2,hz2,_,hb⟩
  rw [hz] at hz2
  obtain rfl:=Option.some.inj hz2
  exact ⟨_,e,hb⟩
theorem b2k {t:Rat} {n j:Nat} (h:bT t T y u n j):∃ (i:Nat) (z:T3),(E9 T T.length)[i]? = some (z,j):=by
 obtain ⟨z,hz,hs,_⟩:=h
 obtain ⟨i,hi⟩:=List.getElem?_of_mem (R9.mpr ⟨hz,hs⟩)
 exact ⟨i,z,hi⟩
theorem a5R (hls:ls=(E9 T T.length).map fun z=>F0 (T.map fun z=>z.2.2) y u (T8 T z.2 z.1)):r9 m ls=[] ↔ ∀ j,¬ laT m T y u j:=by
 constructor
 ·rintro h j ⟨z,hz,hs,hb⟩
  obtain ⟨i,hi⟩:=List.getElem?_of_mem (R9.mpr ⟨hz,hs⟩)
  have:i∈r9 m ls:=K4.mpr ⟨_,by rw [hls,List.getElem?_map,hi]; rfl,hb⟩
  rw [h] at this; cases this
 ·intro h
  apply Classical.byContradiction
  intro hn
  obtain ⟨i,hi⟩:=List.exists_mem_of_ne_nil _ hn
  obtain ⟨l,hl,hb⟩:=K4.mp hi
  rw [hls,List.getElem?_map] at hl
  obtain ⟨z,hz,rfl⟩:=Option.map_eq_some_iff.mp hl
  obtain ⟨h1,h2⟩:=R9.mp (show (z.1,z.2)∈_ from List.mem_of_getElem? hz)
  exact h z.2 ⟨z.1,h1,h2,hb⟩
def NoT (m:Q4) (T:List T3) (y u:Rat):Prop:=∀ n j,(a5N m∨n<60)→¬ bT (trQ m) T y u n j
def AtT (m:Q4) (T:List T3) (y u:Rat) (n j:Nat):Prop:=bT (trQ m) T y u n j∧(∀ n',n'<n→∀ j',¬ bT (trQ m) T y u n' j')∧(∀ j',j'<j→¬ bT (trQ m) T y u n j')∧(a5N m∨n<60)
theorem a8J (hls:ls=(E9 T T.length).map fun z=>F0 (T.map fun z=>z.2.2) y u (T8 T z.2 z.1)):FS m ls none↔NoT m T y u:=by
 constructor
 ·intro h n j hn hb
  obtain ⟨i,z,hi⟩:=b2k hb
  have:=h n i hn
  rw [(a0b hls hi).mpr hb] at this; cases this
 ·intro h n i hn
  cases e:(E9 T T.length)[i]? with
  | none=>exact J1.mpr fun l hl=>by rw [hls,List.getElem?_map,e] at hl; cases hl
  | some z =>
   cases e2:v6 (trQ m) ls i n with
   | false=>rfl
   | true=>exact absurd ((a0b hls e).mp e2) (h n z.2 hn)
theorem b5c (hls:ls=(E9 T T.length).map fun z=>F0 (T.map fun z=>z.2.2) y u (T8 T z.2 z.1)) {n i:Nat} (h:FS m ls (some (n,i))):∃ z:T3 × Nat,(E9 T T.length)[i]? = some z∧AtT m T y u n z.2:=by
 obtain ⟨h1,h2,h3,h4⟩:=h
 have h1:v6 (trQ m) ls i n=true:=h1
 obtain ⟨l,hl,_⟩:=a0c.mp h1
 rw [hls,List.getElem?_map] at hl
 obtain ⟨z,hz,_⟩:=Option.map_eq_some_iff.mp hl
 refine ⟨z,hz,(a0b hls hz).mp h1,fun n' hn' j' hb=>?_,fun j' hj' hb=>?_,h4⟩
 ·obtain ⟨i',z',hi'⟩:=b2k hb
  have:=h2 n' hn' i'
  rw [(a0b hls hi').mpr hb] at this; cases this
 ·obtain ⟨i',z',hi'⟩:=b2k hb
  have:=h3 i' ((b3N hi' hz).mp hj')
  have this:v6 (trQ m) ls i' n=false:=this
  rw [(a0b hls hi').mpr hb] at this; cases this
end
def EvT (m:Q4) (T:List T3) (y u:Rat) (d:D):Prop :=
 (∃ (n j:Nat) (z:T3),d = .tup [.str "stopped",.int (n:Int),z.1,z.2.1]∧T[j]? = some z∧z.2.2.1 = "stop" ∧ AtT m T y u n j) ∨
 (∃ k:Nat,d = .tup [.str "late",.int (k:Int)]∧NoT m T y u∧∃ j,laT m T y u j) ∨
 (∃ es:List En,d = .tup [.str "never",.vl (es.map enD)]∧NoT m T y u∧(∀ j,¬ laT m T y u j)∧es=((E9 T T.length).map fun z=>C0 m (F0 (T.map fun z=>z.2.2) y u (T8 T z.2 z.1))))
theorem b9J {near far:Rat} {bs:List (Str × Rat)} {y u:Rat} {r:EvR} (h:b2u (tbQ (e9 near bs far)) (B6 near bs far y u) r):EvT (tbQ (e9 near bs far)) (g7 near bs far) y u (evD (D8 (g7 near bs far) (g7 near bs far).length) (tbQ (e9 near bs far)) (B6 near bs far y u) r):=by
 have hls:=a9k near far bs y u
 cases r with
 | stopped n i =>
  obtain ⟨z,hz,hat⟩:=b5c hls h
  obtain ⟨h1,h2⟩:=R9.mp (show (z.1,z.2)∈_ from List.mem_of_getElem? hz)
  refine .inl ⟨n,z.2,z.1,?_,h1,h2,hat⟩
  have e:(D8 (g7 near bs far) (g7 near bs far).length).getD i (.non,.non)=(z.1.1,z.1.2.1):=by
   rw [a5h _ _ (Nat.le_refl _),List.getD_eq_getElem?_getD,List.getElem?_map,hz]; rfl
  show D.tup [D.str (Str.ofString "stopped"),D.int (n:Int),((D8 (g7 near bs far) (g7 near bs far).length).getD i (.non,.non)).1,((D8 (g7 near bs far) (g7 near bs far).length).getD i (.non,.non)).2]=_
  rw [e]
 | late k =>
  obtain ⟨h1,h2⟩:=h
  refine .inr (.inl ⟨k,rfl,(a8J hls).mp h1,?_⟩)
  apply Classical.byContradiction
  intro hn
  have:=(a5R (m:=tbQ (e9 near bs far)) hls).mpr fun j hj=>hn ⟨j,hj⟩
  rw [this] at h2; cases h2
 | never =>
  obtain ⟨h1,h2⟩:=h
  refine .inr (.inr ⟨_,rfl,(a8J hls).mp h1,(a5R hls).mp h2,?_⟩)
  rw [hls,List.map_map]; rfl
end GM
namespace DL
open PySem PySem.Spec L2
open PyProof.Rows hiding St
section
variable {X:Cx}
theorem a73:∀ {ys:List Str} {us:List Value},j9 (ys.map V.str) us→StrsAre us ys
 | [],us,h=>by cases h; exact .nil
 | y :: ys,us,h=>by
  cases h with
  | cons r t=>obtain ⟨k,rfl⟩:=r; exact .cons y k (a73 t)
theorem a18 (k:Str):∀ {us:List Value} {ys:List Str},StrsAre us ys→us.countP (isStrOf k)=(ys.filter (· == k)).length
 | _,_,.nil=>rfl
 | _,_,.cons n u h=>by
  rw [List.countP_cons,a18 k h,List.filter_cons]
  show _+(if (n == k)=true then 1 else 0)=_
  by_cases z:(n == k)=true
  ·rw [if_pos z,if_pos z]; rfl
  ·rw [if_neg z,if_neg z]; rfl
theorem a9c:MtR X "list.count" (fun x xs H Q=>∃ (l:Addr) (ys:List Str) (k:Str),x = .ref l∧xs=[.str k]∧SqL X.K H l (ys.map V.str)∧Q (.int (((ys.filter (· == k)).length:Nat):Int)) H):=by
 intro pins s σ H x xs v us Q I rx rv h
 obtain ⟨l,ys,k,rfl,rfl,hS,q⟩:=h
 cases rx
 obtain ⟨u,rfl,ru⟩:=Y1 rv
 obtain ⟨t,rfl⟩:=ru
 obtain ⟨its,r,pl,_⟩:=I.list hS
 have hi:=a73 r
 obtain ⟨⟨cls,dd,data,sl⟩,ho,hc,n,hd⟩:=pl.isList
 simp only at hc hd
 subst hc hd
 refine call_meets PySem.F.slot_list_count ⟨_,ho,rfl⟩ PySem.F.entry_list_count (PySem.F.args_list_count_2 _ _) (SeqAt.list_countAt l its.toArray n dd sl (.str k t) (isStrOf k)) ⟨ho,fun y hy=>(eq_isStrOf k t hi y (by simpa using hy)).at _ _,?_⟩
 rw [show its.toArray.toList=its from rfl,a18 k hi]
 exact ⟨.int _,H,I.tok _,⟨_,rfl⟩,q⟩
theorem HasL.strs {K:PySem.W.Frag} {H:Hp}:∀ {ys:List Str} {vs:List V},HasL K H vs (ys.map D.str)→vs=ys.map V.str
 | [],_,r=>by cases r; rfl
 | b :: bs,_,r=>by
  cases r with
  | cons r rr=>cases r; rw [HasL.strs rr]; rfl
def b4C:DRM:=fun x xs M R=>∃ (l:Addr) (ys:List Str) (k:Str),x = .ref l∧xs=[.str k]∧M l=some (.lst (ys.map D.str))∧R (.int (((ys.filter (· == k)).length:Nat):Int)) M
theorem a9p:DMt X "list.count" b4C:=MtR.imp a9c fun x xs H Q ⟨dx,ds,M,R,hx,hl,am,⟨l,ys,k,e1,e2,hM,r⟩,f⟩=>by
 subst e1; subst e2
 cases hx
 obtain ⟨v,rfl,hv⟩:=hl.one
 cases hv
 obtain ⟨zs,hy,ly⟩:=am.lst hM
 have:=ly.strs
 subst this
 exact ⟨l,ys,k,rfl,rfl,SqL.of hy,f _ M r _ H (KT.refl H) am (.int _)⟩
end
end DL
namespace DL
open PySem PySem.Spec L2
theorem a9r {e0:Ev} {g:DTG} {te:DTE} {tc:L0} {ds:List D} {stay:Mem→Prop} {M1:Mem} {E:List D→Mem→Prop} (p:Nat→Bool) (Rl:Nat→D→Prop) (hn:ds.length≤1000) (hst:stay M1)
  (step:∀ i d,ds[i]? = some d→∀ (Q:DK) (N:Prop),(p i=true→∀ b,Rl i b→Q b M1)→(p i=false→N)→g d e0 M1 fun e2 M2=>tc e2 M2 fun b M3=>IfK b (te e2 M3 Q) (M3=M1∧N))
  (h:∀ bs:List D,bs.length≤ds.length→(∀ b∈bs,∃ i,i<ds.length∧p i=true∧Rl i b)→(∀ i,i<ds.length→p i=true→∃ b∈bs,Rl i b)→E bs M1):∃ W,a2f e0 g tc te ds stay M1 E W:=by
 refine ⟨fun i ys M=>M=M1∧ys.length≤i∧(∀ b∈ys,∃ i',i'<i∧p i'=true∧Rl i' b)∧∀ i',i'<i→p i'=true→∃ b∈ys,Rl i' b,⟨⟨rfl,Nat.le_refl _,(fun b hb=>by cases hb),fun i' hi'=>absurd hi' (by omega)⟩,fun i ys M _ w=>by rw [w.1]; exact hst,fun i d ys M hd w=>?_,fun ys M w=>?_⟩⟩
 ·obtain ⟨rfl,hl,h1,h2⟩:=w
  have hi:i<ds.length:=(List.getElem?_eq_some_iff.mp hd).1
  have hle:ys.length<sizeLine:=Nat.lt_of_le_of_lt hl (Nat.lt_of_lt_of_le (Nat.lt_of_lt_of_le hi hn) (show 1000≤sizeLine by decide))
  refine step i d hd (fun v M4=>ys.length<sizeLine∧M4=M∧(ys++[v]).length≤i+1∧(∀ b∈ys++[v],∃ i',i'<i+1∧p i'=true∧Rl i' b)∧∀ i',i'<i+1→p i'=true→∃ b∈ys++[v],Rl i' b) (ys.length≤i+1∧(∀ b∈ys,∃ i',i'<i+1∧p i'=true∧Rl i' b)∧∀ i',i'<i+1→p i'=true→∃ b∈ys,Rl i' b) (fun hp b hb=>⟨hle,rfl,by rw [List.length_append]; show _+1≤_; omega,fun c hc=>?_,fun i' hi' hp'=>?_⟩) (fun hp=>⟨by omega,fun c hc=>?_,fun i' hi' hp'=>?_⟩)
  ·rcases List.mem_append.mp hc with hc | hc
   ·obtain ⟨i',a1,a2,a3⟩:=h1 c hc
    exact ⟨i',by omega,a2,a3⟩
   ·rw [List.mem_singleton.mp hc]; exact ⟨i,by omega,hp,hb⟩
  ·rcases Nat.lt_or_ge i' i with z | z
   ·obtain ⟨c,c1,c2⟩:=h2 i' z hp'
    exact ⟨c,List.mem_append_left _ c1,c2⟩
   ·have:i'=i:=by omega
    subst this
    exact ⟨b,List.mem_append_right _ (List.mem_singleton.mpr rfl),hb⟩
  ·obtain ⟨i',a1,a2,a3⟩:=h1 c hc
   exact ⟨i',by omega,a2,a3⟩
  ·rcases Nat.lt_or_ge i' i with z | z
   ·exact h2 i' z hp'
   ·have:i'=i:=by omega
    subst this
    rw [hp] at hp'; cases hp'
 ·obtain ⟨rfl,hl,h1,h2⟩:=w
  exact h ys hl h1 h2
end DL
namespace GM
open PySem PySem.Spec L2 DL
open RM (sz)
def wS:D→Str
 | .tup (.str w :: _)=>w
 | _ => ""
def nS:D→Int
 | .tup (_ :: .int n :: _)=>n
 | _=>0
open Classical in
def a0X (a:D) (z:(Str × Rat) × Nat):Str × Rat:=if z.1.1 = "stop" ∧ D.int (z.2:Int)≠a then (Str.ofString "gap",0) else z.1
def A9 (bs:List (Str × Rat)) (a:D):List (Str × Rat):=bs.zipIdx.map (a0X a)
open Classical in
def alT (a:D) (z:T3):T3:=(z.1,z.2.1,if z.2.2.1 = "stop" ∧ z.2.1≠a then (Str.ofString "gap",0) else z.2.2)
theorem a8O (bs:List (Str × Rat)) (a:D):(A9 bs a).zipIdx=bs.zipIdx.map fun z=>(a0X a z,z.2):=by
 unfold A9
 refine List.ext_getElem (by simp) fun i h1 h2=>?_
 simp
theorem G9 (near far:Rat) (bs:List (Str × Rat)) (a:D):g7 near (A9 bs a) far=(g7 near bs far).map (alT a):=by
 unfold g7
 rw [a8O]
 simp only [List.map_append,List.map_map,← List.map_reverse,List.map_cons,List.map_nil]
 have g:∀ q:Rat,alT a (.non,.non,(Str.ofString "glass",q))=(.non,.non,(Str.ofString "glass",q)):=fun q=>by
  unfold alT
  rw [if_neg (fun z=>absurd z.1 (show ¬ Str.ofString "glass" = Str.ofString "stop" by decide))]
 rw [g far,g near]
 rfl
def er2 (x:Str × Rat):Str × Rat:=if x.1 = "stop" then (Str.ofString "gap",0) else x
theorem b4o (x:Str × Rat) (y u:Rat):t9 (er2 x) y u=t9 x y u:=by
 unfold er2
 split
 ·rename_i h
  obtain ⟨w,q⟩:=x
  have h:w=Str.ofString "stop" := h
  subst h
  have e1:t9 (Str.ofString "stop",q) y u=(y,u):=a1X (by show (Str.ofString "stop" == Str.ofString "gap" || Str.ofString "stop" == Str.ofString "glass")=false; decide +kernel) y u
  rw [e1]
  show (y+0*u,u)=(y,u)
  congr 1; grind
 ·rfl
theorem a8d (xs:List (Str × Rat)):∀ r:Rat × Rat,h8 (xs.map er2) r=h8 xs r:=by
 induction xs with
 | nil=>intro r; rfl
 | cons x xs ih =>
  intro r
  show h8 (xs.map er2) (t9 (er2 x) r.1 r.2)=h8 xs (t9 x r.1 r.2)
  rw [b4o,ih]
theorem b7A (a:D) (z:T3):er2 (alT a z).2.2=er2 z.2.2:=by
 unfold alT er2
 by_cases h:z.2.2.1 = "stop" ∧ z.2.1≠a
 ·rw [if_pos h,if_pos h.1,if_neg (show ¬ Str.ofString "gap" = Str.ofString "stop" by decide)]
 ·rw [if_neg h]
theorem K3 {T:List T3} {a:D} (j:Nat) (r:Rat × Rat):h8 (((T.map (alT a)).map fun z=>z.2.2).take j) r=h8 ((T.map fun z=>z.2.2).take j) r:=by
 rw [← a8d,← a8d ((T.map fun z=>z.2.2).take j)]
 congr 1
 rw [List.map_take,List.map_take,List.map_map,List.map_map,List.map_map]
 congr 1
 refine List.map_congr_left fun z _=>b7A a z
theorem W4 {T:List T3} {a:D} (r:Rat × Rat):h8 ((T.map (alT a)).map fun z=>z.2.2) r=h8 (T.map fun z=>z.2.2) r:=by
 have h:=K3 (T:=T) (a:=a) T.length r
 rw [List.take_of_length_le (by simp),List.take_of_length_le (by simp)] at h
 exact h
theorem S4 {T:List T3} {a:D} {j:Nat} {z:T3} {y u:Rat} (h:T[j]? = some z) (hs:(alT a z).2.2.1 = "stop"):F0 ((T.map (alT a)).map fun z=>z.2.2) y u (T8 (T.map (alT a)) j (alT a z))=F0 (T.map fun z=>z.2.2) y u (T8 T j z)∧z.2.2.1 = "stop" ∧ z.2.1=a:=by
 have hz:¬ (z.2.2.1 = "stop" ∧ z.2.1≠a):=fun c=>by
  unfold alT at hs
  rw [if_pos c] at hs
  exact absurd hs (show ¬ Str.ofString "gap" = Str.ofString "stop" by decide)
 have e:alT a z=z:=by unfold alT; rw [if_neg hz]
 rw [e] at hs
 refine ⟨?_,hs,Classical.byContradiction fun c=>hz ⟨hs,c⟩⟩
 rw [e]
 unfold F0 T8
 rw [K3,K3,W4]
theorem a58 {T:List T3} {a:D} {j:Nat} {z:T3} (h:T[j]? = some z) (hs:z.2.2.1 = "stop") (ha:z.2.1=a):(T.map (alT a))[j]? = some z:=by
 rw [List.getElem?_map,h]
 show some (alT a z)=some z
 unfold alT
 rw [if_neg fun c=>c.2 ha]
theorem K9 {t:Rat} {T:List T3} {a:D} {y u:Rat} {n j:Nat}:bT t (T.map (alT a)) y u n j↔bT t T y u n j∧∃ z,T[j]? = some z∧z.2.1=a:=by
 constructor
 ·rintro ⟨z,hz,hs,hb⟩
  rw [List.getElem?_map] at hz
  obtain ⟨w,hw,rfl⟩:=Option.map_eq_some_iff.mp hz
  obtain ⟨e,h1,h2⟩:=S4 (y:=y) (u:=u) hw hs
  rw [e] at hb
  exact ⟨⟨w,hw,h1,hb⟩,w,hw,h2⟩
 ·rintro ⟨⟨z,hz,hs,hb⟩,w,hw,ha⟩
  rw [hz] at hw
  obtain rfl:=Option.some.inj hw
  have hat:=a58 hz hs ha
  have e0:alT a z=z:=by unfold alT; rw [if_neg fun c=>c.2 ha]
  have e:=(S4 (a:=a) (y:=y) (u:=u) hz (by rw [e0]; exact hs)).1
  rw [e0] at e
  exact ⟨z,hat,hs,by rw [e]; exact hb⟩
theorem a0q {m:Q4} {T:List T3} {a:D} {y u:Rat} {j:Nat}:laT m (T.map (alT a)) y u j↔laT m T y u j∧∃ z,T[j]? = some z∧z.2.1=a:=by
 constructor
 ·rintro ⟨z,hz,hs,hb⟩
  rw [List.getElem?_map] at hz
  obtain ⟨w,hw,rfl⟩:=Option.map_eq_some_iff.mp hz
  obtain ⟨e,h1,h2⟩:=S4 (y:=y) (u:=u) hw hs
  have e0:alT a w=w:=by unfold alT; rw [if_neg fun c=>c.2 h2]
  rw [e,e0] at hb
  exact ⟨⟨w,hw,h1,hb⟩,w,hw,h2⟩
 ·rintro ⟨⟨z,hz,hs,hb⟩,w,hw,ha⟩
  rw [hz] at hw
  obtain rfl:=Option.some.inj hw
  have hat:=a58 hz hs ha
  have e0:alT a z=z:=by unfold alT; rw [if_neg fun c=>c.2 ha]
  have e:=(S4 (a:=a) (y:=y) (u:=u) hz (by rw [e0]; exact hs)).1
  rw [e0] at e
  exact ⟨z,hat,hs,by rw [e]; exact hb⟩
theorem a8H {near far:Rat} {bs:List (Str × Rat)} (h:C3 near bs far) (a:D):C3 near (A9 bs a) far:=by
 have eT:=G9 near far bs a
 have eL:e9 near (A9 bs a) far=((g7 near bs far).map (alT a)).map fun z=>z.2.2:=by rw [← eT,F1]
 have mem:∀ x∈A9 bs a,x∈bs∨x=(Str.ofString "gap",0):=fun x hx=>by
  unfold A9 at hx
  obtain ⟨z,hz,rfl⟩:=List.mem_map.mp hx
  unfold a0X
  split
  ·exact .inr rfl
  ·exact .inl (List.mem_of_getElem? (List.mem_zipIdx_iff_getElem?.mp hz))
 refine ⟨fun i=>?_,fun x hx=>?_,?_,fun x hx=>?_⟩
 ·have e:tbQ ((e9 near (A9 bs a) far).take i)=tbQ ((e9 near bs far).take i):=by
   rw [eL,← F1]; unfold tbQ; rw [K3,K3]
  rw [e]; exact h.cd i
 ·unfold e9 at hx
  have inb:∀ x∈A9 bs a,sz x.2≤3000:=fun x hx=>by
   rcases mem x hx with h1 | rfl
   ·exact h.szs x (by unfold e9; simp [h1])
   ·show sz 0≤3000; rw [RM.E6]; decide
  rcases List.mem_append.mp hx with hx | hx
  ·rcases List.mem_append.mp hx with hx | hx
   ·rcases List.mem_append.mp hx with hx | hx
    ·exact inb x hx
    ·exact h.szs x (by unfold e9; simp at hx; simp [hx])
   ·exact inb x (List.mem_reverse.mp hx)
  ·exact h.szs x (by unfold e9; simp at hx; simp [hx])
 ·unfold A9; rw [List.length_map,List.length_zipIdx]; exact h.len
 ·rcases mem x hx with h1 | rfl
  ·exact h.part x h1
  ·exact .inl (.inl rfl)
theorem a5f (near far:Rat) (bs:List (Str × Rat)) (a:D):tbQ (e9 near (A9 bs a) far)=tbQ (e9 near bs far):=by
 rw [← F1,← F1,G9]
 unfold tbQ; rw [W4,W4]
theorem a5U {near far:Rat} {bs:List (Str × Rat)} {y u:Rat} {a:D} {r:EvR} (h:b2u (tbQ (e9 near (A9 bs a) far)) (B6 near (A9 bs a) far y u) r):EvT (tbQ (e9 near bs far)) ((g7 near bs far).map (alT a)) y u (evD (D8 (g7 near (A9 bs a) far) (g7 near (A9 bs a) far).length) (tbQ (e9 near (A9 bs a) far)) (B6 near (A9 bs a) far y u) r):=by
 have:=b9J h
 rw [G9,a5f] at this
 rw [G9,a5f]
 exact this
theorem b0y (m:Q4) (l:Rat × Rat × Rat):cl 57 (enD (C0 m l))=true:=by
 unfold C0
 have c1:PyData.canLay0 (.str (Str.ofString "nought"))=true:=by decide +kernel
 have c2:PyData.canLay0 (.str (Str.ofString "round"))=true:=by decide +kernel
 have c3:PyData.canLay0 (.str (Str.ofString "reach"))=true:=by decide +kernel
 have c4:PyData.canLay0 (.str (Str.ofString "kept"))=true:=by decide +kernel
 split
 ·show (PyData.canLay0 (.str (Str.ofString "nought")) && true)=true
  rw [c1]; rfl
 ·split
  ·show (PyData.canLay0 (.str (Str.ofString "round")) && (true && true))=true
   rw [c2]; rfl
  ·split
   ·show (PyData.canLay0 (.str (Str.ofString "reach")) && (cl 55 (d7 (a2s (trQ m) l.1 l.2.1)) && true))=true
    rw [c3]; rfl
   ·show (PyData.canLay0 (.str (Str.ofString "kept")) && (cl 55 (d7 (l.2.1 / l.1)) && true))=true
    rw [c4]; rfl
theorem b1C {m:Q4} {T:List T3} {y u:Rat} {d:D} (hT:∀ z∈T,cl 58 z.1=true∧cl 58 z.2.1=true) (h:EvT m T y u d):cl 59 d=true:=by
 have c1:PyData.canLay0 (.str (Str.ofString "stopped"))=true:=by decide +kernel
 have c2:PyData.canLay0 (.str (Str.ofString "late"))=true:=by decide +kernel
 have c3:PyData.canLay0 (.str (Str.ofString "never"))=true:=by decide +kernel
 rcases h with ⟨n,j,z,rfl,hz,_⟩ | ⟨k,rfl,_⟩ | ⟨es,rfl,_,_,rfl⟩
 ·obtain ⟨a,b⟩:=hT z (List.mem_of_getElem? hz)
  show (PyData.canLay0 (.str (Str.ofString "stopped")) && (true && (cl 58 z.1 && (cl 58 z.2.1 && true))))=true
  rw [c1,a,b]; rfl
 ·show (PyData.canLay0 (.str (Str.ofString "late")) && (true && true))=true
  rw [c2]; rfl
 ·show (PyData.canLay0 (.str (Str.ofString "never")) && (cl 58 (.vl _) && true))=true
  have:clL 57 ((((E9 T T.length).map fun z=>C0 m (F0 (T.map fun z=>z.2.2) y u (T8 T z.2 z.1)))).map enD)=true:=a19 fun d hd=>by
   obtain ⟨e,he,rfl⟩:=List.mem_map.mp hd
   obtain ⟨z,_,rfl⟩:=List.mem_map.mp he
   exact b0y _ _
  rw [c3]
  show (true && (clL 57 _ && true))=true
  rw [this]; rfl
theorem a82 (m:Q4) (l:Rat × Rat × Rat):cl 58 (enD (C0 m l))=true:=by
 unfold C0
 have c1:PyData.canLay0 (.str (Str.ofString "nought"))=true:=by decide +kernel
 have c2:PyData.canLay0 (.str (Str.ofString "round"))=true:=by decide +kernel
 have c3:PyData.canLay0 (.str (Str.ofString "reach"))=true:=by decide +kernel
 have c4:PyData.canLay0 (.str (Str.ofString "kept"))=true:=by decide +kernel
 split
 ·show (PyData.canLay0 (.str (Str.ofString "nought")) && true)=true
  rw [c1]; rfl
 ·split
  ·show (PyData.canLay0 (.str (Str.ofString "round")) && (true && true))=true
   rw [c2]; rfl
  ·split
   ·show (PyData.canLay0 (.str (Str.ofString "reach")) && (cl 56 (d7 (a2s (trQ m) l.1 l.2.1)) && true))=true
    rw [c3]; rfl
   ·show (PyData.canLay0 (.str (Str.ofString "kept")) && (cl 56 (d7 (l.2.1 / l.1)) && true))=true
    rw [c4]; rfl
theorem b7z {m:Q4} {T:List T3} {y u:Rat} {d:D} (hT:∀ z∈T,cl 59 z.1=true∧cl 59 z.2.1=true) (h:EvT m T y u d):cl 60 d=true:=by
 have c1:PyData.canLay0 (.str (Str.ofString "stopped"))=true:=by decide +kernel
 have c2:PyData.canLay0 (.str (Str.ofString "late"))=true:=by decide +kernel
 have c3:PyData.canLay0 (.str (Str.ofString "never"))=true:=by decide +kernel
 rcases h with ⟨n,j,z,rfl,hz,_⟩ | ⟨k,rfl,_⟩ | ⟨es,rfl,_,_,rfl⟩
 ·obtain ⟨a,b⟩:=hT z (List.mem_of_getElem? hz)
  show (PyData.canLay0 (.str (Str.ofString "stopped")) && (true && (cl 59 z.1 && (cl 59 z.2.1 && true))))=true
  rw [c1,a,b]; rfl
 ·show (PyData.canLay0 (.str (Str.ofString "late")) && (true && true))=true
  rw [c2]; rfl
 ·show (PyData.canLay0 (.str (Str.ofString "never")) && (cl 59 (.vl _) && true))=true
  have:clL 58 ((((E9 T T.length).map fun z=>C0 m (F0 (T.map fun z=>z.2.2) y u (T8 T z.2 z.1)))).map enD)=true:=a19 fun d hd=>by
   obtain ⟨e,he,rfl⟩:=List.mem_map.mp hd
   obtain ⟨z,_,rfl⟩:=List.mem_map.mp he
   exact a82 _ _
  rw [c3]
  show (true && (clL 58 _ && true))=true
  rw [this]; rfl
theorem b2m {near far:Rat} {bs:List (Str × Rat)} (a:D):∀ z∈(g7 near bs far).map (alT a),cl 58 z.1=true∧cl 58 z.2.1=true:=fun z hz=>by
 obtain ⟨w,hw,rfl⟩:=List.mem_map.mp hz
 exact a11 hw 57
theorem a8t {near far:Rat} {bs:List (Str × Rat)} {z:T3} (h:z∈g7 near bs far) (hs:z.2.2.1 = "stop"):∃ k:Nat,k<bs.length∧z.2.1 = .int (k:Int)∧bs[k]? = some z.2.2:=by
 unfold g7 at h
 have inb:∀ x∈bs.zipIdx,∃ k:Nat,k<bs.length∧D.int (x.2:Int) = .int (k:Int)∧bs[k]? = some x.1:=fun x hx=>by
  have:=List.mem_zipIdx_iff_getElem?.mp hx
  exact ⟨x.2,(List.getElem?_eq_some_iff.mp this).1,rfl,this⟩
 rcases List.mem_append.mp h with h | h
 ·rcases List.mem_append.mp h with h | h
  ·rcases List.mem_append.mp h with h | h
   ·obtain ⟨x,hx,rfl⟩:=List.mem_map.mp h
    exact inb x hx
   ·rw [List.mem_singleton.mp h] at hs; exact absurd hs (show ¬ Str.ofString "glass" = Str.ofString "stop" by decide)
  ·obtain ⟨x,hx,rfl⟩:=List.mem_map.mp h
   exact inb x (List.mem_reverse.mp hx)
 ·rw [List.mem_singleton.mp h] at hs; exact absurd hs (show ¬ Str.ofString "glass" = Str.ofString "stop" by decide)
theorem a8A {m:Q4} {T:List T3} {y u:Rat} {d:D} (h:EvT m T y u d):∃ r,d = .tup (.str (wS d) :: r):=by
 rcases h with ⟨n,j,z,rfl,_⟩ | ⟨k,rfl,_⟩ | ⟨es,rfl,_⟩
 ·exact ⟨_,rfl⟩
 ·exact ⟨_,rfl⟩
 ·exact ⟨_,rfl⟩
theorem D2 {m:Q4} {T:List T3} {y u:Rat} {d:D} (h:EvT m T y u d) (hw:wS d = "stopped"):∃ (n j:Nat) (z:T3),d = .tup [.str "stopped",.int (n:Int),z.1,z.2.1]∧T[j]? = some z∧z.2.2.1 = "stop" ∧ AtT m T y u n j:=by
 rcases h with h | ⟨k,rfl,_⟩ | ⟨es,rfl,_⟩
 ·exact h
 ·exact absurd hw (show ¬ Str.ofString "late" = Str.ofString "stopped" by decide)
 ·exact absurd hw (show ¬ Str.ofString "never" = Str.ofString "stopped" by decide)
theorem T0 {m:Q4} {T:List T3} {y u:Rat} {d:D} (h:EvT m T y u d) (hw:wS d = "late"):NoT m T y u∧∃ j,laT m T y u j:=by
 rcases h with ⟨n,j,z,rfl,_⟩ | ⟨k,rfl,h⟩ | ⟨es,rfl,_⟩
 ·exact absurd hw (show ¬ Str.ofString "stopped" = Str.ofString "late" by decide)
 ·exact h
 ·exact absurd hw (show ¬ Str.ofString "never" = Str.ofString "late" by decide)
theorem G5 {m:Q4} {T:List T3} {y u:Rat} {d:D} (h:EvT m T y u d) (hw:wS d = "never"):NoT m T y u∧∀ j,¬ laT m T y u j:=by
 rcases h with ⟨n,j,z,rfl,_⟩ | ⟨k,rfl,_⟩ | ⟨es,rfl,h1,h2,_⟩
 ·exact absurd hw (show ¬ Str.ofString "stopped" = Str.ofString "never" by decide)
 ·exact absurd hw (show ¬ Str.ofString "late" = Str.ofString "never" by decide)
 ·exact ⟨h1,h2⟩
theorem G4 {m:Q4} {T:List T3} {y u:Rat} {d:D} (h:EvT m T y u d):wS d = "stopped" ∨ wS d = "late" ∨ wS d = "never" := by
 rcases h with ⟨n,j,z,rfl,_⟩ | ⟨k,rfl,_⟩ | ⟨es,rfl,_⟩
 ·exact .inl rfl
 ·exact .inr (.inl rfl)
 ·exact .inr (.inr rfl)
theorem b2l {m:Q4} {T:List T3} {y u:Rat} {n j:Nat} (h:AtT m T y u n j) (g:NoT m T y u):False:=g n j h.2.2.2 h.1
structure R3 (m:Q4) (T:List T3) (y u:Rat) (P:Nat→Prop) (ds:List D):Prop where
 of:∀ d∈ds,∃ k,P k∧EvT m (T.map (alT (.int (k:Int)))) y u d
 all:∀ k,P k→∃ d∈ds,EvT m (T.map (alT (.int (k:Int)))) y u d
 no:∀ z∈T,z.2.2.1 = "stop" → ∃ k,P k∧z.2.1 = .int (k:Int)
section
variable {m:Q4} {T:List T3} {y u:Rat} {P:Nat→Prop} {ds:List D} {d:D}
theorem a8e (h:NoT m T y u) (a:D):NoT m (T.map (alT a)) y u:=fun n j hn hb=>h n j hn (K9.mp hb).1
theorem R3.at (hp:R3 m T y u P ds) {n j:Nat} (hb:bT (trQ m) T y u n j):∃ k,P k∧bT (trQ m) (T.map (alT (.int (k:Int)))) y u n j:=by
 obtain ⟨z,hz,hs,_⟩:=id hb
 obtain ⟨k,hk,e⟩:=hp.no z (List.mem_of_getElem? hz) hs
 exact ⟨k,hk,K9.mpr ⟨hb,z,hz,e⟩⟩
theorem R3.never (hp:R3 m T y u P ds) (hd:EvT m T y u d):wS d = "never" ↔ ∀ x∈ds,wS x = "never" := by
 constructor
 ·intro hw x hx
  obtain ⟨h1,h2⟩:=G5 hd hw
  obtain ⟨k,_,hx⟩:=hp.of x hx
  rcases G4 hx with h | h | h
  ·obtain ⟨n,j,z,_,_,_,hat⟩:=D2 hx h
   exact (b2l hat (a8e h1 _)).elim
  ·obtain ⟨_,j,hj⟩:=T0 hx h
   exact absurd (a0q.mp hj).1 (h2 j)
  ·exact h
 ·intro hall
  have hno:NoT m T y u:=fun n j hn hb=>by
   obtain ⟨k,hk,hb2⟩:=hp.at hb
   obtain ⟨x,hx,hex⟩:=hp.all k hk
   exact (G5 hex (hall x hx)).1 n j hn hb2
  have hla:∀ j,¬ laT m T y u j:=fun j hj=>by
   obtain ⟨z,hz,hs,_⟩:=id hj
   obtain ⟨k,hk,e⟩:=hp.no z (List.mem_of_getElem? hz) hs
   obtain ⟨x,hx,hex⟩:=hp.all k hk
   exact (G5 hex (hall x hx)).2 j (a0q.mpr ⟨hj,z,hz,e⟩)
  rcases G4 hd with h | h | h
  ·obtain ⟨n,j,z,_,_,_,hat⟩:=D2 hd h
   exact (b2l hat hno).elim
  ·obtain ⟨_,j,hj⟩:=T0 hd h
   exact absurd hj (hla j)
  ·exact h
theorem R3.stop (hp:R3 m T y u P ds) (hd:EvT m T y u d):wS d = "stopped" ↔ ∃ x∈ds,wS x = "stopped" := by
 constructor
 ·intro hw
  obtain ⟨n,j,z,_,_,_,hat⟩:=D2 hd hw
  obtain ⟨k,hk,hb2⟩:=hp.at hat.1
  obtain ⟨x,hx,hex⟩:=hp.all k hk
  refine ⟨x,hx,?_⟩
  rcases G4 hex with h | h | h
  ·exact h
  ·exact absurd hb2 ((T0 hex h).1 n j hat.2.2.2)
  ·exact absurd hb2 ((G5 hex h).1 n j hat.2.2.2)
 ·rintro ⟨x,hx,hw⟩
  obtain ⟨k,_,hex⟩:=hp.of x hx
  obtain ⟨n,j,z,_,_,_,hat⟩:=D2 hex hw
  have hb:=(K9.mp hat.1).1
  rcases G4 hd with h | h | h
  ·exact h
  ·exact absurd hb ((T0 hd h).1 n j hat.2.2.2)
  ·exact absurd hb ((G5 hd h).1 n j hat.2.2.2)
theorem R3.first (hp:R3 m T y u P ds) (hd:EvT m T y u d) (hw:wS d = "stopped"):d∈ds∧∀ x∈ds,wS x = "stopped" → nS d≤nS x:=by
 obtain ⟨n,j,z,rfl,hz,hs,hat⟩:=D2 hd hw
 constructor
 ·obtain ⟨k,hk,e⟩:=hp.no z (List.mem_of_getElem? hz) hs
  obtain ⟨x,hx,hex⟩:=hp.all k hk
  have hb2:bT (trQ m) (T.map (alT (.int (k:Int)))) y u n j:=K9.mpr ⟨hat.1,z,hz,e⟩
  have hxw:wS x = "stopped" := by
   rcases G4 hex with h | h | h
   ·exact h
   ·exact absurd hb2 ((T0 hex h).1 n j hat.2.2.2)
   ·exact absurd hb2 ((G5 hex h).1 n j hat.2.2.2)
  obtain ⟨n',j',z',rfl,hz',_,hat'⟩:=D2 hex hxw
  have hb':=(K9.mp hat'.1).1
  have en:n'=n:=by
   rcases Nat.lt_trichotomy n' n with h | h | h
   ·exact absurd hb' (hat.2.1 n' h j')
   ·exact h
   ·exact absurd hb2 (hat'.2.1 n h j)
  subst en
  have ej:j'=j:=by
   rcases Nat.lt_trichotomy j' j with h | h | h
   ·exact absurd hb' (hat.2.2.1 j' h)
   ·exact h
   ·exact absurd hb2 (hat'.2.2.1 j h)
  subst ej
  rw [List.getElem?_map,hz] at hz'
  obtain rfl:=Option.some.inj hz'
  exact hx
 ·intro x hx hxw
  obtain ⟨k,_,hex⟩:=hp.of x hx
  obtain ⟨n',j',z',rfl,_,_,hat'⟩:=D2 hex hxw
  have hb':=(K9.mp hat'.1).1
  show (n:Int)≤(n':Int)
  rcases Nat.lt_or_ge n' n with h | h
  ·exact absurd hb' (hat.2.1 n' h j')
  ·omega
theorem R3.late (hp:R3 m T y u P ds) (hd:EvT m T y u d) (hw:wS d = "late"):∃ x∈ds,wS x = "late" := by
 obtain ⟨h1,j,hj⟩:=T0 hd hw
 obtain ⟨z,hz,hs,_⟩:=id hj
 obtain ⟨k,hk,e⟩:=hp.no z (List.mem_of_getElem? hz) hs
 obtain ⟨x,hx,hex⟩:=hp.all k hk
 refine ⟨x,hx,?_⟩
 rcases G4 hex with h | h | h
 ·obtain ⟨n,j',z',_,_,_,hat⟩:=D2 hex h
  exact (b2l hat (a8e h1 _)).elim
 ·exact h
 ·exact absurd (a0q.mpr ⟨hj,z,hz,e⟩) ((G5 hex h).2 j)
end
local macro_rules | `(tactic| walk_at "inj")=>`(tactic| (rename_i e h; simp only [List.cons.injEq,and_true,true_and,GM.j3,GM.i0,GM.g8,GM.i3,GM.g9,D.tup.injEq,D.ref.injEq,D.int.injEq,D.str.injEq,D.bl.injEq,D.vl.injEq,Int.natCast_inj,and_assoc] at e; (repeat (obtain ⟨e1,e⟩:=e; subst e1)); subst e; exact h))
local macro_rules | `(tactic| walk_at "injs")=>`(tactic| (rename_i e o h; rcases o with o | o <;> (subst o; first | (exfalso; simp only [D.tup.injEq,List.cons.injEq,reduceCtorEq,false_and,and_false] at e; done) | (simp only [List.cons.injEq,and_true,true_and,GM.j3,GM.i0,GM.g8,GM.i3,GM.g9,D.tup.injEq,D.ref.injEq,D.int.injEq,D.str.injEq,D.bl.injEq,D.vl.injEq,Int.natCast_inj,and_assoc] at e; (repeat (obtain ⟨e1,e⟩:=e; subst e1)); subst e; exact h))))
def a6Q:DSp:=fun ds M R Y=>∃ (near:Rat) (bs:List (Str × Rat)) (far:Rat) (a:D),ds=[.tup [d7 near,.vl (bs.map f9),d7 far],a]∧(bs.length≤9∧cl 60 a=true)∧R (.tup [d7 near,.vl ((A9 bs a).map f9),d7 far]) M
theorem a4Z {near:Rat} {bs:List (Str × Rat)} {far:Rat} {a:D} {M:Mem} {R:DK} {Y:DXK}:a6Q [.tup [d7 near,.vl (bs.map f9),d7 far],a] M R Y=((bs.length≤9∧cl 60 a=true)∧R (.tup [d7 near,.vl ((A9 bs a).map f9),d7 far]) M):=propext ⟨fun z=>by obtain ⟨_,_,_,_,_,_⟩:=z; walk_at "inj",fun h=>⟨near,bs,far,a,rfl,h⟩⟩
end GM
namespace K45
open PySem PySem.Spec L2 DL GM
open RM (sz)
open PyProof.Rows hiding St
local macro_rules | `(tactic| walk_at "sim")=>`(tactic| (try simp only [↓DL.z_C,↓DL.b8V,↓DL.b8T,↓DL.b8R,↓DL.b8S,↓DL.b8Q,↓DL.b8P,↓DL.b8O,↓DL.a92,↓DL.b5I,↓DL.b5K,↓DL.b8U,↓DL.b5w,↓DL.b0i,↓DL.b5v,↓DL.a98,↓DL.b8X,↓DL.b5B,↓DL.b5x,↓DL.b0f,↓DL.b5r,↓DL.b5z,↓DL.b0h,↓DL.b8Y,↓DL.a99,↓DL.b5s,↓DL.b0e,↓DL.b5t,↓DL.a7T,↓DL.a7K,↓DL.a91,↓DL.a7L,↓DL.a1v,↓DL.a42,↓DL.b5J,↓DL.b5u,↓DL.a97,↓DL.b5L,↓DL.b5y,↓DL.b5A,↓DL.b5D,↓DL.b5C,↓DL.b0a,↓DL.b0g,↓DL.a7U,↓DL.a45,↓DL.a3e,↓DL.a41,↓DL.a46,↓DL.a96,↓DL.a43,↓DL.a44,↓DL.b0d,↓DL.a48,↓DL.a7Z,↓DL.a90,↓DL.b5E,↓DL.b5G,↓DL.a7X,↓DL.a7Y,↓DL.b5q,↓DL.a7N,↓DL.a94,↓DL.a93,↓DL.a47,↓DL.a7W,↓DL.a7V,↓DL.a7M,↓DL.a7S,↓DL.a7P,↓DL.a7R,↓DL.a7Q,↓DL.a7O,↓DL.a95,↓DL.b5F,↓DL.b5H,↓DL.b0b,↓DL.b0c,↓DL.b8W,↓DL.a0x,↓DL.a1j,↓DL.a23,↓DL.a1k,↓DL.a22,↓DL.a0w,↓DL.a1h,↓DL.a21,↓DL.a1i,↓DL.a20,↓DL.a0A,↓DL.a1p,↓DL.a29,↓DL.a1q,↓DL.a28,↓DL.a0z,↓DL.a1n,↓DL.a27,↓DL.a1o,↓DL.a26,↓DL.a0y,↓DL.a1l,↓DL.a25,↓DL.a1m,↓DL.a24,↓DL.a0C,↓DL.a1t,↓DL.a3d,↓DL.a1u,↓DL.a3c,↓DL.a0B,↓DL.a1r,↓DL.a3b,↓DL.a1s,↓DL.a3a,↓DL.b8D,↓DL.b8C,↓DL.b8B,↓DL.b8A,↓DL.b8z,↓DL.b8y,↓DL.b8x,↓DL.b8w,↓DL.b8v,↓DL.b8u,↓DL.b5d,↓DL.b8N,↓DL.b8M,↓DL.b8L,↓DL.b8K,↓DL.b8J,↓DL.b8I,↓DL.b8H,↓DL.b8G,↓DL.b8F,↓DL.b8E,↓DL.b5p,↓DL.a1g,↓DL.a1f,↓DL.a6l,↓DL.a9Z,↓DL.a9Y,↓DL.a9X,↓DL.a9W,↓DL.a9V,↓DL.a9U,↓DL.a9T,↓DL.a9S,↓DL.a9R,↓DL.a9Q,↓DL.a9P,↓DL.a9O,↓DL.a9N,↓DL.b5n,↓DL.b5m,↓DL.b5l,↓DL.b5k,↓DL.b5j,↓DL.b5i,↓DL.b5h,↓DL.b5g,↓DL.b5f,↓DL.b5e,↓GM.a40,↓GM.a2Z,↓GM.a7C,↓GM.a9M,↓GM.a9L,↓GM.a9K,↓GM.a9J,↓GM.a7F,↓GM.a7E,↓GM.a7D,↓GM.a7G,↓GM.a7J,↓GM.a7I,↓GM.a7H,↓GM.a4Z,↓GM.a4Y,↓GM.a2Y,↓GM.a9I,↓GM.a7B,↓GM.a2X,↓GM.a9H,↓GM.a4X,↓GM.a1e,↓GM.X9,↓GM.a2W,↓GM.a2V,↓GM.a7A,↓GM.a1d,↓GM.X8,↓GM.a4W,↓GM.a1c,↓GM.b5o,↓GM.a2U,↓GM.a9G,↓GM.a7z,↓GM.a4V,↓GM.a2T,↓GM.a2S,↓GM.a4U,↓GM.a2R,↓GM.a7y,↓GM.a4T,↓GM.a7x,↓GM.a7w,↓GM.a4S,↓GM.a1b,↓GM.a7v,↓GM.a2Q,↓GM.a9F,↓GM.a2P,↓GM.a4R,↓GM.a1a,↓GM.a2O,↓GM.a9E,↓GM.X7,↓GM.a2N,↓GM.a9D,↓GM.a7u,↓GM.a9C,↓GM.a4Q,↓GM.a09,↓GM.a7t,↓GM.a0v,↓GM.a0u,↓GM.a4P,↓GM.a7s,↓GM.a2M,↓GM.a4O,↓GM.a7r,↓GM.a4N,↓GM.a4M,↓GM.a4L,↓GM.a4K,↓GM.a2L,↓GM.a2K,GM.a40,GM.a2Z,GM.a7C,GM.a9M,GM.a9L,GM.a9K,GM.a9J,GM.a7F,GM.a7E,GM.a7D,GM.a7G,GM.a7J,GM.a7I,GM.a7H,GM.a4Z,GM.a4Y,GM.a2Y,GM.a9I,GM.a7B,GM.a2X,GM.a9H,GM.a4X,GM.a1e,GM.X9,GM.a2W,GM.a2V,GM.a7A,GM.a1d,GM.X8,GM.a4W,GM.a1c,GM.b5o,GM.a2U,GM.a9G,GM.a7z,GM.a4V,GM.a2T,GM.a2S,GM.a4U,GM.a2R,GM.a7y,GM.a4T,GM.a7x,GM.a7w,GM.a4S,GM.a1b,GM.a7v,GM.a2Q,GM.a9F,GM.a2P,GM.a4R,GM.a1a,GM.a2O,GM.a9E,GM.X7,GM.a2N,GM.a9D,GM.a7u,GM.a9C,GM.a4Q,GM.a09,GM.a7t,GM.a0v,GM.a0u,GM.a4P,GM.a7s,GM.a2M,GM.a4O,GM.a7r,GM.a4N,GM.a4M,GM.a4L,GM.a4K,GM.a2L,GM.a2K,DL.z_C,DL.b8V,DL.b8T,DL.b8R,DL.b8S,DL.b8Q,DL.b8P,DL.b8O,DL.a92,DL.b5I,DL.b5K,DL.b8U,DL.b5w,DL.b0i,DL.b5v,DL.a98,DL.b8X,DL.b5B,DL.b5x,DL.b0f,DL.b5r,DL.b5z,DL.b0h,DL.b8Y,DL.a99,DL.b5s,DL.b0e,DL.b5t,DL.a7T,DL.a7K,DL.a91,DL.a7L,DL.a1v,DL.a42,DL.b5J,DL.b5u,DL.a97,DL.b5L,DL.b5y,DL.b5A,DL.b5D,DL.b5C,DL.b0a,DL.b0g,DL.a7U,DL.a45,DL.a3e,DL.a41,DL.a46,DL.a96,DL.a43,DL.a44,DL.b0d,DL.a48,DL.a7Z,DL.a90,DL.b5E,DL.b5G,DL.a7X,DL.a7Y,DL.b5q,DL.a7N,DL.a94,DL.a93,DL.a47,DL.a7W,DL.a7V,DL.a7M,DL.a7S,DL.a7P,DL.a7R,DL.a7Q,DL.a7O,DL.a95,DL.b5F,DL.b5H,DL.b0b,DL.b0c,DL.b8W,DL.a0x,DL.a1j,DL.a23,DL.a1k,DL.a22,DL.a0w,DL.a1h,DL.a21,DL.a1i,DL.a20,DL.a0A,DL.a1p,DL.a29,DL.a1q,DL.a28,DL.a0z,DL.a1n,DL.a27,DL.a1o,DL.a26,DL.a0y,DL.a1l,DL.a25,DL.a1m,DL.a24,DL.a0C,DL.a1t,DL.a3d,DL.a1u,DL.a3c,DL.a0B,DL.a1r,DL.a3b,DL.a1s,DL.a3a,DL.b8D,DL.b8C,DL.b8B,DL.b8A,DL.b8z,DL.b8y,DL.b8x,DL.b8w,DL.b8v,DL.b8u,DL.b5d,DL.b8N,DL.b8M,DL.b8L,DL.b8K,DL.b8J,DL.b8I,DL.b8H,DL.b8G,DL.b8F,DL.b8E,DL.b5p,DL.a1g,DL.a1f,DL.a6l,DL.a9Z,DL.a9Y,DL.a9X,DL.a9W,DL.a9V,DL.a9U,DL.a9T,DL.a9S,DL.a9R,DL.a9Q,DL.a9P,DL.a9O,DL.a9N,DL.b5n,DL.b5m,DL.b5l,DL.b5k,DL.b5j,DL.b5i,DL.b5h,DL.b5g,DL.b5f,DL.b5e,DL.b3l,DL.b3f,DL.b2V,DL.b2P,DL.b3m,DL.b3g,DL.b2W,DL.b2Q,DL.b3n,DL.b3h,DL.b2X,DL.b2R,DL.b3o,DL.b3i,DL.b2Y,DL.b2S,DL.b3p,DL.b3j,DL.b2Z,DL.b2T,DL.b3q,DL.b3k,DL.b3a,DL.b2U,DL.b2D,DL.b2J,DL.b2E,DL.b2K,DL.b2F,DL.b2L,DL.b2G,DL.b2M,DL.b2H,DL.b2N,DL.b2I,DL.b2O,GM.b3b,GM.b3c,GM.b3d,GM.b3e,DL.b6m,DL.b6l,DL.b6k,DL.b6j,DL.b6i,DL.b6h,DL.b6g,DL.b6f,DL.b6e,DL.b2C,DL.b2B,DL.b2A,Nat.reduceAdd,Nat.reduceLT,Nat.reduceLeDiff,Nat.zero_add,Int.reduceLT,Int.reduceLE,Int.reduceEq,eq_self,decide_true,decide_false,D.int.injEq,D.str.injEq,beq_self_eq_true,and_self,true_and,and_true,not_true_eq_false,not_false_eq_true,false_implies,true_implies,forall_const,W8,List.map_cons,List.map_nil,List.cons_append,List.nil_append,List.append_nil,List.length_cons,List.length_nil,List.replicate,a2G,List.getElem?_cons_zero,List.getElem?_cons_succ,Option.getD_some,decide_eq_true_eq,decide_eq_false_iff_not,Bool.not_eq_true',Bool.not_eq_false',Bool.and_self,Bool.true_and,Bool.and_true,Bool.xor_false,Bool.false_xor,Bool.true_xor,Bool.not_true,Bool.not_false,Bool.false_eq_true,Bool.true_eq_false,reduceIte,GM.r0,GM.r1,GM.r2,GM.r4,GM.rm1,GM.rm2,GM.j3,GM.b6I,GM.b9d,GM.b9c,GM.b6H]))
local macro_rules | `(tactic| walk_at "len")=>`(tactic| (intro ds M R Y h; first | (obtain ⟨_,e,_⟩:=h; exact congrArg List.length e) | (obtain ⟨_,_,e,_⟩:=h; exact congrArg List.length e) | (obtain ⟨_,_,_,e,_⟩:=h; exact congrArg List.length e) | (obtain ⟨_,_,_,_,e,_⟩:=h; exact congrArg List.length e) | (obtain ⟨_,_,_,_,_,e,_⟩:=h; exact congrArg List.length e) | (obtain ⟨_,_,_,_,_,_,e,_⟩:=h; exact congrArg List.length e) | (obtain ⟨_,_,_,_,_,_,_,e,_⟩:=h; exact congrArg List.length e) | (obtain ⟨_,_,_,_,_,_,_,_,e,_⟩:=h; exact congrArg List.length e) | (obtain ⟨_,_,_,_,_,_,_,_,_,e,_⟩:=h; exact congrArg List.length e) | (obtain ⟨_,_,_,_,_,_,_,_,_,_,e,_⟩:=h; exact congrArg List.length e) | (obtain ⟨_,_,_,_,_,_,_,_,_,_,_,e,_⟩:=h; exact congrArg List.length e) | (obtain ⟨_,_,_,_,_,_,_,_,_,_,_,_,e,_⟩:=h; exact congrArg List.length e)))
local macro_rules | `(tactic| walk_at "size")=>`(tactic| first | omega | grind only [RM.D7,RM.a3E,RM.U7,RM.L3,RM.U8,RM.E6,GM.a1y])
local macro_rules | `(tactic| walk_at "sc")=>`(tactic| exact ⟨rfl,rfl,rfl,by decide +kernel,rfl,by decide +kernel,by decide +kernel⟩)
def top (i:Nat):Stmt:=PySem.Challenge.pw_roundglass_k45_whole_stops_one_by_one.main.body.getD i (.Pass ⟨0,0,0,0⟩)
abbrev a0l:Stmt:=top 7
abbrev V9:Stmt:=top 6
abbrev a3T:Stmt:=top 8
abbrev a6G:Stmt:=top 14
abbrev P5:Stmt:=top 16
abbrev E3:Stmt:=top 15
abbrev a3S:Stmt:=top 43
abbrev V6:Stmt:=top 44
abbrev a6F:Stmt:=top 11
abbrev a6D:Stmt:=top 35
abbrev V7:Stmt:=top 9
abbrev C4:Stmt:=top 36
abbrev V4:Stmt:=top 59
abbrev a3V:Stmt:=top 17
abbrev V2:Stmt:=top 10
abbrev P9:Stmt:=top 37
abbrev L6:Stmt:=top 54
abbrev J7:Stmt:=top 53
abbrev J4:Stmt:=top 55
abbrev D9:Stmt:=top 56
abbrev E1:Stmt:=top 57
abbrev M0:Stmt:=top 58
abbrev a3R:Stmt:=top 13
abbrev L5:Stmt:=top 51
abbrev L7:Stmt:=top 52
abbrev P8:Stmt:=top 42
abbrev b0E:Stmt:=top 24
abbrev Q0:Stmt:=top 50
abbrev a3U:Stmt:=top 12
abbrev J6:Stmt:=top 27
abbrev V8:Stmt:=top 46
abbrev F6:Stmt:=top 29
abbrev J5:Stmt:=top 33
abbrev L8:Stmt:=top 49
abbrev M7:Stmt:=top 25
abbrev V3:Stmt:=top 28
abbrev V5:Stmt:=top 34
abbrev a6I:Stmt:=top 60
abbrev N2:Stmt:=top 72
abbrev J8:Stmt:=top 69
abbrev Q3:Stmt:=top 63
abbrev L9:Stmt:=top 18
abbrev a6E:Stmt:=top 19
abbrev P6:Stmt:=top 40
abbrev P7:Stmt:=top 39
abbrev a0k:Stmt:=top 38
abbrev a6H:Stmt:=top 41
abbrev M9:Stmt:=top 70
abbrev E8:Stmt:=top 64
abbrev W1:Stmt:=top 71
abbrev M8:Stmt:=top 66
abbrev J9:Stmt:=top 65
abbrev C1:Stmt:=top 67
abbrev Q5:Stmt:=top 68
abbrev Q1:Stmt:=top 62
abbrev b0F:Stmt:=top 73
theorem a6B:f6 ["one", "other"] ["one", "other"] (d9 a0l):=by walk_at "sc"
theorem a5t:f6 ["thing"] ["thing"] (d9 V9):=by walk_at "sc"
theorem b0C:f6 ["top", "bottom", "share"] ["top", "bottom"] (d9 a3T):=by walk_at "sc"
theorem b3A:f6 ["one", "other"] ["one", "other"] (d9 a6G):=by walk_at "sc"
theorem a3I:f6 ["ratios", "bottom"] ["ratios", "bottom"] (d9 P5):=by walk_at "sc"
theorem a0j:f6 ["ratios", "bottom", "one"] ["ratios"] (d9 E3):=by walk_at "sc"
theorem b0B:f6 ["t", "x", "later", "bottom", "one", "other"] ["t", "x", "later"] (d9 a3S):=by walk_at "sc"
theorem a5q:f6 ["t", "x", "later", "top", "bottom"] ["t", "x", "later"] (d9 V6):=by walk_at "sc"
theorem b3z:f6 ["one", "other"] ["one", "other"] (d9 a6F):=by walk_at "sc"
theorem b3x:f6 ["table"] ["table"] (d9 a6D):=by walk_at "sc"
theorem a5r:f6 ["one"] ["one"] (d9 V7):=by walk_at "sc"
theorem Y5:f6 ["table", "t"] ["table"] (d9 C4):=by walk_at "sc"
theorem a5o:f6 ["word", "table", "x", "later", "top", "bottom"] ["word", "table", "x", "later"] (d9 V4):=by walk_at "sc"
theorem a75:f6 ["one", "other"] ["one", "other"] (d9 a3V):=by walk_at "sc"
theorem a5m:f6 ["one"] ["one"] (d9 V2):=by walk_at "sc"
theorem a3M:f6 ["table", "size"] ["table"] (d9 P9):=by walk_at "sc"
theorem a2j:f6 ["t", "state", "now", "then", "bound"] ["t", "state"] (d9 L6):=by walk_at "sc"
theorem a1D:f6 ["t", "x", "later", "r", "ratios", "now", "then", "bound"] ["t", "x", "later", "r"] (d9 J7):=by walk_at "sc"
theorem a1A:f6 ["t", "numbers", "watched", "rounds", "states", "passed", "k", "state"] ["t", "numbers", "watched", "rounds"] (d9 J4):=by walk_at "sc"
theorem a0h:f6 ["t", "x", "later", "r", "ratios", "now", "then", "bound", "step", "ahead"] ["t", "x", "later", "r"] (d9 D9):=by walk_at "sc"
theorem a0i:f6 ["t", "numbers", "late", "stops", "k", "x", "later", "r"] ["t", "numbers", "late"] (d9 E1):=by walk_at "sc"
theorem a2n:f6 ["table", "numbers", "late", "k", "x", "later", "r", "t", "word"] ["table", "numbers", "late"] (d9 M0):=by walk_at "sc"
theorem b0A:f6 ["one", "other"] ["one", "other"] (d9 a3R):=by walk_at "sc"
theorem a2i:f6 ["word", "t", "x", "later", "r"] ["word", "t", "x", "later", "r"] (d9 L5):=by walk_at "sc"
theorem a2k:f6 ["table", "numbers", "word", "t"] ["table", "numbers"] (d9 L7):=by walk_at "sc"
theorem a3L:f6 ["p", "q", "ray"] ["p", "q", "ray"] (d9 P8):=by walk_at "sc"
theorem b6y:f6 ["table", "ray", "a", "b", "c", "d", "y", "u"] ["table", "ray"] (d9 b0E):=by walk_at "sc"
theorem a3N:f6 ["table", "ray", "lines", "later"] ["table", "ray", "lines"] (d9 Q0):=by walk_at "sc"
theorem b0D:f6 ["one", "other"] ["one", "other"] (d9 a3U):=by walk_at "sc"
theorem a1C:f6 ["part", "ray", "word", "number", "y", "u"] ["part", "ray"] (d9 J6):=by walk_at "sc"
theorem a5s:f6 ["bench", "lines", "level", "axis", "part"] ["bench"] (d9 V8):=by walk_at "sc"
theorem a0T:f6 ["bench"] ["bench"] (d9 F6):=by walk_at "sc"
theorem a1B:f6 ["hall", "near", "bench", "far"] ["hall"] (d9 J5):=by walk_at "sc"
theorem a2l:f6 ["hall", "forth", "back", "lines"] ["hall"] (d9 L8):=by walk_at "sc"
theorem a2o:f6 ["first", "second"] ["first", "second"] (d9 M7):=by walk_at "sc"
theorem a5n:f6 ["bench", "first", "second", "part"] ["bench"] (d9 V3):=by walk_at "sc"
theorem a5p:f6 ["hall"] ["hall"] (d9 V5):=by walk_at "sc"
theorem b3C:f6 ["hall", "ray", "table", "met", "numbers", "late", "stop", "passed", "k", "word"] ["hall", "ray"] (d9 a6I):=by walk_at "sc"
theorem a2r:f6 ["hall", "at", "parts", "k", "part"] ["hall", "at"] (d9 N2):=by walk_at "sc"
theorem a1E:f6 ["ray", "factor"] ["ray", "factor"] (d9 J8):=by walk_at "sc"
theorem a3P:f6 ["pool", "base", "digit", "near", "stir"] ["pool", "base"] (d9 Q3):=by walk_at "sc"
theorem a2m:f6 ["number", "guess", "step", "better"] ["number"] (d9 L9):=by walk_at "sc"
theorem b3y:f6 ["one", "top", "bottom"] ["one"] (d9 a6E):=by walk_at "sc"
theorem a3J:f6 ["t", "apart"] ["t"] (d9 P6):=by walk_at "sc"
theorem a3K:f6 ["table", "a", "b", "c", "d"] ["table"] (d9 P7):=by walk_at "sc"
theorem a6A:f6 ["table", "a", "b", "c", "d"] ["table"] (d9 a0k):=by walk_at "sc"
theorem b3B:f6 ["hall", "table", "word"] ["hall"] (d9 a6H):=by walk_at "sc"
theorem a2q:f6 ["hall", "other", "a", "b", "c", "d", "told", "k", "found"] ["hall", "other"] (d9 M9):=by walk_at "sc"
theorem U0:f6 ["pool", "tops", "bottoms"] ["pool", "tops", "bottoms"] (d9 E8):=by walk_at "sc"
theorem a5u:f6 ["pool", "hall", "way_drawn", "ray", "factor", "along", "little"] ["pool", "hall"] (d9 W1):=by walk_at "sc"
theorem a2p:f6 ["pool", "parts", "count", "found", "k", "r"] ["pool", "parts", "count"] (d9 M8):=by walk_at "sc"
theorem a1F:f6 ["pool", "gap", "count", "found", "k", "piece"] ["pool", "gap"] (d9 J9):=by walk_at "sc"
theorem V0:f6 ["pool", "pairs", "near", "far", "bottoms", "halves", "gap", "parts", "first"] ["pool"] (d9 C1):=by walk_at "sc"
theorem a3Q:f6 ["pool", "way_drawn", "power_drawn", "parts", "k"] ["pool"] (d9 Q5):=by walk_at "sc"
theorem a3O:f6 ["cell"] ["cell"] (d9 Q1):=by walk_at "sc"
theorem b6z:f6 ["script", "cell", "pool", "hall", "ray", "told", "some", "words", "turns"] ["script"] (d9 b0F):=by walk_at "sc"
structure Txt (K:PySem.W.Frag) (mg:Str→Option Value):Prop where
 b_abs:mg "abs" = none
 b_bool:mg "bool" = none
 b_enumerate:mg "enumerate" = none
 b_int:mg "int" = none
 b_isinstance:mg "isinstance" = none
 b_len:mg "len" = none
 b_list:mg "list" = none
 b_max:mg "max" = none
 b_min:mg "min" = none
 b_range:mg "range" = none
 b_reversed:mg "reversed" = none
 b_tuple:mg "tuple" = none
 b_zip:mg "zip" = none
 sub:b2q K
 c_AXIS_RAY:GlD K mg "AXIS_RAY" (.tup [(.tup [(.int 0),(.int 1)]),(.tup [(.int 1),(.int 1)])])
 c_FIRST_ROUNDS:GlD K mg "FIRST_ROUNDS" (.int 60)
 c_FOUR:GlD K mg "FOUR" (.tup [(.int 4),(.int 1)])
 c_LEVEL_RAY:GlD K mg "LEVEL_RAY" (.tup [(.tup [(.int 1),(.int 1)]),(.tup [(.int 0),(.int 1)])])
 c_NOUGHT:GlD K mg "NOUGHT" (.tup [(.int 0),(.int 1)])
 c_ONE:GlD K mg "ONE" (.tup [(.int 1),(.int 1)])
 c_SELF:GlD K mg "SELF" (.tup [(.tup [(.int 1),(.int 1)]),(.tup [(.int 0),(.int 1)]),(.tup [(.int 0),(.int 1)]),(.tup [(.int 1),(.int 1)])])
 c_TWO:GlD K mg "TWO" (.tup [(.int 2),(.int 1)])
section
variable {P:Program} {w:World} {K:PySem.W.Frag} {mg:Str→Option Value} {base:Heap}
theorem a6Y (T:Txt K mg) (d:Df K mg "divisor" a0l ["one", "other"]):Fn P w K mg base "divisor" 1 ["one", "other"] R7:=by
 have sc:=a6B
 refine j4 d sc (fun ds M R Y h=>?_) (fun f cdv A outer s H E ds M R Y hr h=>?_)
 ·obtain ⟨a,b,rfl,_⟩:=h; rfl
 ·obtain ⟨a,b,rfl,k⟩:=h
  refine ⟨_,(d4 (a3r PassesOwn.never (jtm a5L (a8 1) d3) (d5 (b4r (i:=0) (j:=1) rfl sc.nd rfl rfl (by decide) rfl rfl (a7 (a8 1) (a7 (f8 a1T (a8 0) (a8 1)) a9))))) (d5 (d8 (a8 0)))),?_⟩
  refine ⟨fun m e M'=>M'=M∧∃ u:Nat,e=[some (.int (u:Int)),some (.int (m:Int))]∧Nat.gcd u m=Nat.gcd a b,⟨b,rfl,a,rfl,rfl⟩,?_⟩
  rintro v e M' ⟨rfl,u,rfl,hg⟩
  refine ⟨_,rfl,_,rfl,_,rfl,?_⟩
  refine b1r (fun h0=>?_) (fun h0=>?_)
  ·have hv:0<v:=by omega
   refine ⟨_,rfl,_,rfl,_,rfl,_,_,rfl,rfl,by omega,_,_,rfl,?_⟩
   exact ⟨u % v,Nat.mod_lt _ hv,rfl,v,rfl,by rw [← RM.b1w u v (by omega)]; exact hg⟩
  ·have hv:v=0:=by omega
   subst hv
   rw [Nat.gcd_zero_right] at hg
   subst hg
   exact ⟨_,rfl,k⟩
theorem a5I (T:Txt K mg) (d:Df K mg "is_whole" V9 ["thing"]):Fn P w K mg base "is_whole" 1 ["thing"] a3H:=by
 have sc:=a5t
 refine j4 d sc (fun ds M R Y h=>?_) (fun f cdv A outer s H E ds M R Y hr h=>?_)
 ·obtain ⟨n,rfl,_⟩:=h; rfl
 ·obtain ⟨n,rfl,k⟩:=h
  refine ⟨_,(d5 (d8 (a8n (y8 (b58 T.sub) rfl T.b_isinstance U5 (a7 (a8 0) (a7 (b5U rfl T.b_int b8h) a9))) (a4q (b4s (y8 (b58 T.sub) rfl T.b_isinstance U5 (a7 (a8 0) (a7 (b5U rfl T.b_bool b4X) a9)))))))),?_⟩
  refine ⟨_,rfl,_,_,_,_,rfl,rfl,rfl,_,rfl,?_⟩
  refine c0E ?_
  exact ⟨_,rfl,_,_,_,_,rfl,rfl,rfl,_,rfl,k⟩
theorem b07 (T:Txt K mg) (d:Df K mg "ratio" a3T ["top", "bottom"]) (G_is_whole:Fn P w K mg base "is_whole" 1 ["thing"] a3H) (G_divisor:Fn P w K mg base "divisor" 1 ["one", "other"] R7):Fn P w K mg base "ratio" 2 ["top", "bottom"] T9:=by
 have sc:=b0C
 refine j4 d sc (fun ds M R Y h=>?_) (fun f cdv A outer s H E ds M R Y hr h=>?_)
 ·obtain ⟨p,b,rfl,_⟩:=h; rfl
 ·obtain ⟨a,b,rfl,hb,hl,k⟩:=h
  refine ⟨_,(d4 (h9 (a0K (a8o (b1n (N4 (jc G_is_whole hr (a7 (a8 0) a9)))) (a8o (b1n (N4 (jc G_is_whole hr (a7 (a8 1) a9)))) (a68 (jtm a0I (a8 1) d3))))) (d5 a9g) g6) (d4 (jst 2 sc.nd (jc G_divisor hr (a7 (y8 a56 rfl T.b_abs a2a (a7 (a8 0) a9)) (a7 (y8 a56 rfl T.b_abs a2a (a7 (a8 1) a9)) a9)))) (d4 (h9 (jtm a2E (a8 1) d3) (d5 (jst 2 sc.nd (y3 (a8 2)))) g6) (d5 (d8 (e8 (a7 (f8 E4 (a8 0) (a8 2)) (a7 (f8 E4 (a8 1) (a8 2)) a9)))))))),?_⟩
  refine ⟨_,rfl,_,rfl,true,rfl,?_⟩
  refine b9x ?_
  refine ⟨_,rfl,_,rfl,true,rfl,?_⟩
  refine b9x ?_
  refine ⟨_,rfl,_,rfl,_,rfl,?_⟩
  refine a9h (fun h=>absurd h hb) (fun _=>?_)
  refine ⟨_,rfl,_,rfl,_,rfl,_,rfl,a.natAbs,b.natAbs,rfl,?_⟩
  have hn:=b7v (a:=a) hb
  have hlg:=b4A (a:=a) hb hl
  refine ⟨_,rfl,_,rfl,_,rfl,?_⟩
  refine a9h (fun h1=>?_) (fun h1=>?_)
  ·have c1:∀ i:Int,CFd i (-((Nat.gcd a.natAbs b.natAbs:Nat):Int)):=fun i=>⟨by omega,by rw [Int.natAbs_neg]; exact hlg⟩
   refine ⟨_,rfl,_,rfl,_,rfl,_,rfl,_,_,rfl,rfl,c1 _,_,rfl,_,rfl,_,_,rfl,rfl,c1 _,sl 2,?_⟩
   exact a8i hb (by rw [if_pos h1]) k
  ·have c1:∀ i:Int,CFd i ((Nat.gcd a.natAbs b.natAbs:Nat):Int):=fun i=>⟨hn,hlg⟩
   refine ⟨_,rfl,_,rfl,_,_,rfl,rfl,c1 _,_,rfl,_,rfl,_,_,rfl,rfl,c1 _,sl 2,?_⟩
   exact a8i hb (by rw [if_neg h1]) k
theorem b4h (T:Txt K mg) (d:Df K mg "over" a6G ["one", "other"]) (G_ratio:Fn P w K mg base "ratio" 2 ["top", "bottom"] T9):Fn P w K mg base "over" 3 ["one", "other"] a0e:=by
 have sc:=b3A
 refine j4 d sc (fun ds M R Y h=>?_) (fun f cdv A outer s H E ds M R Y hr h=>?_)
 ·obtain ⟨q,r,rfl,_⟩:=h; rfl
 ·obtain ⟨q,r,rfl,h0,hz,k⟩:=h
  refine ⟨_,(d5 (d8 (jc G_ratio hr (a7 (f8 o6 (jx (a8 0) d3) (jx (a8 1) d3)) (a7 (f8 o6 (jx (a8 0) d3) (jx (a8 1) d3)) a9))))),?_⟩
  refine ⟨_,rfl,_,rfl,_,rfl,_,rfl,_,_,rfl,rfl,mND hz,_,rfl,_,rfl,_,rfl,_,rfl,_,_,rfl,rfl,mDN hz,_,_,rfl,Int.mul_ne_zero (RM.C9 q) (b7e h0),lDN hz,?_⟩
  rw [RM.b1J] at k
  exact k
theorem a4e (T:Txt K mg) (d:Df K mg "tops_over" P5 ["ratios", "bottom"]):Fn P w K mg base "tops_over" 1 ["ratios", "bottom"] b0H:=by
 have sc:=a3I
 refine j4 d sc (by walk_at "len") (fun f cdv A outer s H E ds M R Y hr h=>?_)
 have hu:=hr.units
 obtain ⟨x,b,rfl,qs,hx,⟨hl,hb,b0,hq⟩,k⟩:=h
 have hb':b<2 ^ 8501:=Nat.lt_of_le_of_lt hb (Nat.pow_lt_pow_right (by decide) (by decide))
 have key:∀ s∈qs,IntMulOk s.num ((b:Int).fdiv (s.den:Int))∧CFd (b:Int) (s.den:Int):=fun s hs=>by
  obtain ⟨_,hs⟩:=hq s hs
  have e1:((b:Int).fdiv (s.den:Int))=((b / s.den:Nat):Int):=by
   rw [I0 (by omega) (by omega)]; norm_cast
  refine ⟨?_,?_⟩
  ·rw [e1]
   exact A2 8900 8501 (u8 s hs) (by rw [Int.natAbs_natCast]; exact Nat.lt_of_le_of_lt (Nat.div_le_self _ _) hb') (by decide)
  ·exact ⟨by have:=s.den_pos; omega,by rw [Int.natAbs_natCast]; exact Nat.lt_of_lt_of_le (F8 (u0 s hs) (by decide)) (by decide)⟩
 rcases hx with rfl | rfl
 all_goals
  refine ⟨_,(d5 (d8 (G3 [1] ["one"] ["bottom"] rfl (by decide +kernel) rfl (by decide +kernel) (by decide +kernel) rfl (a6c ⟨rfl,rfl⟩) (a6c (Or.inl rfl)) (y7 (a8 0)) (fun _ _ _ _ _ _=>(jn 0 (show (["one", "bottom"]:List Str).Nodup by decide +kernel))) (fun _ _ _ _ _ _=>w6) (fun _ _ _ _ _ _=>(f8 o6 (jx (a8 0) d3) (f8 E4 (a8 1) (jx (a8 0) d3))))))),?_⟩
  walk_at "sim"
  refine A4 (xs:=qs) (enc:=d7) (fun s=>D.int (s.num*(b:Int).fdiv (s.den:Int))) hl (by simp only [A1,m5]) (fun s hs Q hQ=>?_) k
  obtain ⟨k1,k2⟩:=key s hs
  walk_at "sim"
  exact ⟨k2,k1,hQ⟩
theorem a0o (T:Txt K mg) (d:Df K mg "common_bottom" E3 ["ratios"]) (G_divisor:Fn P w K mg base "divisor" 1 ["one", "other"] R7):Fn P w K mg base "common_bottom" 2 ["ratios"] b0J:=by
 have sc:=a0j
 refine j4 d sc (by walk_at "len") (fun f cdv A outer s H E ds M R Y hr h=>?_)
 have hu:=hr.units
 obtain ⟨x,rfl,qs,hx,hz,k⟩:=h
 have key:∀ (i:Nat) (b:Nat) (q:Rat),qs[i]? = some q→0<b→b≤2 ^ (szs (qs.take i))→(∀ r∈qs.take i,r.den ∣ b)→CFd (b:Int) ((Nat.gcd b q.den:Nat):Int)∧IntMulOk ((b:Int).fdiv ((Nat.gcd b q.den:Nat):Int)) (q.den:Int)∧((b:Int).fdiv ((Nat.gcd b q.den:Nat):Int))*(q.den:Int)=((b / Nat.gcd b q.den*q.den:Nat):Int)∧0<b / Nat.gcd b q.den*q.den∧b / Nat.gcd b q.den*q.den≤2 ^ (szs (qs.take (i+1)))∧(∀ r∈qs.take (i+1),r.den ∣ b / Nat.gcd b q.den*q.den)∧(b ∣ ((qs.take i).map fun q:Rat=>q.den).prod→b / Nat.gcd b q.den*q.den ∣ ((qs.take (i+1)).map fun q:Rat=>q.den).prod):=fun i b q hq b0 bl hd=>by
  have q0:=q.den_pos
  have ql:=u0 q (Nat.le_refl _)
  have zt:=b0w hq
  have zl:=b6t qs i
  have zm:=a0Z (List.mem_of_getElem? hq)
  have g0:=Nat.gcd_pos_of_pos_right b q0
  have gl:Nat.gcd b q.den<2 ^ sz q:=Nat.lt_of_le_of_lt (Nat.gcd_le_right b q0) ql
  obtain ⟨c,hc⟩:=Nat.gcd_dvd_left b q.den
  have ec:b / Nat.gcd b q.den=c:=by
   conv=>lhs; lhs; rw [hc]
   exact Nat.mul_div_cancel_left c g0
  have e1:((b:Int).fdiv ((Nat.gcd b q.den:Nat):Int))=(c:Int):=by
   rw [I0 (by omega) (by omega),← ec]; norm_cast
  have cb:c≤b:=by rw [← ec]; exact Nat.div_le_self _ _
  have c0:0<c:=Nat.pos_of_ne_zero fun z=>by rw [z,Nat.mul_zero] at hc; omega
  rw [e1,ec]
  have bl3:b<2 ^ (szs (qs.take i)+1):=by rw [Nat.pow_succ]; have:=Nat.two_pow_pos (szs (qs.take i)); omega
  refine ⟨⟨by omega,by rw [Int.natAbs_natCast]; exact Nat.lt_of_lt_of_le (F8 (p6 gl (show sz q≤8500 by omega)) (by decide)) (by decide)⟩,A2 8501 8500 (by rw [Int.natAbs_natCast]; exact p6 (Nat.lt_of_le_of_lt cb bl3) (by omega)) (by rw [Int.natAbs_natCast]; exact p6 ql (by omega)) (by decide),by rw [Int.natCast_mul],Nat.mul_pos c0 q0,?_,fun r hr=>?_,fun hp=>?_⟩
  ·rw [zt,Nat.pow_add]
   exact Nat.mul_le_mul (Nat.le_trans cb bl) (Nat.le_of_lt ql)
  ·rw [List.take_add_one,hq] at hr
   rcases List.mem_append.mp hr with hr | hr
   ·obtain ⟨e,he⟩:=hd r hr
    obtain ⟨f',hf⟩:=Nat.gcd_dvd_right b q.den
    refine Nat.dvd_trans (hd r hr) ?_
    rw [hf]
    refine ⟨f',?_⟩
    conv=>rhs; lhs; rw [hc]
    rw [Nat.mul_comm _ c,Nat.mul_assoc]
   ·rw [List.mem_singleton.mp hr]; exact Nat.dvd_mul_left _ _
  ·rw [List.take_add_one,hq,List.map_append,List.prod_append]
   show c*q.den ∣ _*(q.den*1)
   rw [Nat.mul_one]
   exact Nat.mul_dvd_mul (Nat.dvd_trans ⟨Nat.gcd b q.den,by rw [Nat.mul_comm]; exact hc⟩ hp) (Nat.dvd_refl _)
 rcases hx with rfl | rfl
 all_goals
  refine ⟨_,(d4 (jst 1 sc.nd d3) (d4 (v9 PassesOwn.never rfl (y7 (a8 0)) (jn 2 sc.nd) (d5 (jst 1 sc.nd (f8 o6 (f8 E4 (a8 1) (jc G_divisor hr (a7 (a8 1) (a7 (jx (a8 2) d3) a9)))) (jx (a8 2) d3))))) (d5 (d8 (a8 1))))),?_⟩
  walk_at "sim"
  refine X6.by (fun i e M'=>M'=M∧∃ (b:Nat) (z:Option D),e=[some _,some (.int (b:Int)),z]∧0<b∧b≤2 ^ (szs (qs.take i))∧(∀ r∈qs.take i,r.den ∣ b)∧b ∣ ((qs.take i).map fun q:Rat=>q.den).prod) ⟨rfl,1,_,rfl,by decide,by show 1≤2 ^ 0; decide,fun r hr=>(by cases hr),Nat.dvd_refl _⟩ (fun _ _ _ _ _=>by simp only [A1,m5]) ?_ ?_
  ·rintro i dd e M' hd ⟨rfl,b,z,rfl,b0,bl,hdv,hdp⟩
   rw [List.getElem?_map] at hd
   obtain ⟨q,hq,rfl⟩:=Option.map_eq_some_iff.mp hd
   obtain ⟨k1,k2,k3,k4,k5,k6,k7⟩:=key i b q hq b0 bl hdv
   walk_at "sim"
   exact ⟨k1,k2,_,some (d7 q),by rw [k3],k4,k5,k6,k7 hdp⟩
  ·rintro e M' ⟨rfl,b,z,rfl,b0,bl,hdv,hdp⟩
   rw [List.length_map,List.take_length] at *
   walk_at "sim"
   exact k b b0 bl hdv hdp
theorem b06 (T:Txt K mg) (d:Df K mg "swing" a3S ["t", "x", "later"]) (G_tops_over:Fn P w K mg base "tops_over" 1 ["ratios", "bottom"] b0H) (G_common_bottom:Fn P w K mg base "common_bottom" 2 ["ratios"] b0J):Fn P w K mg base "swing" 3 ["t", "x", "later"] a01:=by
 have sc:=b0B
 refine j4 d sc (by walk_at "len") (fun f cdv A outer s H E ds M R Y hr h=>?_)
 have hu:=hr.units
 obtain ⟨t,x,f',rfl,⟨ht,hz⟩,k⟩:=h
 have es:szs [x,f']=sz x+sz f':=by unfold szs; simp only [List.map_cons,List.map_nil,List.sum_cons,List.sum_nil]; omega
 have xn:=Q6 x
 have xd:=X0 x
 have fn:=Q6 f'
 have fd:=X0 f'
 rw [Int.natAbs_natCast] at xd fd
 refine ⟨_,(d4 (jst 3 sc.nd (jc G_common_bottom hr (a7 (e8 (a7 (a8 1) (a7 (a8 2) a9))) a9))) (d4 (q9 (jc G_tops_over hr (a7 (e8 (a7 (a8 1) (a7 (a8 2) a9))) (a7 (a8 3) a9))) (a1Y (n:=2) rfl (d6 (jn 4 sc.nd) (d6 (jn 5 sc.nd) i4)))) (d5 (d8 (e8 (a7 (f8 a1S (f8 o6 (jx (a8 0) d3) (f8 E5 (f8 o6 (a8 4) (a8 4)) (f8 o6 (a8 5) (a8 5)))) (f8 o6 (f8 o6 (jx (a8 0) d3) (a8 4)) (a8 5))) (a7 (f8 o6 (a8 3) (a8 3)) a9))))))),?_⟩
 walk_at "sim"
 refine ⟨[x,f'],.inl rfl,by omega,fun B B0 Bl hB _=>⟨[x,f'],.inl rfl,⟨by show 2≤1000; decide,Nat.le_trans Bl (Nat.pow_le_pow_right (by decide) (by omega)),B0,fun q hq=>⟨hB q hq,?_⟩⟩,?_⟩⟩
 ·have:=a0Z hq; omega
 have cl1:B<2 ^ 4201:=Nat.lt_of_le_of_lt Bl (Nat.pow_lt_pow_right (by decide) (by omega))
 obtain ⟨o1,o2⟩:=D3 (hB x (by simp))
 obtain ⟨p1,p2⟩:=D3 (hB f' (by simp))
 have o3:(x.num*(B:Int).fdiv (x.den:Int)).natAbs<2 ^ 8401:=by
  refine Nat.lt_of_le_of_lt o2 (Nat.lt_of_lt_of_le (m6 xn cl1) (Nat.pow_le_pow_right (by decide) (by omega)))
 have p3:(f'.num*(B:Int).fdiv (f'.den:Int)).natAbs<2 ^ 8401:=by
  refine Nat.lt_of_le_of_lt p2 (Nat.lt_of_lt_of_le (m6 fn cl1) (Nat.pow_le_pow_right (by decide) (by omega)))
 walk_at "sim"
 generalize x.num*(B:Int).fdiv (x.den:Int)=O at *
 generalize f'.num*(B:Int).fdiv (f'.den:Int)=P at *
 have td:=u0 t ht
 have tn:=u8 t ht
 have td':(t.den:Int).natAbs<2 ^ 231:=by rw [Int.natAbs_natCast]; exact td
 have B':(B:Int).natAbs<2 ^ 4201:=by rw [Int.natAbs_natCast]; exact cl1
 have oo:=e7 o3 o3
 have pp:=e7 p3 p3
 have op:=b2o oo pp
 have tdo:=e7 td' op
 have tno:=e7 tn o3
 have tnop:=e7 tno p3
 refine ⟨A2 _ _ o3 o3 (by decide),A2 _ _ p3 p3 (by decide),A2 _ _ td' op (by decide),A2 _ _ tn o3 (by decide),A2 _ _ tno p3 (by decide),A2 _ _ B' B' (by decide),?_⟩
 refine k _ _ ?_ ?_ ?_ ?_
 ·have:(0:Int)<(B:Int):=by omega
  exact Int.mul_pos this this
 ·exact p6 (e7 B' B') (by decide)
 ·exact p6 (Y3 (p6 tdo (show _≤17034 by decide)) (p6 tnop (by decide))) (by decide)
 ·have e:=v7 t
  rw [Rat.intCast_sub,Rat.intCast_mul,Rat.intCast_add,Rat.intCast_mul,Rat.intCast_mul,Rat.intCast_mul,Rat.intCast_mul,Rat.intCast_mul,Rat.intCast_natCast,Rat.intCast_natCast,o1,p1,← e]
  grind
theorem a5F (T:Txt K mg) (d:Df K mg "reach_by" V6 ["t", "x", "later"]) (G_swing:Fn P w K mg base "swing" 3 ["t", "x", "later"] a01):Fn P w K mg base "reach_by" 4 ["t", "x", "later"] a76:=by
 have sc:=a5q
 refine j4 d sc (by walk_at "len") (fun f cdv A outer s H E ds M R Y hr h=>?_)
 have hu:=hr.units
 obtain ⟨t,x,f',rfl,⟨ht,t1,t2,hz⟩,k⟩:=h
 have td:=u0 t ht
 have tn:=u8 t ht
 have td':(t.den:Int).natAbs<2 ^ 231:=by rw [Int.natAbs_natCast]; exact td
 have e:=v7 t
 have d0:(0:Rat)<(t.den:Rat):=by
  have:=t.den_pos
  exact_mod_cast this
 have h4:=b5M t1 t2
 refine ⟨_,(d4 (q9 (jc G_swing hr (a7 (a8 0) (a7 (a8 1) (a7 (a8 2) a9)))) (m7 (n:=2) rfl (d6 (jn 3 sc.nd) (d6 (jn 4 sc.nd) i4)))) (d5 (d8 (e8 (a7 (f8 o6 (f8 o6 d3 (a8 3)) (jx (a8 0) d3)) (a7 (f8 o6 (a8 4) (f8 a1S (f8 o6 (f8 o6 d3 (jx (a8 0) d3)) (jx (a8 0) d3)) (f8 o6 (jx (a8 0) d3) (jx (a8 0) d3)))) a9)))))),?_⟩
 walk_at "sim"
 refine ⟨⟨ht,hz⟩,fun T B b0 bB bT eT=>?_⟩
 have t4d:(4*(t.den:Int)).natAbs<2 ^ (3+231):=e7 (show (4:Int).natAbs<2 ^ 3 by decide) td'
 have tdd:=e7 t4d td'
 have tnn:=e7 tn tn
 have bd:=Y3 tdd (p6 tnn (by decide))
 have rat:(((4*(t.den:Int)*(t.den:Int) - t.num*t.num:Int)):Rat)=(4 - t*t)*((t.den:Rat)*(t.den:Rat)):=by
  rw [Rat.intCast_sub,Rat.intCast_mul,Rat.intCast_mul,Rat.intCast_mul,Rat.intCast_natCast,← e]
  rw [show (((4:Int)):Rat)=4 from rfl]
  grind
 have pos:0<4*(t.den:Int)*(t.den:Int) - t.num*t.num:=by
  have:(0:Rat)<((4*(t.den:Int)*(t.den:Int) - t.num*t.num:Int):Rat):=by
   rw [rat]; exact Rat.mul_pos h4 (Rat.mul_pos d0 d0)
  exact_mod_cast this
 have t4:=e7 (show (4:Int).natAbs<2 ^ 3 by decide) bT
 have t4t:=e7 t4 td'
 refine ⟨a5O (by decide) (by decide),A2 _ _ t4 td' (by decide),a5O (by decide) (by decide),A2 _ _ t4d td' (by decide),A2 _ _ tn tn (by decide),A2 _ _ bB bd (by decide),?_⟩
 refine k _ _ (Int.mul_pos b0 pos) (p6 (e7 bB bd) (by decide)) (p6 t4t (by decide)) ?_
 have b0':(0:Rat)<(B:Rat):=by exact_mod_cast b0
 rw [Rat.divInt_eq_div,Rat.intCast_mul,Rat.intCast_mul,Rat.intCast_mul,rat,eT,Rat.intCast_natCast]
 unfold a2s
 rw [show (((4:Int)):Rat)=4 from rfl]
 exact b3H (fun z=>by rw [z] at d0; exact absurd d0 (by decide)) (fun z=>by rw [z] at b0'; exact absurd b0' (by decide)) (fun z=>by rw [z] at h4; exact absurd h4 (by decide))
theorem b4g (T:Txt K mg) (d:Df K mg "plus" a6F ["one", "other"]) (G_ratio:Fn P w K mg base "ratio" 2 ["top", "bottom"] T9):Fn P w K mg base "plus" 3 ["one", "other"] P4:=by
 have sc:=b3z
 refine j4 d sc (fun ds M R Y h=>?_) (fun f cdv A outer s H E ds M R Y hr h=>?_)
 ·obtain ⟨q,r,rfl,_⟩:=h; rfl
 ·obtain ⟨q,r,rfl,hz,k⟩:=h
  refine ⟨_,(d5 (d8 (jc G_ratio hr (a7 (f8 E5 (f8 o6 (jx (a8 0) d3) (jx (a8 1) d3)) (f8 o6 (jx (a8 1) d3) (jx (a8 0) d3))) (a7 (f8 o6 (jx (a8 0) d3) (jx (a8 1) d3)) a9))))),?_⟩
  refine ⟨_,rfl,_,rfl,_,rfl,_,rfl,_,_,rfl,rfl,mND hz,_,rfl,_,rfl,_,rfl,_,rfl,_,_,rfl,rfl,mND (by omega),_,rfl,_,rfl,_,rfl,_,rfl,_,rfl,_,_,rfl,rfl,mDD hz,_,_,rfl,Int.mul_ne_zero (RM.C9 q) (RM.C9 r),lDD hz,?_⟩
  rw [RM.b2n] at k
  exact k
theorem b4e (T:Txt K mg) (d:Df K mg "t_of" a6D ["table"]) (G_plus:Fn P w K mg base "plus" 3 ["one", "other"] P4):Fn P w K mg base "t_of" 4 ["table"] a3X:=by
 have sc:=b3x
 refine j4 d sc (by walk_at "len") (fun f cdv A outer s H E ds M R Y hr h=>?_)
 have hu:=hr.units
 obtain ⟨x,rfl,⟨a,b,c,d⟩,hx,cd,k⟩:=h
 have hx':x=a0S a b c d:=hx
 subst hx'
 have t4:=CD.t4 cd
 have h1:sz a≤230:=t4.a
 have h4:sz d≤230:=t4.d
 refine ⟨_,(d5 (d8 (jc G_plus hr (a7 (jx (a8 0) d3) (a7 (jx (a8 0) d3) a9))))),?_⟩
 walk_at "sim"
 exact ⟨by omega,k⟩
theorem a5G (T:Txt K mg) (d:Df K mg "opposite" V7 ["one"]):Fn P w K mg base "opposite" 1 ["one"] a3j:=by
 have sc:=a5r
 refine j4 d sc (fun ds M R Y h=>?_) (fun f cdv A outer s H E ds M R Y hr h=>?_)
 ·obtain ⟨q,rfl,_⟩:=h; rfl
 ·obtain ⟨q,rfl,k⟩:=h
  refine ⟨_,(d5 (d8 (e8 (a7 (y3 (jx (a8 0) d3)) (a7 (jx (a8 0) d3) a9))))),?_⟩
  refine ⟨_,rfl,_,rfl,_,rfl,_,rfl,_,rfl,sl 2,?_⟩
  have e:d7 (-q) = .tup [.int (-q.num),.int (q.den:Int)]:=by unfold d7; rw [Rat.neg_num,Rat.neg_den]
  rw [e] at k
  exact k
theorem Y9 (T:Txt K mg) (d:Df K mg "rounds_to_self" C4 ["table"]) (G_opposite:Fn P w K mg base "opposite" 1 ["one"] a3j) (G_t_of:Fn P w K mg base "t_of" 4 ["table"] a3X):Fn P w K mg base "rounds_to_self" 5 ["table"] a85:=by
 have sc:=Y5
 refine j4 d sc (by walk_at "len") (fun f cdv A outer s H E ds M R Y hr h=>?_)
 have hu:=hr.units
 obtain ⟨x,rfl,⟨a,b,c,d⟩,hx,cd,k⟩:=h
 have hx':x=a0S a b c d:=hx
 subst hx'
 refine ⟨_,(d4 (h9 (jtm (U1 hu) (a8 0) (o8 rfl T.c_SELF)) (d5 (d8 d3)) g6) (d4 (h9 (jtm (U1 hu) (a8 0) (a8p b8e rfl T.b_tuple b2h (a7 (G3 [] ["entry"] [] rfl (by decide +kernel) rfl (by decide +kernel) (by decide +kernel) rfl a0d a0d (y7 (o8 rfl T.c_SELF)) (fun _ _ _ _ _ _=>(jn 0 (show (["entry"]:List Str).Nodup by decide +kernel))) (fun _ _ _ _ _ _=>w6) (fun _ _ _ _ _ _=>(jc G_opposite hr (a7 (a8 0) a9)))) a9))) (d5 (d8 d3)) g6) (d4 (jst 1 sc.nd (jc G_t_of hr (a7 (a8 0) a9))) (d4 (h9 (jtm (U1 hu) (a8 1) (jc G_opposite hr (a7 (o8 rfl T.c_ONE) a9))) (d5 (d8 d3)) g6) (d4 (h9 (jtm (U1 hu) (a8 1) (o8 rfl T.c_NOUGHT)) (d5 (d8 d3)) g6) (d5 (d8 (Z2 (jtm (U1 hu) (a8 1) (o8 rfl T.c_ONE)) d3 K1)))))))),?_⟩
 walk_at "sim"
 refine ⟨fun e=>?_,fun e=>?_⟩
 ·have e:=a5g (m:=(a,b,c,d)) (k:=(1,0,0,1)) (@of_decide_eq_true _ (Classical.propDecidable _) e)
  unfold Y7 at k
  rw [if_pos e] at k
  exact k
 ·have e1:¬ (a,b,c,d)=((1,0,0,1):Q4):=fun z=>@of_decide_eq_false _ (Classical.propDecidable _) e (congrArg A0 z)
  refine A4 (xs:=[1,0,0,1]) (enc:=d7) (fun q=>d7 (-q)) (by show 4≤1000; decide) (by simp only [A1]) (fun q hq Q hQ=>?_) ?_
  ·walk_at "sim"
   exact hQ
  ·walk_at "sim"
   unfold Y7 at k
   rw [if_neg e1] at k
   refine ⟨fun e=>?_,fun e=>⟨(a,b,c,d),rfl,cd,fun e3=>?_,fun e3=>⟨fun e4=>?_,fun e4=>⟨fun e5=>?_,fun e5=>?_⟩⟩⟩⟩
   ·have e:=a5g (m:=(a,b,c,d)) (k:=(-1,0,0,-1)) e
    rw [if_pos e] at k
    exact k
   ·have e2:¬ (a,b,c,d)=((-1,0,0,-1):Q4):=fun z=>e (congrArg A0 z)
    rw [if_neg e2,if_pos e3] at k
    exact k
   ·have e2:¬ (a,b,c,d)=((-1,0,0,-1):Q4):=fun z=>e (congrArg A0 z)
    rw [if_neg e2,if_neg e3,if_pos e4] at k
    exact k
   ·have e2:¬ (a,b,c,d)=((-1,0,0,-1):Q4):=fun z=>e (congrArg A0 z)
    rw [if_neg e2,if_neg e3,if_neg e4,if_pos e5] at k
    exact k
   ·have e2:¬ (a,b,c,d)=((-1,0,0,-1):Q4):=fun z=>e (congrArg A0 z)
    rw [if_neg e2,if_neg e3,if_neg e4,if_neg e5] at k
    exact k
theorem a5D (T:Txt K mg) (d:Df K mg "shown_by" V4 ["word", "table", "x", "later"]) (G_over:Fn P w K mg base "over" 3 ["one", "other"] a0e) (G_ratio:Fn P w K mg base "ratio" 2 ["top", "bottom"] T9) (G_reach_by:Fn P w K mg base "reach_by" 4 ["t", "x", "later"] a76) (G_t_of:Fn P w K mg base "t_of" 4 ["table"] a3X) (G_rounds_to_self:Fn P w K mg base "rounds_to_self" 5 ["table"] a85):Fn P w K mg base "shown_by" 6 ["word", "table", "x", "later"] a1G:=by
 have sc:=a5o
 refine j4 d sc (by walk_at "len") (fun f cdv A outer s H E ds M R Y hr h=>?_)
 have hu:=hr.units
 obtain ⟨w',x,a,f',rfl,m,r,rfl,rfl,⟨cd,hd,hl,hx⟩,k⟩:=h
 have zt:sz (trQ m)≤231:=CD.tr cd
 have xf:sz a+sz f'≤4200:=hl.xf
 have body:¬ (a=0∧f'=0)→(kwS m=Str.ofString "same" → ∃ m_1,A0 m=A0 m_1∧CDQ 230 m_1∧R (D.tup [D.str (Str.ofString "round"),Y7 m_1]) M)∧(¬ kwS m=Str.ofString "same" → (kwS m=Str.ofString "turns" → ∃ m_1,A0 m=A0 m_1∧CDQ 230 m_1∧(sz (trQ m_1)≤231∧-2<trQ m_1∧trQ m_1<2∧sz a+sz f'≤4200)∧∀ (T B:Int),0<B→B.natAbs<2 ^ 8870→T.natAbs<2 ^ 17400→Rat.divInt T B=a2s (trQ m_1) a f'→B≠0∧B.natAbs.log2<9000∧R (D.tup [D.str (Str.ofString "reach"),d7 (Rat.divInt T B)]) M)∧(¬ kwS m=Str.ofString "turns" → a≠0∧sz f'+sz a≤8900∧R (D.tup [D.str (Str.ofString "kept"),d7 (f' / a)]) M)):=fun h0=>by
  unfold C0 at k
  rw [if_neg (show ¬ ((a,f',r).1=0∧(a,f',r).2.1=0) from h0)] at k
  rcases K5 m with ⟨c1,e⟩ | ⟨c1,c2,e⟩ | ⟨c1,c2,c3,e⟩ | ⟨c1,c2,c3,e⟩
  ·rw [if_pos c1] at k
   refine ⟨fun _=>⟨m,rfl,cd,?_⟩,fun h=>absurd e h⟩
   rw [a37 m c1]; exact k
  ·have c3:¬ f7 (trQ m)<2:=by rw [c2]; decide
   rw [if_neg c1,if_neg c3] at k
   rw [e]
   refine ⟨fun h=>absurd h (by decide),fun _=>⟨fun h=>absurd h (by decide),fun _=>⟨fun z=>h0 ⟨z,hx c1 c3 z⟩,by omega,k⟩⟩⟩
  ·rw [if_neg c1,if_pos c3] at k
   rw [e]
   obtain ⟨t1,t2⟩:=a4E.mp c3
   refine ⟨fun h=>absurd h (by decide),fun _=>⟨fun _=>⟨m,rfl,cd,⟨zt,t1,t2,xf⟩,fun T B b0 bB bT eT=>⟨by omega,Nat.lt_of_lt_of_le (F8 bB (by decide)) (by decide),?_⟩⟩,fun h=>absurd rfl h⟩⟩
   rw [eT]; exact k
  ·rw [if_neg c1,if_neg c3] at k
   rw [e]
   refine ⟨fun h=>absurd h (by decide),fun _=>⟨fun h=>absurd h (by decide),fun _=>⟨fun z=>h0 ⟨z,hx c1 c3 z⟩,by omega,k⟩⟩⟩
 refine ⟨_,(d4 (h9 (a0K (a1Z (jtm (U1 hu) (a8 2) (o8 rfl T.c_NOUGHT)) (Z4 (jtm (U1 hu) (a8 3) (o8 rfl T.c_NOUGHT))))) (d5 (d8 (e8 (a7 i9 a9)))) g6) (d4 (h9 (jtm B5 (a8 0) i9) (d5 (d8 (e8 (a7 i9 (a7 (jc G_rounds_to_self hr (a7 (a8 1) a9)) a9))))) g6) (d4 (h9 (jtm B5 (a8 0) i9) (d4 (q9 (jc G_reach_by hr (a7 (jc G_t_of hr (a7 (a8 1) a9)) (a7 (a8 2) (a7 (a8 3) a9)))) (m7 (n:=2) rfl (d6 (jn 4 sc.nd) (d6 (jn 5 sc.nd) i4)))) (d5 (d8 (e8 (a7 i9 (a7 (jc G_ratio hr (a7 (a8 4) (a7 (a8 5) a9))) a9)))))) g6) (d5 (d8 (e8 (a7 i9 (a7 (jc G_over hr (a7 (a8 3) (a7 (a8 2) a9))) a9)))))))),?_⟩
 walk_at "sim"
 refine ⟨fun h1=>⟨fun h2=>?_,fun h2=>body fun z=>h2 z.2⟩,fun h1=>body fun z=>h1 z.1⟩
 unfold C0 at k
 rw [if_pos (show (a,f',r).1=0∧(a,f',r).2.1=0 from ⟨h1,h2⟩)] at k
 exact k
theorem b4i (T:Txt K mg) (d:Df K mg "less" a3V ["one", "other"]):Fn P w K mg base "less" 1 ["one", "other"] a0f:=by
 have sc:=a75
 refine j4 d sc (fun ds M R Y h=>?_) (fun f cdv A outer s H E ds M R Y hr h=>?_)
 ·obtain ⟨q,r,rfl,_⟩:=h; rfl
 ·obtain ⟨q,r,rfl,hz,k⟩:=h
  refine ⟨_,(d5 (d8 (jm a2E (f8 o6 (jx (a8 0) d3) (jx (a8 1) d3)) (f8 o6 (jx (a8 1) d3) (jx (a8 0) d3))))),?_⟩
  refine ⟨_,rfl,_,rfl,_,rfl,_,rfl,_,_,rfl,rfl,mND hz,_,rfl,_,rfl,_,rfl,_,rfl,_,_,rfl,rfl,mND (by omega),_,rfl,?_⟩
  rw [← RM.b9v] at k
  exact k
theorem a5B (T:Txt K mg) (d:Df K mg "unsigned" V2 ["one"]):Fn P w K mg base "unsigned" 1 ["one"] a5j:=by
 have sc:=a5m
 refine j4 d sc (by walk_at "len") (fun f cdv A outer s H E ds M R Y hr h=>?_)
 have hu:=hr.units
 obtain ⟨q,rfl,k⟩:=h
 refine ⟨_,(d5 (d8 (e8 (a7 (y8 a56 rfl T.b_abs a2a (a7 (jx (a8 0) d3) a9)) (a7 (jx (a8 0) d3) a9))))),?_⟩
 walk_at "sim"
 exact k
theorem a4i (T:Txt K mg) (d:Df K mg "kind_word" P9 ["table"]) (G_less:Fn P w K mg base "less" 1 ["one", "other"] a0f) (G_unsigned:Fn P w K mg base "unsigned" 1 ["one"] a5j) (G_t_of:Fn P w K mg base "t_of" 4 ["table"] a3X) (G_rounds_to_self:Fn P w K mg base "rounds_to_self" 5 ["table"] a85):Fn P w K mg base "kind_word" 6 ["table"] sKw:=by
 have sc:=a3M
 refine j4 d sc (by walk_at "len") (fun f cdv A outer s H E ds M R Y hr h=>?_)
 have hu:=hr.units
 obtain ⟨x,rfl,⟨a,b,c,d⟩,hx,cd,k⟩:=h
 have hx':x=a0S a b c d:=hx
 subst hx'
 have ht:sz (trQ (a,b,c,d))≤231:=CD.tr cd
 have hs:=GM.a1y (trQ (a,b,c,d))
 have z2:sz 2≤2:=by decide +kernel
 refine ⟨_,(d4 (h9 (jtm a4n (jc G_rounds_to_self hr (a7 (a8 0) a9)) K1) (d5 (d8 i9)) g6) (d4 (jst 1 sc.nd (jc G_unsigned hr (a7 (jc G_t_of hr (a7 (a8 0) a9)) a9))) (d4 (h9 (jtm (U1 hu) (a8 1) (o8 rfl T.c_TWO)) (d5 (d8 i9)) g6) (d5 (d8 (Z2 (N4 (jc G_less hr (a7 (a8 1) (a7 (o8 rfl T.c_TWO) a9)))) i9 i9)))))),?_⟩
 walk_at "sim"
 refine ⟨(a,b,c,d),rfl,cd,?_⟩
 unfold kwS at k
 by_cases h1:u7 (a,b,c,d)
 ·rw [if_pos h1] at k
  obtain ⟨n,e⟩:=b3E h1
  rw [e,a5a rfl]
  walk_at "sim"
  exact k
 ·rw [if_neg h1] at k
  rw [b3D h1,a5a rfl]
  walk_at "sim"
  refine ⟨(a,b,c,d),rfl,cd,fun e=>?_,fun e=>⟨by omega,fun e2=>?_,fun e2=>?_⟩⟩
  ·rw [if_pos e] at k; exact k
  ·rw [if_neg e,if_pos e2] at k; exact k
  ·rw [if_neg e,if_neg e2] at k; exact k
theorem a2u (T:Txt K mg) (d:Df K mg "next_state" L6 ["t", "state"]):Fn P w K mg base "next_state" 1 ["t", "state"] a31:=by
 have sc:=a2j
 refine j4 d sc (by walk_at "len") (fun f cdv A outer s H E ds M R Y hr h=>?_)
 have hu:=hr.units
 obtain ⟨t,x,rfl,s,rfl,⟨ht,kk,b1,b2,b3,hk⟩,k⟩:=h
 have td:=u0 t ht
 have tn:=u8 t ht
 have td':(t.den:Int).natAbs<2 ^ 231:=by rw [Int.natAbs_natCast]; exact td
 unfold stD at *
 refine ⟨_,(d4 (q9 (a8 1) (m7 (n:=3) rfl (d6 (jn 2 sc.nd) (d6 (jn 3 sc.nd) (d6 (jn 4 sc.nd) i4))))) (d5 (d8 (e8 (a7 (a8 3) (a7 (f8 a1S (f8 o6 (jx (a8 0) d3) (a8 3)) (f8 o6 (f8 o6 (jx (a8 0) d3) (jx (a8 0) d3)) (a8 2))) (a7 (f8 o6 (a8 4) (jx (a8 0) d3)) a9))))))),?_⟩
 walk_at "sim"
 exact ⟨A2 _ _ tn b2 (by omega),A2 _ _ td' td' (by decide),A2 _ _ (e7 td' td') b1 (by omega),A2 _ _ b3 td' (by omega),k⟩
theorem a1P (T:Txt K mg) (d:Df K mg "first_state" J7 ["t", "x", "later", "r"]) (G_tops_over:Fn P w K mg base "tops_over" 1 ["ratios", "bottom"] b0H) (G_common_bottom:Fn P w K mg base "common_bottom" 2 ["ratios"] b0J):Fn P w K mg base "first_state" 3 ["t", "x", "later", "r"] a1J:=by
 have sc:=a1D
 refine j4 d sc (by walk_at "len") (fun f cdv A outer s H E ds M R Y hr h=>?_)
 have hu:=hr.units
 obtain ⟨t,x,f',r,rfl,⟨ht,hz,zx,zf,zr⟩,k⟩:=h
 have es:szs [x,f',r]=sz x+sz f'+sz r:=by unfold szs; simp only [List.map_cons,List.map_nil,List.sum_cons,List.sum_nil]; omega
 have td:=u0 t ht
 have td':(t.den:Int).natAbs<2 ^ 231:=by rw [Int.natAbs_natCast]; exact td
 refine ⟨_,(d4 (jst 4 sc.nd (e8 (a7 (a8 1) (a7 (a8 2) (a7 (a8 3) a9))))) (d4 (q9 (jc G_tops_over hr (a7 (a8 4) (a7 (jc G_common_bottom hr (a7 (a8 4) a9)) a9))) (a1Y (n:=3) rfl (d6 (jn 5 sc.nd) (d6 (jn 6 sc.nd) (d6 (jn 7 sc.nd) i4))))) (d5 (d8 (e8 (a7 (a8 5) (a7 (f8 o6 (a8 6) (jx (a8 0) d3)) (a7 (a8 7) a9)))))))),?_⟩
 walk_at "sim"
 refine ⟨[x,f',r],.inl rfl,by omega,fun B B0 Bl hB _=>⟨[x,f',r],.inl rfl,⟨by show 3≤1000; decide,Nat.le_trans Bl (Nat.pow_le_pow_right (by decide) (by omega)),B0,fun q hq=>⟨hB q hq,?_⟩⟩,?_⟩⟩
 ·have:=a0Z hq; omega
 have Bb:B<2 ^ 8501:=Nat.lt_of_le_of_lt Bl (Nat.pow_lt_pow_right (by decide) (by omega))
 obtain ⟨o1,o2⟩:=D3 (hB x (by simp))
 obtain ⟨p1,p2⟩:=D3 (hB f' (by simp))
 obtain ⟨q1,q2⟩:=D3 (hB r (by simp))
 have n1:=Nat.lt_of_le_of_lt o2 (m6 (u8 x zx) Bb)
 have n2:=Nat.lt_of_le_of_lt p2 (m6 (u8 f' zf) Bb)
 have n3:=Nat.lt_of_le_of_lt q2 (m6 (u8 r zr) Bb)
 walk_at "sim"
 generalize x.num*(B:Int).fdiv (x.den:Int)=a at *
 generalize f'.num*(B:Int).fdiv (f'.den:Int)=b at *
 generalize r.num*(B:Int).fdiv (r.den:Int)=c at *
 refine ⟨A2 _ _ n2 td' (by decide),?_⟩
 refine k (a,b*(t.den:Int),c) ⟨⟨B,B0,o1,?_,q1⟩,p6 n1 (by decide),p6 (e7 n2 td') (by decide),p6 n3 (by decide)⟩
 show ((b*(t.den:Int):Int):Rat)=f'*((B:Rat)*(t.den:Rat))
 rw [Rat.intCast_mul,p1,Rat.intCast_natCast]; grind
theorem a1M (T:Txt K mg) (d:Df K mg "stop_within" J4 ["t", "numbers", "watched", "rounds"]) (G_next_state:Fn P w K mg base "next_state" 1 ["t", "state"] a31) (G_first_state:Fn P w K mg base "first_state" 3 ["t", "x", "later", "r"] a1J):Fn P w K mg base "stop_within" 4 ["t", "numbers", "watched", "rounds"] a6J:=by
 have sc:=a1A
 refine j4 d sc (by walk_at "len") (fun f cdv A outer s H E ds M R Y hr h=>?_)
 have hu:=hr.units
 obtain ⟨t,x,y,N,rfl,ls,ws,rfl,rfl,⟨ht,⟨hl,hw⟩,hN,hok,hk⟩,k⟩:=h
 have at':∀ j∈ws,∃ l,ls[j]? = some l∧ls.getD j (0,0,0)=l∧X3 l:=fun j hj=>by
  have h1:=List.getElem?_eq_getElem (hk j hj)
  exact ⟨_,h1,by rw [List.getD_eq_getElem?_getD,h1]; rfl,hok _ (List.mem_of_getElem? h1)⟩
 have bA:∀ j∈ws,∀ n,v6 t ls j n=decide (D1 t (ls.getD j (0,0,0)) n):=fun j hj n=>by
  obtain ⟨l,h1,h2,_⟩:=at' j hj
  unfold v6; rw [h1,h2]
 refine ⟨_,(d4 (B3 (i:=4) [0] ["x", "later", "r"] ["t"] sc.nd rfl (Or.inl rfl) rfl (by decide +kernel) rfl (by decide +kernel) (by decide +kernel) rfl (a6c ⟨rfl,rfl⟩) (a6c (Or.inl rfl)) (y7 (G3 [1] ["k"] ["numbers"] rfl (by decide +kernel) rfl (by decide +kernel) (by decide +kernel) rfl (a6c ⟨rfl,rfl⟩) (a6c (Or.inl rfl)) (y7 (a8 2)) (fun _ _ _ _ _ _=>(jn 0 (show (["k", "numbers"]:List Str).Nodup by decide +kernel))) (fun _ _ _ _ _ _=>w6) (fun _ _ _ _ _ _=>(jx (a8 1) (a8 0))))) (fun _ _ _ _ _ _=>(m7 (n:=3) rfl (d6 (jn 0 (show (["x", "later", "r", "t"]:List Str).Nodup by decide +kernel)) (d6 (jn 1 (show (["x", "later", "r", "t"]:List Str).Nodup by decide +kernel)) (d6 (jn 2 (show (["x", "later", "r", "t"]:List Str).Nodup by decide +kernel)) i4))))) (fun _ _ _ _ _ _=>w6) (fun _ _ _ _ _ _=>(jc G_first_state hr (a7 (a8 3) (a7 (a8 0) (a7 (a8 1) (a7 (a8 2) a9))))))) (d4 (v9 PassesOwn.never rfl (S6 rfl T.b_range (a7 (a8 3) a9)) (jn 5 sc.nd) (d4 (v9 PassesOwn.never rfl (a8l rfl T.b_zip (a7 (a8 2) (a7 (a8 4) a9))) (m7 (n:=2) rfl (d6 (jn 6 sc.nd) (d6 (jn 7 sc.nd) i4))) (d5 (h9 (jtm b1a (y8 a56 rfl T.b_abs a2a (a7 (jx (a8 7) d3) a9)) (jx (a8 7) d3)) (d5 (d8 (e8 (a7 (a8 5) (a7 (a8 6) a9))))) g6))) (d5 (B3 (i:=4) [0] ["state"] ["t"] sc.nd rfl (Or.inl rfl) rfl (by decide +kernel) rfl (by decide +kernel) (by decide +kernel) rfl (a6c ⟨rfl,rfl⟩) (a6c (Or.inl rfl)) (y7 (a8 4)) (fun _ _ _ _ _ _=>(jn 0 (show (["state", "t"]:List Str).Nodup by decide +kernel))) (fun _ _ _ _ _ _=>w6) (fun _ _ _ _ _ _=>(jc G_next_state hr (a7 (a8 1) (a7 (a8 0) a9)))))))) (d5 (d8 K1)))),?_⟩
 walk_at "sim"
 refine A4 (xs:=ws) (enc:=fun k:Nat=>D.int (k:Int)) (fun k=>m8 (ls.getD k (0,0,0))) (by omega) (by simp only [m5]) (fun j hj Q hQ=>?_) ?_
 ·obtain ⟨l,h1,h2,_⟩:=at' j hj
  walk_at "sim"
  exact ⟨_,p7 (n:=j) (by rw [List.getElem?_map,h1,h2]; rfl),hQ⟩
 walk_at "sim"
 refine b2c stD (fun i s=>∃ k,ws[i]? = some k∧a4I t (ls.getD k (0,0,0)) 0 s) (by rw [List.length_map]; omega) (by simp only [m5]) (fun i d hd Q hQ=>?_) (fun ss hlen hss=>?_)
 ·rw [List.getElem?_map] at hd
  obtain ⟨j,hj,rfl⟩:=Option.map_eq_some_iff.mp hd
  obtain ⟨l,h1,h2,h3⟩:=at' j (List.mem_of_getElem? hj)
  rw [h2]
  walk_at "sim"
  have:=h3.xf; have:=h3.x; have:=h3.f; have:=h3.r
  exact ⟨⟨ht,by omega,by omega,by omega,by omega⟩,fun s hs=>hQ s ⟨j,hj,by rw [h2]; exact hs⟩⟩
 rw [List.length_map] at hlen
 refine ⟨⟨by omega,by omega⟩,?_⟩
 rw [Int.toNat_natCast]
 refine X6.by (fun i e M'=>M'=M∧∃ (ss:List (Int × Int × Int)) (z5 z6 z7:Option D),e=[some (d7 t),some (.vl (ls.map m8)),some (.vl (ws.map fun k:Nat=>D.int (k:Int))),some (.int (N:Int)),some (.vl (ss.map stD)),z5,z6,z7]∧ss.length=ws.length∧(∀ j s,ss[j]? = some s→∃ k,ws[j]? = some k∧a4I t (ls.getD k (0,0,0)) i s)∧∀ n,n<i→∀ k∈ws,v6 t ls k n=false) ⟨rfl,ss,_,_,_,rfl,hlen,hss,fun n hn=>absurd hn (by omega)⟩ (fun _ _ _ _ _=>trivial) ?_ ?_
 ·rintro i dd e M' hd ⟨rfl,ss,z5,z6,z7,rfl,hlen,hss,hno⟩
  obtain ⟨hi,rfl⟩:=a3m hd
  rw [show (0:Int)+(i:Int)=(i:Int) by omega]
  walk_at "sim"
  refine X6.by (fun j e M''=>M''=M'∧∃ (z6 z7:Option D),e=[some (d7 t),some (.vl (ls.map m8)),some (.vl (ws.map fun k:Nat=>D.int (k:Int))),some (.int (N:Int)),some (.vl (ss.map stD)),some (.int (i:Int)),z6,z7]∧∀ j',j'<j→∀ k',ws[j']? = some k'→v6 t ls k' i=false) ⟨rfl,_,_,rfl,fun j hj=>absurd hj (by omega)⟩ (fun _ _ _ _ _=>by simp only [m5,and_self]) ?_ ?_
  ·rintro j dd e M'' hd2 ⟨rfl,z6,z7,rfl,hn2⟩
   obtain ⟨k',s',rfl,hkj,hsj⟩:∃ (k':Nat) (s':Int × Int × Int),dd = .tup [.int (k':Int),stD s']∧ws[j]? = some k'∧ss[j]? = some s':=by
    unfold U6 at hd2
    rw [List.getElem?_zipWith,List.getElem?_map,List.getElem?_map] at hd2
    cases h1:ws[j]? with
    | none=>rw [h1] at hd2; simp at hd2
    | some a =>
     cases h2:ss[j]? with
     | none=>rw [h1,h2] at hd2; simp at hd2
     | some b=>rw [h1,h2] at hd2; exact ⟨a,b,(Option.some.inj hd2).symm,rfl,rfl⟩
   obtain ⟨k2,hk2,hst⟩:=hss j s' hsj
   obtain rfl:k'=k2:=by rw [hkj] at hk2; exact Option.some.inj hk2
   have hb:=hst.bey
   have hbA:=bA k' (List.mem_of_getElem? hkj) i
   unfold stD
   walk_at "sim"
   refine ⟨fun h1=>?_,fun h1=>⟨_,_,rfl,fun j' hj' k3 hk3=>?_⟩⟩
   ·rw [a6t hi hkj (by rw [hbA]; exact decide_eq_true (hb.mp h1)) hno hn2] at k
    exact k
   ·rcases Nat.lt_or_ge j' j with z | z
    ·exact hn2 j' z k3 hk3
    ·have:j'=j:=by omega
     subst this
     rw [hkj] at hk3
     obtain rfl:=Option.some.inj hk3
     rw [hbA]; exact decide_eq_false fun z=>h1 (hb.mpr z)
  ·rintro e M'' ⟨rfl,z6,z7,rfl,hn2⟩
   have hzl:(U6 (ws.map fun k:Nat=>D.int (k:Int)) (ss.map stD)).length=ws.length:=by rw [O7,List.length_map,List.length_map]; omega
   rw [hzl] at hn2
   walk_at "sim"
   refine A4 (xs:=ss) (enc:=stD) (fun s=>stD (s.2.1,t.num*s.2.1 - (t.den:Int)*(t.den:Int)*s.1,s.2.2*(t.den:Int))) (by omega) (by simp only [m5]) (fun s hs Q hQ=>?_) ?_
   ·obtain ⟨j,hj⟩:=List.getElem?_of_mem hs
    obtain ⟨k2,hk2,hst⟩:=hss j s hj
    walk_at "sim"
    exact ⟨s,rfl,⟨ht,12000+470*i,hst.b1,hst.b2,hst.b3,by omega⟩,hQ⟩
   ·walk_at "sim"
    refine ⟨ss.map fun s=>(s.2.1,t.num*s.2.1 - (t.den:Int)*(t.den:Int)*s.1,s.2.2*(t.den:Int)),some (.int (i:Int)),z6,z7,by rw [List.map_map]; rfl,by rw [List.length_map]; exact hlen,fun j s hs=>?_,fun n hn k3 hk3=>?_⟩
    ·rw [List.getElem?_map] at hs
     obtain ⟨s0,hs0,rfl⟩:=Option.map_eq_some_iff.mp hs
     obtain ⟨k2,hk2,hst⟩:=hss j s0 hs0
     exact ⟨k2,hk2,hst.next ht⟩
    ·rcases Nat.lt_or_ge n i with z | z
     ·exact hno n z k3 hk3
     ·have:n=i:=by omega
      subst this
      obtain ⟨j,hj⟩:=List.getElem?_of_mem hk3
      exact hn2 j (List.getElem?_eq_some_iff.mp hj).1 k3 hj
 ·rw [j7]
  rintro e M' ⟨rfl,ss,z5,z6,z7,rfl,hlen,hss,hno⟩
  walk_at "sim"
  rw [a6u hno] at k
  exact k
theorem a0m (T:Txt K mg) (d:Df K mg "sheared_round" D9 ["t", "x", "later", "r"]) (G_tops_over:Fn P w K mg base "tops_over" 1 ["ratios", "bottom"] b0H) (G_common_bottom:Fn P w K mg base "common_bottom" 2 ["ratios"] b0J):Fn P w K mg base "sheared_round" 3 ["t", "x", "later", "r"] a6K:=by
 have sc:=a0h
 refine j4 d sc (by walk_at "len") (fun f cdv A outer s H E ds M R Y hr h=>?_)
 have hu:=hr.units
 obtain ⟨t,x,f',r,rfl,⟨ht,hl,h0,hw⟩,k⟩:=h
 have es:szs [x,f',r]=sz x+sz f'+sz r:=by unfold szs; simp only [List.map_cons,List.map_nil,List.sum_cons,List.sum_nil]; omega
 have zx:sz x≤3000:=hl.x
 have zf:sz f'≤3000:=hl.f
 have zr:sz r≤3000:=hl.r
 have xf:sz x+sz f'≤4200:=hl.xf
 have tp:(0<t.num)↔0<t:=by
  constructor
  ·intro h
   rw [Rat.lt_iff]; simpa using h
  ·exact a6Z
 refine ⟨_,(d4 (jst 4 sc.nd (e8 (a7 (a8 1) (a7 (a8 2) (a7 (a8 3) a9))))) (d4 (q9 (jc G_tops_over hr (a7 (a8 4) (a7 (jc G_common_bottom hr (a7 (a8 4) a9)) a9))) (a1Y (n:=3) rfl (d6 (jn 5 sc.nd) (d6 (jn 6 sc.nd) (d6 (jn 7 sc.nd) i4))))) (d4 (jst 8 sc.nd (f8 a1S (Z2 (jtm b1a (jx (a8 0) d3) d3) (a8 6) (y3 (a8 6))) (a8 5))) (d4 (jst 9 sc.nd (Z2 (jtm b1a (a8 8) d3) (f8 a1S (a8 7) (a8 5)) (f8 E5 (a8 7) (a8 5)))) (d5 (d8 (f8 E5 (f8 E4 (a8 9) (y8 a56 rfl T.b_abs a2a (a7 (a8 8) a9))) d3))))))),?_⟩
 walk_at "sim"
 refine ⟨[x,f',r],.inl rfl,by omega,fun B B0 Bl hB hBp=>⟨[x,f',r],.inl rfl,⟨by show 3≤1000; decide,Nat.le_trans Bl (Nat.pow_le_pow_right (by decide) (by omega)),B0,fun q hq=>⟨hB q hq,?_⟩⟩,?_⟩⟩
 ·have:=a0Z hq; omega
 obtain ⟨o1,o2⟩:=D3 (hB x (by simp))
 obtain ⟨p1,p2⟩:=D3 (hB f' (by simp))
 obtain ⟨q1,q2⟩:=D3 (hB r (by simp))
 have hBp:B ∣ x.den*(f'.den*r.den):=by simpa using hBp
 have o3:(x.num*(B:Int).fdiv (x.den:Int)).natAbs<2 ^ 8000:=a70 (hB x (by simp)) hBp (Q6 x) (Nat.mul_pos f'.den_pos r.den_pos) (m6 (u0 f' (Nat.le_refl _)) (u0 r (Nat.le_refl _))) (by omega)
 have p3:(f'.num*(B:Int).fdiv (f'.den:Int)).natAbs<2 ^ 8000:=a70 (hB f' (by simp)) (by rw [Nat.mul_left_comm] at hBp; exact hBp) (Q6 f') (Nat.mul_pos x.den_pos r.den_pos) (m6 (u0 x (Nat.le_refl _)) (u0 r (Nat.le_refl _))) (by omega)
 have hdn:=a6y ht hw
 have B0':(0:Rat)<(B:Rat):=by exact_mod_cast B0
 walk_at "sim"
 generalize x.num*(B:Int).fdiv (x.den:Int)=a at *
 generalize f'.num*(B:Int).fdiv (f'.den:Int)=b at *
 generalize r.num*(B:Int).fdiv (r.den:Int)=c at *
 have fin:∀ bb:Int,bb.natAbs<2 ^ 8000→(bb:Rat)=(if 0<t then f' else -f')*(B:Rat)→∀ g:Int,g=(if 0<bb - a then c - a else c+a)→CFd g (((bb - a).natAbs:Nat):Int)∧R (.int (g.fdiv (((bb - a).natAbs:Nat):Int)+1)) M:=fun bb hbb ebb g hg=>by
  generalize hd:(if 0<t then f' else -f') - x=d at *
  have es2:((bb - a:Int):Rat)=d*(B:Rat):=by rw [Rat.intCast_sub,ebb,o1,← hd]; grind
  have sp:(0<bb - a)↔0<d:=by
   have e1:(0<bb - a)↔(0:Rat)<((bb - a:Int):Rat):=by exact_mod_cast Iff.rfl
   rw [e1,es2]
   constructor
   ·intro z
    apply Classical.byContradiction
    intro nz
    have:=Rat.mul_nonneg (a:=-d) (b:=(B:Rat)) (by grind) (by grind)
    grind
   ·intro z; exact Rat.mul_pos z B0'
  have sne:bb - a≠0:=fun z=>by
   rw [z] at es2
   have es2:(0:Rat)=d*(B:Rat):=es2
   rcases Rat.mul_eq_zero.mp es2.symm with z | z
   ·exact hdn z
   ·rw [z] at B0'; exact absurd B0' (by decide)
  have sl:(bb - a).natAbs<2 ^ 8001:=Y3 hbb o3
  have sz1:(((bb - a).natAbs:Nat):Rat)=f7 d*(B:Rat):=by
   rw [← a8I,es2,a2b,show f7 (B:Rat)=(B:Rat) by unfold f7; rw [if_pos (by grind)]]
  have hgq:(g:Rat)=(if 0<d then r - x else r+x)*(B:Rat):=by
   rw [hg]
   by_cases h:0<d
   ·rw [if_pos (sp.mpr h),if_pos h,Rat.intCast_sub,q1,o1]; grind
   ·rw [if_neg (fun z=>h (sp.mp z)),if_neg h,Rat.intCast_add,q1,o1]; grind
  have xr:x≤r∧-r≤x:=by
   unfold f7 at h0; split at h0 <;> exact ⟨by grind,by grind⟩
  have g0:0≤g:=by
   have:(0:Rat)≤(g:Rat):=by
    rw [hgq]
    refine Rat.mul_nonneg ?_ (by grind)
    split <;> grind
   exact_mod_cast this
  obtain ⟨G,rfl⟩:∃ G:Nat,g=(G:Int):=⟨g.toNat,by omega⟩
  generalize hS:(bb - a).natAbs=Sn at *
  have S0:0<Sn:=by omega
  refine ⟨⟨by omega,by rw [Int.natAbs_natCast]; exact Nat.lt_of_lt_of_le (F8 sl (by decide)) (by decide)⟩,?_⟩
  rw [I0 (by omega) (by omega)]
  have eN:((G:Int) / (Sn:Int))+1=((G / Sn+1:Nat):Int):=by norm_cast
  rw [eN]
  have d1:G / Sn*Sn≤G:=Nat.div_mul_le_self G Sn
  have d2:G<(G / Sn+1)*Sn:=by rw [Nat.add_mul,Nat.one_mul]; exact Nat.lt_div_mul_add S0
  generalize G / Sn=N at *
  have f1:(N:Rat)*(Sn:Rat)≤(G:Rat):=by exact_mod_cast d1
  have f2:(G:Rat)<((N:Rat)+1)*(Sn:Rat):=by exact_mod_cast d2
  have hgq:(G:Rat)=(if 0<d then r - x else r+x)*(B:Rat):=hgq
  rw [sz1,hgq] at f1 f2
  obtain ⟨k1,k2⟩:=a5l (f:=f') (N:=N) ht h0 hd.symm hdn rfl (by
   apply Classical.byContradiction
   intro nz
   have:=Rat.mul_pos (a:=(N:Rat)*f7 d - (if 0<d then r - x else r+x)) (b:=(B:Rat)) (by grind) B0'
   grind) (by
   apply Classical.byContradiction
   intro nz
   have:=Rat.mul_nonneg (a:=(if 0<d then r - x else r+x) - ((N:Rat)+1)*f7 d) (b:=(B:Rat)) (by grind) (by grind)
   grind)
  exact k _ k1 k2
 refine ⟨fun h=>?_,fun h=>?_⟩
 ·have:=fin b p3 (by rw [if_pos (tp.mp h)]; exact p1)
  exact ⟨fun h2=>this _ (by rw [if_pos h2]),fun h2=>this _ (by rw [if_neg h2])⟩
 ·have:=fin (-b) (by rw [Int.natAbs_neg]; exact p3) (by rw [if_neg (fun z=>h (tp.mpr z)),Rat.intCast_neg,p1]; grind)
  exact ⟨fun h2=>this _ (by rw [if_pos h2]),fun h2=>this _ (by rw [if_neg h2])⟩
theorem a0n (T:Txt K mg) (d:Df K mg "first_sheared" E1 ["t", "numbers", "late"]) (G_sheared_round:Fn P w K mg base "sheared_round" 3 ["t", "x", "later", "r"] a6K):Fn P w K mg base "first_sheared" 4 ["t", "numbers", "late"] b6C:=by
 have sc:=a0i
 refine j4 d sc (by walk_at "len") (fun f cdv A outer s H E ds M R Y hr h=>?_)
 have hu:=hr.units
 obtain ⟨t,x,y,rfl,ls,ws,rfl,rfl,⟨ht,⟨hl,hwl⟩,hok,hk⟩,k0,k⟩:=h
 refine ⟨_,(d4 (jst 3 sc.nd (a0r a9)) (d4 (v9 PassesOwn.never rfl (y7 (a8 2)) (jn 4 sc.nd) (d4 (q9 (jx (a8 1) (a8 4)) (m7 (n:=3) rfl (d6 (jn 5 sc.nd) (d6 (jn 6 sc.nd) (d6 (jn 7 sc.nd) i4))))) (d5 (G2 (a0L PySem.F.slot_list_append PySem.F.type_list_append F4 (a8 3) (a7 (e8 (a7 (jc G_sheared_round hr (a7 (a8 0) (a7 (a8 5) (a7 (a8 6) (a7 (a8 7) a9))))) (a7 (a8 4) a9))) a9)))))) (d5 (d8 (Q7 (b4u hu rfl rfl T.b_min b2i (a7 (W7 (a8 3)) a9))))))),?_⟩
 walk_at "sim"
 intro p hp
 refine X6.by (fun i e M'=>∃ (ps:List (Int × Int)) (z4 z5 z6 z7:Option D),e=[some (d7 t),some (D.vl (ls.map m8)),some (D.vl (ws.map fun k:Nat=>D.int (k:Int))),some (.ref p),z4,z5,z6,z7]∧M'=v8 M p (.lst (ps.map a0U))∧ps.length=i∧∀ (j:Nat) (q:Int × Int),ps[j]? = some q→∃ (N k:Nat) (l:Rat × Rat × Rat),q=((N:Int),(k:Int))∧ws[j]? = some k∧ls[k]? = some l∧D1 t l N∧∀ n,n<N→¬ D1 t l n) ⟨[],_,_,_,_,rfl,rfl,rfl,fun j q h=>by simp at h⟩ (fun _ _ _ _ _=>by simp only [m5]) ?_ ?_
 ·rintro i dd e M' hd ⟨ps,z4,z5,z6,z7,rfl,rfl,hpl,hps⟩
  rw [List.getElem?_map] at hd
  obtain ⟨k1,hk1,rfl⟩:=Option.map_eq_some_iff.mp hd
  obtain ⟨l,hl1,hsw⟩:=hk k1 (List.mem_of_getElem? hk1)
  obtain ⟨ok,h0⟩:=hok l (List.mem_of_getElem? hl1)
  have hi:=(List.getElem?_eq_some_iff.mp hk1).1
  walk_at "sim"
  refine ⟨m8 l,p7 (n:=k1) (by rw [List.getElem?_map,hl1]; rfl),?_⟩
  walk_at "sim"
  refine R4 i8 ⟨⟨ht,ok,h0,hsw⟩,fun N b1 b2=>?_⟩
  walk_at "sim"
  refine a0t i8 (by rw [List.length_map]; omega) ⟨ps++[((N:Int),(k1:Int))],_,_,_,_,rfl,?_,by rw [List.length_append,hpl]; rfl,fun j q hq=>?_⟩
  ·rw [a1x,List.map_append]; rfl
  ·rcases Nat.lt_or_ge j ps.length with z | z
   ·rw [List.getElem?_append_left z] at hq; exact hps j q hq
   ·rw [List.getElem?_append_right z] at hq
    have hj:j - ps.length=0:=by
     have:=(List.getElem?_eq_some_iff.mp hq).1
     simp at this; omega
    rw [hj] at hq
    have e5:q=((N:Int),(k1:Int)):=by simpa using hq.symm
    exact ⟨N,k1,l,e5,by rw [show j=i by omega]; exact hk1,hl1,b1,b2⟩
 ·rintro e M' ⟨ps,z4,z5,z6,z7,rfl,rfl,hpl,hps⟩
  rw [List.length_map] at hpl
  walk_at "sim"
  rw [a3B i8,Z9 hp]
  walk_at "sim"
  refine b6n.mpr ⟨fun z=>R5 (M2:=M) (fun _ _ h=>h) (k0 (List.eq_nil_of_length_eq_zero (by rw [z] at hpl; exact hpl.symm))),fun q hq hm=>R5 (M2:=M) (fun _ _ h=>h) ?_⟩
  obtain ⟨j,hj⟩:=List.getElem?_of_mem hq
  obtain ⟨N,k1,l,rfl,hw1,hl1,b1,b2⟩:=hps j q hj
  have of:∀ k'∈ws,∃ (N':Nat) (l':Rat × Rat × Rat),((N':Int),(k':Int))∈ps∧ls[k']? = some l'∧∀ n,n<N'→¬ D1 t l' n:=fun k' hk'=>by
   obtain ⟨j',hj'⟩:=List.getElem?_of_mem hk'
   have hlt:j'<ps.length:=by rw [hpl]; exact (List.getElem?_eq_some_iff.mp hj').1
   have hq':=List.getElem?_eq_getElem hlt
   obtain ⟨N',k2,l',e5,hw2,hl2,_,b4⟩:=hps j' _ hq'
   rw [hj'] at hw2
   obtain rfl:=Option.some.inj hw2
   exact ⟨N',l',by rw [← e5]; exact List.getElem_mem hlt,hl2,b4⟩
  refine k N k1 (List.mem_of_getElem? hw1) (a0c.mpr ⟨l,hl1,b1⟩) (fun n' hn k' hk'=>?_) (fun k' hk' hlt=>?_)
  ·obtain ⟨N',l',hm',hl',b4⟩:=of k' hk'
   have:=hm _ hm'
   refine J1.mpr fun l2 e2=>?_
   rw [hl'] at e2
   obtain rfl:=Option.some.inj e2
   exact b4 n' (by omega)
  ·obtain ⟨N',l',hm',hl',b4⟩:=of k' hk'
   have:=hm _ hm'
   refine J1.mpr fun l2 e2=>?_
   rw [hl'] at e2
   obtain rfl:=Option.some.inj e2
   exact b4 N (by omega)
theorem a2y (T:Txt K mg) (d:Df K mg "first_stop" M0 ["table", "numbers", "late"]) (G_stop_within:Fn P w K mg base "stop_within" 4 ["t", "numbers", "watched", "rounds"] a6J) (G_first_sheared:Fn P w K mg base "first_sheared" 4 ["t", "numbers", "late"] b6C) (G_rounds_to_self:Fn P w K mg base "rounds_to_self" 5 ["table"] a85) (G_kind_word:Fn P w K mg base "kind_word" 6 ["table"] sKw) (G_t_of:Fn P w K mg base "t_of" 4 ["table"] a3X) (G_less:Fn P w K mg base "less" 1 ["one", "other"] a0f) (G_unsigned:Fn P w K mg base "unsigned" 1 ["one"] a5j):Fn P w K mg base "first_stop" 7 ["table", "numbers", "late"] a6O:=by
 have sc:=a2n
 refine j4 d sc (by walk_at "len") (fun f cdv A outer s H E ds M R Y hr h=>?_)
 have hu:=hr.units
 obtain ⟨x,y,z,rfl,m,ls,rfl,rfl,rfl,⟨cd,hd,hl,hok⟩,k⟩:=h
 have zt:sz (trQ m)≤231:=CD.tr cd
 refine ⟨_,(d4 (v9 PassesOwn.never rfl (Z1 rfl T.b_enumerate (a7 (a8 1) a9)) (m7 (n:=2) rfl (d6 (jn 3 sc.nd) (d6 (m7 (n:=3) rfl (d6 (jn 4 sc.nd) (d6 (jn 5 sc.nd) (d6 (jn 6 sc.nd) i4)))) i4))) (d5 (h9 (N4 (jc G_less hr (a7 (a8 6) (a7 (jc G_unsigned hr (a7 (a8 4) a9)) a9)))) (d5 (d8 (e8 (a7 d3 (a7 (a8 3) a9))))) g6))) (d4 (jst 7 sc.nd (jc G_t_of hr (a7 (a8 0) a9))) (d4 (jst 8 sc.nd (jc G_kind_word hr (a7 (a8 0) a9))) (d4 (h9 (jtm B5 (a8 8) i9) (d5 (d8 (jc G_stop_within hr (a7 (a8 7) (a7 (a8 1) (a7 (a4r rfl rfl T.b_list a06 rfl T.b_range (a7 (y8 U4 rfl T.b_len K2 (a7 (a8 1) a9)) a9)) (a7 (jc G_rounds_to_self hr (a7 (a8 0) a9)) a9))))))) g6) (d4 (h9 (jtm B5 (a8 8) i9) (d5 (d8 (jc G_first_sheared hr (a7 (a8 7) (a7 (a8 1) (a7 (a8 2) a9)))))) g6) (d5 (d8 (jc G_stop_within hr (a7 (a8 7) (a7 (a8 1) (a7 (a8 2) (a7 (o8 rfl T.c_FIRST_ROUNDS) a9)))))))))))),?_⟩
 walk_at "sim"
 rw [a8B]
 refine X6.by (fun i e M'=>M'=M∧(∃ z3 z4 z5 z6 z7 z8:Option D,e=[some (A0 m),some (D.vl (ls.map m8)),some (D.vl ((r9 m ls).map fun k:Nat=>D.int (k:Int))),z3,z4,z5,z6,z7,z8])∧∀ (j:Nat) l,j<i→ls[j]? = some l→¬ l.2.2<f7 l.1) ⟨rfl,⟨_,_,_,_,_,_,rfl⟩,fun j l h=>absurd h (by omega)⟩ (fun _ _ _ _ _=>by simp only [m5]) ?_ ?_
 ·rintro i dd e M' hd2 ⟨rfl,⟨z3,z4,z5,z6,z7,z8,rfl⟩,hno⟩
  rw [List.getElem?_map] at hd2
  obtain ⟨zz,hz,rfl⟩:=Option.map_eq_some_iff.mp hd2
  obtain ⟨l,rfl,hli⟩:∃ l,zz=(l,i)∧ls[i]? = some l:=by
   rw [List.getElem?_zipIdx] at hz
   obtain ⟨l,hl1,e5⟩:=Option.map_eq_some_iff.mp hz
   exact ⟨l,by rw [← e5]; simp,hl1⟩
  have ok:=(hok l (List.mem_of_getElem? hli)).1
  have:=ok.x; have:=ok.r
  have ax:=a1y l.1
  walk_at "sim"
  refine ⟨by omega,fun h1=>?_,fun h1=>⟨⟨_,_,_,_,_,_,rfl⟩,fun j l' hj hl'=>?_⟩⟩
  ·refine k (some (0,i)) ⟨a0c.mpr ⟨l,hli,h1⟩,fun n hn=>absurd hn (by omega),fun j hj=>J1.mpr fun l' hl'=>hno j l' hj hl',.inr (by show 0<60; decide)⟩
  ·rcases Nat.lt_or_ge j i with z | z
   ·exact hno j l' z hl'
   ·have:j=i:=by omega
    subst this
    rw [hli] at hl'
    obtain rfl:=Option.some.inj hl'
    exact h1
 ·rw [List.length_map,List.length_zipIdx]
  rintro e M' ⟨rfl,⟨z3,z4,z5,z6,z7,z8,rfl⟩,hno⟩
  have h0:∀ l∈ls,¬ l.2.2<f7 l.1:=fun l hl=>by
   obtain ⟨j,hj⟩:=List.getElem?_of_mem hl
   exact hno j l (List.getElem?_eq_some_iff.mp hj).1 hj
  have stays:¬ u7 m→∀ j,j∉r9 m ls→∀ n,v6 (trQ m) ls j n=false:=fun hs j hj n=>J1.mpr fun l hl=>by
   have lm:=List.mem_of_getElem? hl
   refine a67 hs (hok l lm).1.p ?_ (h0 l lm) n
   cases e:F9 m l.1 l.2.1 l.2.2 with
   | false=>rfl
   | true=>exact absurd (K4.mpr ⟨l,hl,e⟩) hj
  have lk:∀ j∈r9 m ls,j<ls.length:=fun j hj=>by
   obtain ⟨l,h1,_⟩:=K4.mp hj
   exact (List.getElem?_eq_some_iff.mp h1).1
  have ll:(r9 m ls).length≤40:=by
   unfold r9
   rw [List.length_map]
   have:=List.length_filter_le (fun z:(Rat × Rat × Rat) × Nat=>F9 m z.1.1 z.1.2.1 z.1.2.2) ls.zipIdx
   rw [List.length_zipIdx] at this; omega
  walk_at "sim"
  refine ⟨m,rfl,cd,m,rfl,cd,fun hsm=>?_,fun hsm=>⟨fun hsh=>?_,fun hsh=>?_⟩⟩
  ·have hs:u7 m:=by
    rcases K5 m with ⟨c1,_⟩ | ⟨_,_,e⟩ | ⟨_,_,_,e⟩ | ⟨_,_,_,e⟩
    ·exact c1
    ·rw [e] at hsm; exact absurd hsm (by decide)
    ·rw [e] at hsm; exact absurd hsm (by decide)
    ·rw [e] at hsm; exact absurd hsm (by decide)
   have rt6:rtN m≤6:=by
    unfold rtN; repeat' split
    all_goals decide
   rw [c0e]
   walk_at "sim"
   refine ⟨ls.length,by rw [List.length_map],by omega,m,rfl,cd,?_⟩
   rw [a37 m hs]
   refine (X7 (N:=rtN m)).mpr ⟨ls,List.range ls.length,rfl,rfl,⟨zt,⟨hl,by rw [List.length_range]; exact hl⟩,by omega,fun l h=>(hok l h).1,fun j hj=>List.mem_range.mp hj⟩,?_⟩
   have rg:∀ {j:Nat},j<ls.length→(List.range ls.length)[j]? = some j:=fun {j} hj=>by rw [List.getElem?_range hj]
   have out:∀ {j n:Nat},¬ j<ls.length→v6 (trQ m) ls j n=false:=fun {j n} hj=>J1.mpr fun l e5=>absurd (List.getElem?_eq_some_iff.mp e5).1 hj
   cases e:O4 (trQ m) ls (List.range ls.length) (rtN m) with
   | none =>
    have inv:=P3 e
    refine k none fun n j _=>J1.mpr fun l hl5=>?_
    have lm:=List.mem_of_getElem? hl5
    have jl:=(List.getElem?_eq_some_iff.mp hl5).1
    exact a6C hd hs (hok l lm).2 (fun n5 hn5=>J1.mp (inv n5 hn5 j (List.mem_range.mpr jl)) l hl5) n
   | some z =>
    obtain ⟨h1,⟨i5,h2,h3⟩,h4,h5⟩:=P2 e
    have ei:i5=z.2∧i5<ls.length:=by
     have hlt:=(List.getElem?_eq_some_iff.mp h2).1
     rw [List.length_range] at hlt
     rw [rg hlt] at h2
     exact ⟨Option.some.inj h2,hlt⟩
    refine k (some z) ⟨h4,fun n hn j=>?_,fun j hj=>?_,.inl (.inl hs)⟩
    ·by_cases hj:j<ls.length
     ·exact h5 n hn j (List.mem_range.mpr hj)
     ·exact out hj
    ·by_cases hj2:j<ls.length
     ·exact h3 j (by omega) j (rg hj2)
     ·exact out hj2
  ·obtain ⟨hs,h2⟩:¬ u7 m∧f7 (trQ m)=2:=by
    rcases K5 m with ⟨_,e⟩ | ⟨c1,c2,_⟩ | ⟨_,_,_,e⟩ | ⟨_,_,_,e⟩
    ·exact absurd e hsm
    ·exact ⟨c1,c2⟩
    ·rw [e] at hsh; exact absurd hsh (by decide)
    ·rw [e] at hsh; exact absurd hsh (by decide)
   have st:=stays hs
   have h3:¬ f7 (trQ m)<2:=by rw [h2]; decide
   refine ⟨ls,r9 m ls,rfl,rfl,⟨h2,⟨hl,ll⟩,fun l h=>⟨(hok l h).1,h0 l h⟩,fun j hj=>?_⟩,fun hn=>?_,fun n j hj b1 b2 b3=>?_⟩
   ·obtain ⟨l,e1,e2⟩:=K4.mp hj
    refine ⟨l,e1,fun z=>?_⟩
    unfold F9 at e2
    rw [if_neg hs,if_neg h3,if_neg (fun w=>w z),if_pos h2] at e2
    cases e2
   ·refine k none fun n j _=>st j (fun z=>?_) n
    rw [hn] at z; cases z
   ·refine k (some (n,j)) ⟨b1,fun n' hn' j'=>?_,fun j' hj'=>?_,.inl (.inr h2)⟩
    ·by_cases z:j'∈r9 m ls
     ·exact b2 n' hn' j' z
     ·exact st j' z n'
    ·by_cases z:j'∈r9 m ls
     ·exact b3 j' z hj'
     ·exact st j' z n
  ·obtain ⟨hs,hnr⟩:¬ u7 m∧¬ a5N m:=by
    rcases K5 m with ⟨_,e⟩ | ⟨_,_,e⟩ | ⟨c1,c2,_⟩ | ⟨c1,c2,_⟩
    ·exact absurd e hsm
    ·exact absurd e hsh
    ·exact ⟨c1,fun z=>z.elim c1 c2⟩
    ·exact ⟨c1,fun z=>z.elim c1 c2⟩
   have st:=stays hs
   refine (X7 (N:=60)).mpr ⟨ls,r9 m ls,rfl,rfl,⟨zt,⟨hl,ll⟩,by decide,fun l h=>(hok l h).1,lk⟩,?_⟩
   have asc:∀ {i j a b:Nat},(r9 m ls)[i]? = some a→(r9 m ls)[j]? = some b→a<b→i<j:=b1j
   cases e:O4 (trQ m) ls (r9 m ls) 60 with
   | none =>
    have inv:=P3 e
    refine k none fun n j hn=>?_
    by_cases z:j∈r9 m ls
    ·exact inv n (hn.resolve_left hnr) j z
    ·exact st j z n
   | some z =>
    obtain ⟨h1,⟨i5,h2,h3⟩,h4,h5⟩:=P2 e
    refine k (some z) ⟨h4,fun n hn j=>?_,fun j hj=>?_,.inr h1⟩
    ·by_cases zz:j∈r9 m ls
     ·exact h5 n hn j zz
     ·exact st j zz n
    ·by_cases zz:j∈r9 m ls
     ·obtain ⟨i6,h6⟩:=List.getElem?_of_mem zz
      exact h3 i6 (asc h6 h2 hj) j h6
     ·exact st j zz z.1
theorem a6W (T:Txt K mg) (d:Df K mg "less" a3V ["one", "other"]):Fn P w K mg base "less" 1 ["one", "other"] a6N:=by
 have sc:=a75
 refine j4 d sc (by walk_at "len") (fun f cdv A outer s H E ds M R Y hr h=>?_)
 have hu:=hr.units
 obtain ⟨q,T',B,rfl,⟨b0,zq,zB,zT⟩,k⟩:=h
 have e:decide (q<Rat.divInt T' B)=decide (q.num*B<T'*(q.den:Int)):=decide_eq_decide.mpr (b1f b0).symm
 rw [e] at k
 refine ⟨_,(d5 (d8 (jm a2E (f8 o6 (jx (a8 0) d3) (jx (a8 1) d3)) (f8 o6 (jx (a8 1) d3) (jx (a8 0) d3))))),?_⟩
 walk_at "sim"
 exact ⟨A2 _ _ (u8 q zq) zB (by decide),A2 _ _ zT (by rw [Int.natAbs_natCast]; exact u0 q zq) (by decide),k⟩
theorem b05 (T:Txt K mg) (d:Df K mg "times" a3R ["one", "other"]) (G_ratio:Fn P w K mg base "ratio" 2 ["top", "bottom"] T9):Fn P w K mg base "times" 3 ["one", "other"] G8:=by
 have sc:=b0A
 refine j4 d sc (fun ds M R Y h=>?_) (fun f cdv A outer s H E ds M R Y hr h=>?_)
 ·obtain ⟨q,r,rfl,_⟩:=h; rfl
 ·obtain ⟨q,r,rfl,hz,k⟩:=h
  refine ⟨_,(d5 (d8 (jc G_ratio hr (a7 (f8 o6 (jx (a8 0) d3) (jx (a8 1) d3)) (a7 (f8 o6 (jx (a8 0) d3) (jx (a8 1) d3)) a9))))),?_⟩
  refine ⟨_,rfl,_,rfl,_,rfl,_,rfl,_,_,rfl,rfl,mNN hz,_,rfl,_,rfl,_,rfl,_,rfl,_,_,rfl,rfl,mDD hz,_,_,rfl,Int.mul_ne_zero (RM.C9 q) (RM.C9 r),lDD hz,?_⟩
  rw [RM.b1e] at k
  exact k
theorem a2t (T:Txt K mg) (d:Df K mg "shows_late" L5 ["word", "t", "x", "later", "r"]) (G_less:Fn P w K mg base "less" 1 ["one", "other"] a0f) (G_unsigned:Fn P w K mg base "unsigned" 1 ["one"] a5j) (G_swing:Fn P w K mg base "swing" 3 ["t", "x", "later"] a01) (G_less__2:Fn P w K mg base "less" 1 ["one", "other"] a6N) (G_reach_by:Fn P w K mg base "reach_by" 4 ["t", "x", "later"] a76) (G_times:Fn P w K mg base "times" 3 ["one", "other"] G8):Fn P w K mg base "shows_late" 5 ["word", "t", "x", "later", "r"] a3Y:=by
 have sc:=a2i
 refine j4 d sc (by walk_at "len") (fun f cdv A outer s H E ds M R Y hr h=>?_)
 have hu:=hr.units
 obtain ⟨w',t,x,f',r,rfl,m,rfl,rfl,⟨cd,hd,hz,hr',r0⟩,k⟩:=h
 have zt:sz (trQ m)≤231:=CD.tr cd
 have zr:=RM.D7 r r
 have ax:=a1y x
 have af:=a1y f'
 have dn:((trQ m).den:Rat)≠0:=by
  intro z; exact (trQ m).den_nz (by exact_mod_cast z)
 have tz:∀ {T B:Int},0<B→(T:Rat)=(trQ m).den*(x*x - trQ m*(x*f')+f'*f')*B→(T=0↔swQ (trQ m) x f'=0):=fun {T B} b0 e=>by
  have hB:(B:Rat)≠0:=by intro z; exact absurd (show B=0 by exact_mod_cast z) (by omega)
  unfold swQ
  generalize x*x - trQ m*(x*f')+f'*f'=v at *
  constructor
  ·intro z
   rw [z] at e
   have e:(0:Rat)=(trQ m).den*v*B:=e
   grind
  ·intro z
   rw [z] at e
   have:(T:Rat)=0:=by grind
   exact_mod_cast this
 unfold F9 at k
 refine ⟨_,(d4 (h9 (jtm B5 (a8 0) i9) (d5 (d8 Z3)) g6) (d4 (h9 (jtm B5 (a8 0) i9) (d5 (d8 (jc G_less__2 hr (a7 (jc G_times hr (a7 (a8 4) (a7 (a8 4) a9))) (a7 (jc G_reach_by hr (a7 (a8 1) (a7 (a8 2) (a7 (a8 3) a9)))) a9))))) g6) (d4 (h9 (jtm a5L (jx (jc G_swing hr (a7 (a8 1) (a7 (a8 2) (a7 (a8 3) a9)))) d3) d3) (d5 (d8 Z3)) g6) (d5 (d8 (a8n (jm B5 (a8 0) i9) (a4q (b7p (jc G_less hr (a7 (jc G_unsigned hr (a7 (a8 2) a9)) (a7 (jc G_unsigned hr (a7 (a8 3) a9)) a9))) (a4q (jc G_less hr (a7 (a8 4) (a7 (jc G_unsigned hr (a7 (a8 2) a9)) a9)))))))))))),?_⟩
 walk_at "sim"
 rcases K5 m with ⟨c1,e⟩ | ⟨c1,c2,e⟩ | ⟨c1,c2,c3,e⟩ | ⟨c1,c2,c3,e⟩
 ·rw [e]
  rw [if_pos c1] at k
  exact ⟨fun _=>k,fun h=>absurd rfl h⟩
 ·have c3:¬ f7 (trQ m)<2:=by rw [c2]; decide
  rw [if_neg c1,if_neg c3] at k
  rw [e]
  refine ⟨fun h=>absurd h (by decide),fun _=>⟨fun h=>absurd h (by decide),fun _=>⟨⟨zt,hz⟩,fun T' B b0 bB bT eT=>⟨fun h=>?_,fun h=>⟨fun h=>absurd h (by decide),fun _=>?_⟩⟩⟩⟩⟩
  ·rw [if_pos (fun z=>h ((tz b0 eT).mpr z))] at k; exact k
  ·rw [if_neg (fun z=>z ((tz b0 eT).mp h)),if_pos c2] at k; exact k
 ·rw [if_neg c1,if_pos c3] at k
  rw [e]
  obtain ⟨t1,t2⟩:=a4E.mp c3
  refine ⟨fun h=>absurd h (by decide),fun _=>⟨fun _=>⟨by omega,⟨zt,t1,t2,hz⟩,fun T' B b0 bB bT eT=>⟨⟨b0,by omega,p6 bB (by decide),p6 bT (by decide)⟩,?_⟩⟩,fun h=>absurd rfl h⟩⟩
  rw [eT]; exact k
 ·rw [if_neg c1,if_neg c3] at k
  rw [e]
  refine ⟨fun h=>absurd h (by decide),fun _=>⟨fun h=>absurd h (by decide),fun _=>⟨⟨zt,hz⟩,fun T' B b0 bB bT eT=>⟨fun h=>?_,fun h=>⟨fun _=>⟨by omega,fun h2=>?_,fun h2=>⟨by omega,?_⟩⟩,fun h=>absurd rfl h⟩⟩⟩⟩⟩
  ·rw [if_pos (fun z=>h ((tz b0 eT).mpr z))] at k; exact k
  ·rw [if_neg (fun z=>z ((tz b0 eT).mp h)),if_neg c2,decide_eq_true (.inl h2)] at k; exact k
  ·rw [if_neg (fun z=>z ((tz b0 eT).mp h)),if_neg c2] at k
   rw [show decide (f7 x<f7 f'∨r<f7 x)=decide (r<f7 x) from decide_eq_decide.mpr ⟨fun z=>z.resolve_left h2,.inr⟩] at k
   exact k
theorem a2v (T:Txt K mg) (d:Df K mg "late_lines" L7 ["table", "numbers"]) (G_shows_late:Fn P w K mg base "shows_late" 5 ["word", "t", "x", "later", "r"] a3Y) (G_t_of:Fn P w K mg base "t_of" 4 ["table"] a3X) (G_kind_word:Fn P w K mg base "kind_word" 6 ["table"] sKw):Fn P w K mg base "late_lines" 7 ["table", "numbers"] a33:=by
 have sc:=a2k
 refine j4 d sc (by walk_at "len") (fun f cdv A outer s H E ds M R Y hr h=>?_)
 have hu:=hr.units
 obtain ⟨x,y,rfl,m,ls,rfl,rfl,⟨cd,hd,hl,hok⟩,k⟩:=h
 refine ⟨_,(d4 (jst 2 sc.nd (jc G_kind_word hr (a7 (a8 0) a9))) (d4 (jst 3 sc.nd (jc G_t_of hr (a7 (a8 0) a9))) (d5 (d8 (G3 [2,3] ["k", "x", "later", "r"] ["word", "t"] rfl (by decide +kernel) rfl (by decide +kernel) (by decide +kernel) rfl (a6b ⟨rfl,rfl⟩ ⟨rfl,rfl⟩) (a6b (Or.inl rfl) (Or.inl rfl)) (Z1 rfl T.b_enumerate (a7 (a8 1) a9)) (fun _ _ _ _ _ _=>(m7 (n:=2) rfl (d6 (jn 0 (show (["k", "x", "later", "r", "word", "t"]:List Str).Nodup by decide +kernel)) (d6 (m7 (n:=3) rfl (d6 (jn 1 (show (["k", "x", "later", "r", "word", "t"]:List Str).Nodup by decide +kernel)) (d6 (jn 2 (show (["k", "x", "later", "r", "word", "t"]:List Str).Nodup by decide +kernel)) (d6 (jn 3 (show (["k", "x", "later", "r", "word", "t"]:List Str).Nodup by decide +kernel)) i4)))) i4)))) (fun _ _ _ _ _ _=>(S7 (N4 (jc G_shows_late hr (a7 (a8 4) (a7 (a8 5) (a7 (a8 1) (a7 (a8 2) (a7 (a8 3) a9))))))))) (fun _ _ _ _ _ _=>(a8 0))))))),?_⟩
 walk_at "sim"
 refine ⟨m,rfl,cd,m,rfl,cd,?_⟩
 rw [a8B]
 refine O0 (xs:=ls.zipIdx) (fun z=>F9 m z.1.1 z.1.2.1 z.1.2.2) (fun z=>D.int (z.2:Int)) (by rw [List.length_zipIdx]; omega) (by simp only [m5]) (fun z hz Q N h1 h2=>?_) ?_
 ·have ok:=hok z.1 (List.mem_of_getElem? (List.mem_zipIdx_iff_getElem?.mp hz))
  walk_at "sim"
  refine ⟨m,rfl,rfl,⟨cd,hd,ok.xf,ok.r,ok.p⟩,?_⟩
  walk_at "sim"
  exact ⟨h1,h2⟩
 ·rw [show (ls.zipIdx.filter fun z=>F9 m z.1.1 z.1.2.1 z.1.2.2).map (fun z=>D.int (z.2:Int))=(r9 m ls).map fun k:Nat=>D.int (k:Int) by unfold r9; rw [List.map_map]; rfl]
  exact k
theorem a4h (T:Txt K mg) (d:Df K mg "number_of" P8 ["p", "q", "ray"]) (G_plus:Fn P w K mg base "plus" 3 ["one", "other"] P4) (G_times:Fn P w K mg base "times" 3 ["one", "other"] G8):Fn P w K mg base "number_of" 4 ["p", "q", "ray"] a6M:=by
 have sc:=a3L
 refine j4 d sc (by walk_at "len") (fun f cdv A outer s H E ds M R Y hr h=>?_)
 have hu:=hr.units
 obtain ⟨p,q,y,u,rfl,hz,k⟩:=h
 have z1:=RM.D7 p y
 have z2:=RM.D7 q u
 refine ⟨_,(d5 (d8 (jc G_plus hr (a7 (jc G_times hr (a7 (a8 0) (a7 (jx (a8 2) d3) a9))) (a7 (jc G_times hr (a7 (a8 1) (a7 (jx (a8 2) d3) a9))) a9))))),?_⟩
 walk_at "sim"
 exact ⟨by omega,by omega,by omega,k⟩
theorem b7c (T:Txt K mg) (d:Df K mg "led" b0E ["table", "ray"]) (G_plus:Fn P w K mg base "plus" 3 ["one", "other"] P4) (G_times:Fn P w K mg base "times" 3 ["one", "other"] G8):Fn P w K mg base "led" 4 ["table", "ray"] b6B:=by
 have sc:=b6y
 refine j4 d sc (by walk_at "len") (fun f cdv A outer s H E ds M R Y hr h=>?_)
 have hu:=hr.units
 obtain ⟨a,b,c,d,y,u,rfl,h1,h2,k⟩:=h
 refine ⟨_,(d4 (q9 (a8 0) (m7 (n:=4) rfl (d6 (jn 2 sc.nd) (d6 (jn 3 sc.nd) (d6 (jn 4 sc.nd) (d6 (jn 5 sc.nd) i4)))))) (d4 (q9 (a8 1) (m7 (n:=2) rfl (d6 (jn 6 sc.nd) (d6 (jn 7 sc.nd) i4)))) (d5 (d8 (e8 (a7 (jc G_plus hr (a7 (jc G_times hr (a7 (a8 2) (a7 (a8 6) a9))) (a7 (jc G_times hr (a7 (a8 3) (a7 (a8 7) a9))) a9))) (a7 (jc G_plus hr (a7 (jc G_times hr (a7 (a8 4) (a7 (a8 6) a9))) (a7 (jc G_times hr (a7 (a8 5) (a7 (a8 7) a9))) a9))) a9))))))),?_⟩
 walk_at "sim"
 exact ⟨by walk_at "size",by walk_at "size",by walk_at "size",by walk_at "size",by walk_at "size",by walk_at "size",k⟩
theorem a4j (T:Txt K mg) (d:Df K mg "first_two" Q0 ["table", "ray", "lines"]) (G_number_of:Fn P w K mg base "number_of" 4 ["p", "q", "ray"] a6M) (G_led:Fn P w K mg base "led" 4 ["table", "ray"] b6B):Fn P w K mg base "first_two" 5 ["table", "ray", "lines"] W2:=by
 have sc:=a3N
 refine j4 d sc (by walk_at "len") (fun f cdv A outer s H E ds M R Y hr h=>?_)
 have hu:=hr.units
 obtain ⟨x,y,u,z,rfl,L,ls,rfl,rfl,⟨S,cL,cd0,hS,hl,hs⟩,k⟩:=h
 have cd:CD 1700 y 0 u 0:=cd0.mono hS
 have ol:=S3 L y u
 have ray:=(a38 cL cd).t2
 have r1:=ray.y
 have r2:=ray.u
 have ty:=cd.t2.y
 have tu:=cd.t2.u
 have o1:(h8 L (y,u)).1=(tbQ L).1*y+(tbQ L).2.1*u:=ol.1
 have o2:(h8 L (y,u)).2=(tbQ L).2.2.1*y+(tbQ L).2.2.2*u:=ol.2
 have t4:=CD.t4 cL
 rw [o1] at r1
 rw [o2] at r2
 rw [List.map_map] at k
 unfold A0
 refine ⟨_,(d4 (jst 3 sc.nd (jc G_led hr (a7 (a8 0) (a7 (a8 1) a9)))) (d5 (d8 (G3 [1,3] ["p", "q", "r"] ["ray", "later"] rfl (by decide +kernel) rfl (by decide +kernel) (by decide +kernel) rfl (a6b ⟨rfl,rfl⟩ ⟨rfl,rfl⟩) (a6b (Or.inl rfl) (Or.inl rfl)) (y7 (a8 2)) (fun _ _ _ _ _ _=>(m7 (n:=3) rfl (d6 (jn 0 (show (["p", "q", "r", "ray", "later"]:List Str).Nodup by decide +kernel)) (d6 (jn 1 (show (["p", "q", "r", "ray", "later"]:List Str).Nodup by decide +kernel)) (d6 (jn 2 (show (["p", "q", "r", "ray", "later"]:List Str).Nodup by decide +kernel)) i4))))) (fun _ _ _ _ _ _=>w6) (fun _ _ _ _ _ _=>(e8 (a7 (jc G_number_of hr (a7 (a8 0) (a7 (a8 1) (a7 (a8 3) a9)))) (a7 (jc G_number_of hr (a7 (a8 0) (a7 (a8 1) (a7 (a8 4) a9)))) (a7 (a8 2) a9))))))))),?_⟩
 walk_at "sim"
 generalize tbQ L=m at *
 obtain ⟨a,b,c,d⟩:=m
 have z3:sz a≤230:=t4.a
 have z4:sz b≤230:=t4.b
 have z5:sz c≤230:=t4.c
 have z6:sz d≤230:=t4.d
 have r1:sz (a*y+b*u)≤230+1700+1:=r1
 have r2:sz (c*y+d*u)≤230+1700+1:=r2
 have o1:(h8 L (y,u)).1=a*y+b*u:=o1
 have o2:(h8 L (y,u)).2=c*y+d*u:=o2
 refine ⟨by show sz a+sz y+(sz b+sz u)≤8900; omega,by show sz c+sz y+(sz d+sz u)≤8900; omega,?_⟩
 refine A4 (xs:=ls) (enc:=m8) (fun l=>m8 (F0 L y u l)) (by omega) (by simp only [m5]) (fun l hl Q hQ=>?_) k
 obtain ⟨q1,q2⟩:=hs l hl
 unfold m8 F0 at *
 rw [o1,o2] at hQ
 walk_at "sim"
 exact ⟨by omega,by omega,hQ⟩
theorem b08 (T:Txt K mg) (d:Df K mg "minus" a3U ["one", "other"]) (G_plus:Fn P w K mg base "plus" 3 ["one", "other"] P4) (G_opposite:Fn P w K mg base "opposite" 1 ["one"] a3j):Fn P w K mg base "minus" 4 ["one", "other"] E7:=by
 have sc:=b0D
 refine j4 d sc (fun ds M R Y h=>?_) (fun f cdv A outer s H E ds M R Y hr h=>?_)
 ·obtain ⟨q,r,rfl,_⟩:=h; rfl
 ·obtain ⟨q,r,rfl,hz,k⟩:=h
  refine ⟨_,(d5 (d8 (jc G_plus hr (a7 (a8 0) (a7 (jc G_opposite hr (a7 (a8 1) a9)) a9))))),?_⟩
  refine ⟨_,rfl,_,rfl,r,rfl,q,-r,rfl,by rw [RM.L3]; exact hz,?_⟩
  rw [Rat.sub_eq_add_neg] at k
  exact k
theorem a1O (T:Txt K mg) (d:Df K mg "led_by_part" J6 ["part", "ray"]) (G_minus:Fn P w K mg base "minus" 4 ["one", "other"] E7) (G_times:Fn P w K mg base "times" 3 ["one", "other"] G8) (G_plus:Fn P w K mg base "plus" 3 ["one", "other"] P4):Fn P w K mg base "led_by_part" 5 ["part", "ray"] a77:=by
 have sc:=a1C
 refine j4 d sc (by walk_at "len") (fun f cdv A outer s H E ds M R Y hr h=>?_)
 have hu:=hr.units
 obtain ⟨x,y,u,rfl,hz,k⟩:=h
 refine ⟨_,(d4 (q9 (a8 0) (m7 (n:=2) rfl (d6 (jn 2 sc.nd) (d6 (jn 3 sc.nd) i4)))) (d4 (q9 (a8 1) (m7 (n:=2) rfl (d6 (jn 4 sc.nd) (d6 (jn 5 sc.nd) i4)))) (d4 (h9 (jtm B5 (a8 2) i9) (d5 (d8 (e8 (a7 (jc G_plus hr (a7 (a8 4) (a7 (jc G_times hr (a7 (a8 3) (a7 (a8 5) a9))) a9))) (a7 (a8 5) a9))))) g6) (d4 (h9 (jtm B5 (a8 2) i9) (d5 (d8 (e8 (a7 (a8 4) (a7 (jc G_minus hr (a7 (a8 5) (a7 (jc G_times hr (a7 (a8 3) (a7 (a8 4) a9))) a9))) a9))))) g6) (d5 (d8 (a8 1))))))),?_⟩
 walk_at "sim"
 unfold t9 at k
 refine ⟨fun h1=>?_,fun h1=>⟨fun h2=>?_,fun h2=>?_⟩⟩
 ·rw [if_pos h1] at k; exact ⟨by omega,by walk_at "size",k⟩
 ·rw [if_neg h1,if_pos h2] at k; exact ⟨by omega,by walk_at "size",k⟩
 ·rw [if_neg h1,if_neg h2] at k; exact k
theorem a5H (T:Txt K mg) (d:Df K mg "lines_of" V8 ["bench"]) (G_led_by_part:Fn P w K mg base "led_by_part" 5 ["part", "ray"] a77):Fn P w K mg base "lines_of" 6 ["bench"] a32:=by
 have sc:=a5s
 refine j4 d sc (by walk_at "len") (fun f cdv A outer s H E ds M R Y hr h=>?_)
 have hu:=hr.units
 obtain ⟨bs,rfl,⟨⟨hz,hl⟩,hc⟩,k⟩:=h
 refine ⟨_,(d4 (jst 1 sc.nd (a0r a9)) (d4 (jst 2 sc.nd (o8 rfl T.c_LEVEL_RAY)) (d4 (jst 3 sc.nd (o8 rfl T.c_AXIS_RAY)) (d4 (v9 PassesOwn.never rfl (y7 (a8 0)) (jn 4 sc.nd) (C7 (h9 (jtm B5 (jx (a8 4) d3) i9) (d5 (G2 (a0L PySem.F.slot_list_append PySem.F.type_list_append F4 (a8 1) (a7 (e8 (a7 (jx (a8 2) d3) (a7 (jx (a8 3) d3) (a7 (jx (a8 4) d3) a9)))) a9)))) g6) (d4 (jst 2 sc.nd (jc G_led_by_part hr (a7 (a8 4) (a7 (a8 2) a9)))) (d5 (jst 3 sc.nd (jc G_led_by_part hr (a7 (a8 4) (a7 (a8 3) a9)))))))) (d5 (d8 (Q7 (W7 (a8 1))))))))),?_⟩
 walk_at "sim"
 intro p hp
 refine X6.by (fun i e M'=>(∃ y0 z:Option D,e=[y0,some (.ref p),some (A5 (h8 (bs.take i) (1,0)).1 (h8 (bs.take i) (1,0)).2),some (A5 (h8 (bs.take i) (0,1)).1 (h8 (bs.take i) (0,1)).2),z])∧M'=v8 M p (.lst ((B9 bs i).map m8))) ⟨⟨_,_,rfl⟩,rfl⟩ (fun i e M' _ _=>by simp only [m5,A1]) ?_ ?_
 ·rintro i dd e M' hd ⟨⟨y0,z,rfl⟩,rfl⟩
  obtain ⟨pt,hpt,rfl⟩:=a3n hd
  have t4:=CD.t4 (hc i)
  have a1:sz (h8 (bs.take i) (1,0)).1≤230:=t4.a
  have a2:sz (h8 (bs.take i) (0,1)).1≤230:=t4.b
  have b1:sz (h8 (bs.take i) (1,0)).2≤230:=t4.c
  have b2:sz (h8 (bs.take i) (0,1)).2≤230:=t4.d
  have q2:=hz pt (List.mem_of_getElem? hpt)
  have o1:=Y8 hpt (1,0)
  have o2:=Y8 hpt (0,1)
  have hll:=O9 bs i
  have hi:=(List.getElem?_eq_some_iff.mp hpt).1
  have on:=a3G hpt
  walk_at "sim"
  refine X4 (fun e' M'=>e'=[y0,some (.ref p),some (A5 (h8 (bs.take i) (1,0)).1 (h8 (bs.take i) (1,0)).2),some (A5 (h8 (bs.take i) (0,1)).1 (h8 (bs.take i) (0,1)).2),some (f9 pt)]∧M'=v8 M p (.lst ((B9 bs (i+1)).map m8))) ?_ ?_
  ·walk_at "sim"
   refine ⟨fun h1=>R4 i8 (a0t i8 (by rw [List.length_map]; omega) ?_),fun h1=>?_⟩
   ·rw [a1x,on,if_pos h1,List.map_append]; rfl
   ·rw [on,if_neg h1]
  ·rintro e' M' ⟨rfl,rfl⟩
   walk_at "sim"
   refine ⟨by omega,by omega,⟨y0,some (f9 pt),?_⟩⟩
   rw [o1,o2]
 ·rintro e M' ⟨⟨y0,z,rfl⟩,rfl⟩
  walk_at "sim"
  rw [a3B i8,Z9 hp]
  walk_at "sim"
  rw [List.length_map]
  exact ⟨_,fun _ _ h=>h,k⟩
theorem a0V (T:Txt K mg) (d:Df K mg "turned_bench" F6 ["bench"]):Fn P w K mg base "turned_bench" 1 ["bench"] a3W:=by
 have sc:=a0T
 refine j4 d sc (by walk_at "len") (fun f cdv A outer s H E ds M R Y hr h=>?_)
 have hu:=hr.units
 obtain ⟨x0,xs,rfl,hx0,k⟩:=h
 rcases hx0 with rfl | rfl
 all_goals
  refine ⟨_,(d5 (d8 (a5S rfl rfl T.b_list a06 rfl T.b_reversed a0O (a8 0)))),?_⟩
  walk_at "sim"
  exact k
theorem a1N (T:Txt K mg) (d:Df K mg "round_bench" J5 ["hall"]) (G_turned_bench:Fn P w K mg base "turned_bench" 1 ["bench"] a3W):Fn P w K mg base "round_bench" 2 ["hall"] a1H:=by
 have sc:=a1B
 refine j4 d sc (by walk_at "len") (fun f cdv A outer s H E ds M R Y hr h=>?_)
 have hu:=hr.units
 obtain ⟨x0,near,bs,far,rfl,hx0,hl,k⟩:=h
 rw [show e9 near bs far=bs++[(Str.ofString "glass",far)]++bs.reverse++[(Str.ofString "glass",near)] from rfl,List.map_append,List.map_append,List.map_append,List.map_reverse] at k
 have l1:(bs.map f9).length=bs.length:=List.length_map ..
 have hs:1000≤sizeLine:=by decide
 rcases hx0 with rfl | rfl
 all_goals
  refine ⟨_,(d4 (q9 (a8 0) (m7 (n:=3) rfl (d6 (jn 1 sc.nd) (d6 (jn 2 sc.nd) (d6 (jn 3 sc.nd) i4))))) (d5 (d8 (N5 (N5 (N5 (b1o rfl T.b_list a06 (a7 (a8 2) a9)) (m3 (a7 (e8 (a7 i9 (a7 (a8 3) a9))) a9))) (jc G_turned_bench hr (a7 (a8 2) a9))) (m3 (a7 (e8 (a7 i9 (a7 (a8 1) a9))) a9)))))),?_⟩
  walk_at "sim"
  refine ⟨by omega,by simp only [List.length_append,List.length_reverse,List.length_cons,List.length_nil]; omega,by simp only [List.length_append,List.length_reverse,List.length_cons,List.length_nil]; omega,?_⟩
  exact k
theorem a2w (T:Txt K mg) (d:Df K mg "hall_lines" L8 ["hall"]) (G_lines_of:Fn P w K mg base "lines_of" 6 ["bench"] a32) (G_round_bench:Fn P w K mg base "round_bench" 2 ["hall"] a1H):Fn P w K mg base "hall_lines" 7 ["hall"] Y6:=by
 have sc:=a2l
 refine j4 d sc (by walk_at "len") (fun f cdv A outer s H E ds M R Y hr h=>?_)
 have hu:=hr.units
 obtain ⟨x0,near,bs,far,rfl,hx0,hok,k⟩:=h
 have hs:=hok.szs
 have hc:=hok.cd
 have hl:=hok.len
 have hl2:=Z6 near far bs
 have fl:=b4D bs
 have sz1:1000≤sizeLine:=by decide
 rcases hx0 with rfl | rfl
 all_goals
  refine ⟨_,(d4 (B3 (i:=1) [] ["number", "part"] [] sc.nd rfl (Or.inl rfl) rfl (by decide +kernel) rfl (by decide +kernel) (by decide +kernel) rfl a0d a0d (Z1 rfl T.b_enumerate (a7 (jx (a8 0) d3) a9)) (fun _ _ _ _ _ _=>(m7 (n:=2) rfl (d6 (jn 0 (show (["number", "part"]:List Str).Nodup by decide +kernel)) (d6 (jn 1 (show (["number", "part"]:List Str).Nodup by decide +kernel)) i4)))) (fun _ _ _ _ _ _=>(S7 (jtm B5 (jx (a8 1) d3) i9))) (fun _ _ _ _ _ _=>(e8 (a7 i9 (a7 (a8 0) a9))))) (d4 (B3 (i:=2) [] ["way", "number"] [] sc.nd rfl (Or.inl rfl) rfl (by decide +kernel) rfl (by decide +kernel) (by decide +kernel) rfl a0d a0d (b1l rfl T.b_reversed a0O (a7 (a8 1) a9)) (fun _ _ _ _ _ _=>(m7 (n:=2) rfl (d6 (jn 0 (show (["way", "number"]:List Str).Nodup by decide +kernel)) (d6 (jn 1 (show (["way", "number"]:List Str).Nodup by decide +kernel)) i4)))) (fun _ _ _ _ _ _=>w6) (fun _ _ _ _ _ _=>(e8 (a7 i9 (a7 (a8 1) a9))))) (d4 (jst 3 sc.nd (jc G_lines_of hr (a7 (jc G_round_bench hr (a7 (a8 0) a9)) a9))) (d5 (d8 (b1p [] ["line", "way", "number"] [] rfl (by decide +kernel) rfl (by decide +kernel) (by decide +kernel) rfl a0d a0d (a8l rfl T.b_zip (a7 (N5 (a8 1) (a8 2)) (a7 (a8 3) a9))) (fun _ _ _ _ _ _=>(m7 (n:=2) rfl (d6 (m7 (n:=2) rfl (d6 (jn 1 (show (["line", "way", "number"]:List Str).Nodup by decide +kernel)) (d6 (jn 2 (show (["line", "way", "number"]:List Str).Nodup by decide +kernel)) i4))) (d6 (jn 0 (show (["line", "way", "number"]:List Str).Nodup by decide +kernel)) i4)))) (fun _ _ _ _ _ _=>w6) (fun _ _ _ _ _ _=>(e8 (a7 (a8 1) (a7 (a8 2) (a7 (a8 0) a9))))))))))),?_⟩
  walk_at "sim"
  rw [a3t]
  refine O0 (xs:=bs.zipIdx) (fun x=>x.1.1 == Str.ofString "stop") fwD (by rw [List.length_zipIdx]; omega) (by simp only [m5,A1]) (fun x hx Q N h1 h2=>?_) ?_
  ·walk_at "sim"
   exact ⟨fun e=>h1 (by rw [e]; exact beq_self_eq_true _),fun e=>h2 (beq_eq_false_iff_ne.mpr e)⟩
  ·walk_at "sim"
   rw [show List.filter (fun x:(Str × Rat) × Nat=>x.1.1 == Str.ofString "stop") bs.zipIdx=frW bs from rfl,← List.map_reverse]
   refine A4 (xs:=(frW bs).reverse) (enc:=fwD) bwD (by rw [List.length_reverse]; omega) trivial (fun x hx Q hQ=>?_) ?_
   ·unfold fwD
    walk_at "sim"
    exact hQ
   ·walk_at "sim"
    refine ⟨hl,⟨⟨hs,by omega⟩,hc⟩,Nat.le_trans (by rw [List.length_map,List.length_map,List.length_reverse]; omega) sz1,?_⟩
    rw [b7y near far bs,b6b]
    have zl:=O9 (e9 near bs far) (e9 near bs far).length
    refine A4 (fun z=>hlD z.1 z.2) (by rw [List.length_zip]; omega) (by simp only [m5,and_self]) (fun z hz Q hQ=>?_) ?_
    ·unfold prD
     walk_at "sim"
     exact hQ
    ·rw [b7s]
     exact k
theorem a2z (T:Txt K mg) (d:Df K mg "by_columns" M7 ["first", "second"]):Fn P w K mg base "by_columns" 1 ["first", "second"] a0g:=by
 have sc:=a2o
 refine j4 d sc (by walk_at "len") (fun f cdv A outer s H E ds M R Y hr h=>?_)
 have hu:=hr.units
 obtain ⟨a,b,c,d,rfl,k⟩:=h
 refine ⟨_,(d5 (d8 (e8 (a7 (jx (a8 0) d3) (a7 (jx (a8 1) d3) (a7 (jx (a8 0) d3) (a7 (jx (a8 1) d3) a9))))))),?_⟩
 walk_at "sim"
 exact k
theorem a5C (T:Txt K mg) (d:Df K mg "table_of" V3 ["bench"]) (G_by_columns:Fn P w K mg base "by_columns" 1 ["first", "second"] a0g) (G_led_by_part:Fn P w K mg base "led_by_part" 5 ["part", "ray"] a77):Fn P w K mg base "table_of" 6 ["bench"] b0G:=by
 have sc:=a5n
 refine j4 d sc (by walk_at "len") (fun f cdv A outer s H E ds M R Y hr h=>?_)
 have hu:=hr.units
 obtain ⟨bs,rfl,⟨⟨hz,hl⟩,hc⟩,k⟩:=h
 refine ⟨_,(d4 (jst 1 sc.nd (o8 rfl T.c_LEVEL_RAY)) (d4 (jst 2 sc.nd (o8 rfl T.c_AXIS_RAY)) (d4 (v9 PassesOwn.never rfl (y7 (a8 0)) (jn 3 sc.nd) (d4 (jst 1 sc.nd (jc G_led_by_part hr (a7 (a8 3) (a7 (a8 1) a9)))) (d5 (jst 2 sc.nd (jc G_led_by_part hr (a7 (a8 3) (a7 (a8 2) a9))))))) (d5 (d8 (jc G_by_columns hr (a7 (a8 1) (a7 (a8 2) a9)))))))),?_⟩
 walk_at "sim"
 refine X6.by (fun i e M'=>M'=M∧∃ z:Option D,e=[some _,some (A5 (h8 (bs.take i) (1,0)).1 (h8 (bs.take i) (1,0)).2),some (A5 (h8 (bs.take i) (0,1)).1 (h8 (bs.take i) (0,1)).2),z]) ⟨rfl,_,rfl⟩ (fun i e M' _ _=>by simp only [m5]) ?_ ?_
 ·rintro i dd e M' hd ⟨rfl,z,rfl⟩
  obtain ⟨pt,hpt,rfl⟩:=a3n hd
  have t4:=CD.t4 (hc i)
  have a1:sz (h8 (bs.take i) (1,0)).1≤230:=t4.a
  have a2:sz (h8 (bs.take i) (0,1)).1≤230:=t4.b
  have b1:sz (h8 (bs.take i) (1,0)).2≤230:=t4.c
  have b2:sz (h8 (bs.take i) (0,1)).2≤230:=t4.d
  have q2:=hz pt (List.mem_of_getElem? hpt)
  have o1:=Y8 hpt (1,0)
  have o2:=Y8 hpt (0,1)
  walk_at "sim"
  rw [← o1,← o2]
  exact ⟨by omega,by omega,_,rfl⟩
 ·rw [List.length_map]
  rintro e M' ⟨rfl,z,rfl⟩
  rw [List.take_length]
  walk_at "sim"
  exact k
theorem a5E (T:Txt K mg) (d:Df K mg "round_of" V5 ["hall"]) (G_table_of:Fn P w K mg base "table_of" 6 ["bench"] b0G) (G_round_bench:Fn P w K mg base "round_bench" 2 ["hall"] a1H):Fn P w K mg base "round_of" 7 ["hall"] a3l:=by
 have sc:=a5p
 refine j4 d sc (by walk_at "len") (fun f cdv A outer s H E ds M R Y hr h=>?_)
 have hu:=hr.units
 obtain ⟨x0,near,bs,far,rfl,hx0,hok,k⟩:=h
 have hs:=hok.szs
 have hc:=hok.cd
 have hl:=hok.len
 have hl2:=Z6 near far bs
 rcases hx0 with rfl | rfl
 all_goals
  refine ⟨_,(d5 (d8 (jc G_table_of hr (a7 (jc G_round_bench hr (a7 (a8 0) a9)) a9)))),?_⟩
  walk_at "sim"
  exact ⟨hl,⟨⟨hs,by omega⟩,hc⟩,k⟩
theorem b4k (T:Txt K mg) (d:Df K mg "ever" a6I ["hall", "ray"]) (G_shown_by:Fn P w K mg base "shown_by" 6 ["word", "table", "x", "later"] a1G) (G_kind_word:Fn P w K mg base "kind_word" 6 ["table"] sKw) (G_first_stop:Fn P w K mg base "first_stop" 7 ["table", "numbers", "late"] a6O) (G_late_lines:Fn P w K mg base "late_lines" 7 ["table", "numbers"] a33) (G_first_two:Fn P w K mg base "first_two" 5 ["table", "ray", "lines"] W2) (G_hall_lines:Fn P w K mg base "hall_lines" 7 ["hall"] Y6) (G_round_of:Fn P w K mg base "round_of" 7 ["hall"] a3l):Fn P w K mg base "ever" 8 ["hall", "ray"] a78:=by
 have sc:=b3C
 refine j4 d sc (by walk_at "len") (fun f cdv A outer s H E ds M R Y hr h=>?_)
 have hu:=hr.units
 obtain ⟨x0,near,bs,far,y,u,rfl,hx0,⟨hw,S,cd,hS⟩,k⟩:=h
 have cL:=hw.cd (e9 near bs far).length
 rw [List.take_length] at cL
 have dL:=b6p (e9 near bs far)
 have lsl:=O9 (e9 near bs far) (e9 near bs far).length
 have hl2:=Z6 near far bs
 have hbl:=hw.len
 have hN:=b1u hw cd hS
 have hF:=a7b (near:=near) (far:=far) (bs:=bs) (y:=y) (u:=u)
 have hNl:=a9l near far bs y u
 have hmet:∀ j l,(B6 near bs far y u)[j]? = some l→∃ (w0:D × D) (l0:Rat × Rat × Rat),(hlN (g7 near bs far) (g7 near bs far).length)[j]? = some (hlD w0 l0)∧(D8 (g7 near bs far) (g7 near bs far).length).getD j (.non,.non)=w0:=fun j l hj=>by
  unfold B6 at hj
  rw [List.getElem?_map] at hj
  obtain ⟨l0,hl0,rfl⟩:=Option.map_eq_some_iff.mp hj
  have h1:(B9 ((g7 near bs far).map fun z=>z.2.2) (g7 near bs far).length)[j]? = some l0:=by rw [F1,K7]; exact hl0
  have hj2:=(List.getElem?_eq_some_iff.mp h1).1
  rw [← a3F] at hj2
  refine ⟨(D8 (g7 near bs far) (g7 near bs far).length)[j],l0,?_,?_⟩
  ·unfold hlN
   rw [List.getElem?_zipWith,h1,List.getElem?_eq_getElem hj2]
  ·rw [List.getD_eq_getElem?_getD,List.getElem?_eq_getElem hj2]; rfl
 rcases hx0 with rfl | rfl
 all_goals
  refine ⟨_,(d4 (jst 2 sc.nd (jc G_round_of hr (a7 (a8 0) a9))) (d4 (jst 3 sc.nd (W7 (jc G_hall_lines hr (a7 (a8 0) a9)))) (d4 (jst 4 sc.nd (jc G_first_two hr (a7 (a8 2) (a7 (a8 1) (a7 (G3 [] ["way", "number", "line"] [] rfl (by decide +kernel) rfl (by decide +kernel) (by decide +kernel) rfl a0d a0d (y7 (a8 3)) (fun _ _ _ _ _ _=>(m7 (n:=3) rfl (d6 (jn 0 (show (["way", "number", "line"]:List Str).Nodup by decide +kernel)) (d6 (jn 1 (show (["way", "number", "line"]:List Str).Nodup by decide +kernel)) (d6 (jn 2 (show (["way", "number", "line"]:List Str).Nodup by decide +kernel)) i4))))) (fun _ _ _ _ _ _=>w6) (fun _ _ _ _ _ _=>(a8 2))) a9))))) (d4 (jst 5 sc.nd (jc G_late_lines hr (a7 (a8 2) (a7 (a8 4) a9)))) (d4 (jst 6 sc.nd (jc G_first_stop hr (a7 (a8 2) (a7 (a8 4) (a7 (a8 5) a9))))) (d4 (h9 (jtm a4n (a8 6) K1) (d4 (q9 (a8 6) (m7 (n:=2) rfl (d6 (jn 7 sc.nd) (d6 (jn 8 sc.nd) i4)))) (d5 (d8 (e8 (a7 i9 (a7 (a8 7) (a7 (jx (jx (a8 3) (a8 8)) d3) (a7 (jx (jx (a8 3) (a8 8)) d3) a9)))))))) g6) (d4 (h9 (jtm b1a (y8 U4 rfl T.b_len K2 (a7 (a8 5) a9)) d3) (d5 (d8 (e8 (a7 i9 (a7 (jx (a8 5) d3) a9))))) g6) (d4 (jst 9 sc.nd (jc G_kind_word hr (a7 (a8 2) a9))) (d5 (d8 (e8 (a7 i9 (a7 (G3 [2,9] ["x", "later", "r"] ["table", "word"] rfl (by decide +kernel) rfl (by decide +kernel) (by decide +kernel) rfl (a6b ⟨rfl,rfl⟩ ⟨rfl,rfl⟩) (a6b (Or.inl rfl) (Or.inl rfl)) (y7 (a8 4)) (fun _ _ _ _ _ _=>(m7 (n:=3) rfl (d6 (jn 0 (show (["x", "later", "r", "table", "word"]:List Str).Nodup by decide +kernel)) (d6 (jn 1 (show (["x", "later", "r", "table", "word"]:List Str).Nodup by decide +kernel)) (d6 (jn 2 (show (["x", "later", "r", "table", "word"]:List Str).Nodup by decide +kernel)) i4))))) (fun _ _ _ _ _ _=>w6) (fun _ _ _ _ _ _=>(jc G_shown_by hr (a7 (a8 4) (a7 (a8 3) (a7 (a8 0) (a7 (a8 1) a9))))))) a9))))))))))))),?_⟩
  walk_at "sim"
  refine ⟨hw,hw,fun p hp=>?_⟩
  rw [a3B i8,Z9 hp]
  walk_at "sim"
  rw [a8s]
  refine A4 (fun z=>m8 z.2) (by rw [List.length_zip,K7]; omega) (by simp only [m5]) (fun z hz Q hQ=>?_) ?_
  ·unfold hlD
   walk_at "sim"
   exact hQ
  rw [a8N]
  refine ⟨e9 near bs far,B9 (e9 near bs far) (e9 near bs far).length,rfl,rfl,⟨S,cL,cd,hS,by omega,fun l hl=>(hw.ln cd hS hl).2⟩,?_⟩
  rw [show List.map (F0 (e9 near bs far) y u) (B9 (e9 near bs far) (e9 near bs far).length)=B6 near bs far y u from rfl,← a8s]
  generalize B6 near bs far y u=ls at *
  generalize hlN (g7 near bs far) (g7 near bs far).length=HL at *
  generalize D8 (g7 near bs far) (g7 near bs far).length=WS at *
  refine ⟨_,ls,rfl,rfl,⟨cL,dL,by omega,hN⟩,_,ls,rfl,rfl,rfl,⟨cL,dL,by omega,fun l h=>⟨hN l h,hF l h⟩⟩,fun o ho=>?_⟩
  generalize tbQ (e9 near bs far)=m at *
  cases o with
  | some z =>
   obtain ⟨n,j⟩:=z
   have hk:R (.tup [.str (Str.ofString "stopped"),.int (n:Int),(WS.getD j (.non,.non)).1,(WS.getD j (.non,.non)).2]) M:=k (.stopped n j) ho
   obtain ⟨l,hl5,_⟩:=a0c.mp ho.1
   obtain ⟨w0,l0,e1,e2⟩:=hmet j l hl5
   rw [e2] at hk
   unfold a3h
   rw [a5a rfl]
   walk_at "sim"
   refine ⟨_,p7 (n:=j) e1,?_⟩
   unfold hlD
   walk_at "sim"
   refine ⟨_,p7 (n:=j) e1,?_⟩
   unfold hlD
   walk_at "sim"
   exact hk
  | none =>
   unfold a3h
   rw [a5a rfl]
   walk_at "sim"
   cases e:r9 m ls with
   | cons a u5 =>
    have hk:R (.tup [.str (Str.ofString "late"),.int (a:Int)]) M:=k (.late a) ⟨ho,by rw [e]; rfl⟩
    refine ⟨fun _=>?_,fun h=>absurd (by rw [List.map_cons,List.length_cons]; omega) h⟩
    walk_at "sim"
    exact hk
   | nil =>
    have hk:R (.tup [.str (Str.ofString "never"),.vl ((ls.map (C0 m)).map enD)]) M:=k .never ⟨ho,e⟩
    refine ⟨fun h=>absurd h (by decide),fun _=>⟨m,rfl,cL,?_⟩⟩
    rw [List.map_map] at hk
    refine A4 (xs:=ls) (enc:=m8) (fun l=>enD (C0 m l)) (by omega) (by simp only [m5]) (fun l hl Q hQ=>?_) hk
    walk_at "sim"
    refine ⟨m,l.2.2,rfl,rfl,⟨cL,dL,hN l hl,fun c1 c3 h0=>?_⟩,hQ⟩
    apply Classical.byContradiction
    intro hf
    obtain ⟨j,hj⟩:=List.getElem?_of_mem hl
    have:j∈r9 m ls:=K4.mpr ⟨l,hj,by
     unfold F9
     rw [if_neg c1,if_neg c3,if_pos (by rw [h0]; unfold swQ; grind)]⟩
    rw [e] at this; cases this
theorem a2D (T:Txt K mg) (d:Df K mg "_law_alone" N2 ["hall", "at"]):Fn P w K mg base "_law_alone" 1 ["hall", "at"] a6Q:=by
 have sc:=a2r
 refine j4 d sc (by walk_at "len") (fun f cdv A outer s H E ds M R Y hr h=>?_)
 have hu:=hr.units
 obtain ⟨near,bs,far,a,rfl,⟨hl,ha⟩,k⟩:=h
 refine ⟨_,(d4 (jst 2 sc.nd (a0r a9)) (d4 (v9 PassesOwn.never rfl (Z1 rfl T.b_enumerate (a7 (jx (a8 0) d3) a9)) (m7 (n:=2) rfl (d6 (jn 3 sc.nd) (d6 (jn 4 sc.nd) i4))) (C7 (h9 (a0K (a1Z (jtm B5 (jx (a8 4) d3) i9) (Z4 (jtm (b09 hu) (a8 3) (a8 1))))) (d5 (jst 4 sc.nd (e8 (a7 i9 (a7 (e8 (a7 d3 (a7 d3 a9))) a9))))) g6) (d5 (G2 (a0L PySem.F.slot_list_append PySem.F.type_list_append F4 (a8 2) (a7 (a8 4) a9)))))) (d5 (d8 (Q7 (e8 (a7 (jx (a8 0) d3) (a7 (W7 (a8 2)) (a7 (jx (a8 0) d3) a9))))))))),?_⟩
 walk_at "sim"
 intro p hp
 rw [a3t]
 refine X6.by (fun i e M'=>(∃ z3 z4:Option D,e=[some (D.tup [d7 near,D.vl (List.map f9 bs),d7 far]),some a,some (D.ref p),z3,z4])∧M'=v8 M p (.lst (((bs.zipIdx.take i).map (a0X a)).map f9))) ⟨⟨_,_,rfl⟩,rfl⟩ (fun _ _ _ _ _=>by simp only [m5]) ?_ ?_
 ·rintro i dd e M' hd ⟨⟨z3,z4,rfl⟩,rfl⟩
  rw [List.getElem?_map] at hd
  obtain ⟨z,hz,rfl⟩:=Option.map_eq_some_iff.mp hd
  have hi:=(List.getElem?_eq_some_iff.mp hz).1
  rw [List.length_zipIdx] at hi
  have tk:((bs.zipIdx.take (i+1)).map (a0X a)).map f9=((bs.zipIdx.take i).map (a0X a)).map f9++[f9 (a0X a z)]:=by
   rw [List.take_add_one,hz,List.map_append,List.map_append]; rfl
  walk_at "sim"
  refine X4 (fun e' M'=>e'=[some (D.tup [d7 near,D.vl (List.map f9 bs),d7 far]),some a,some (D.ref p),some (D.int (z.2:Int)),some (f9 (a0X a z))]∧M'=v8 M p (.lst (((bs.zipIdx.take i).map (a0X a)).map f9))) ?_ ?_
  ·have stay:¬ (z.1.1 = "stop" ∧ D.int (z.2:Int)≠a)→a0X a z=z.1:=fun h=>by unfold a0X; rw [if_neg h]
   walk_at "sim"
   refine ⟨fun h1=>⟨ha,fun h2=>?_,fun h2=>?_⟩,fun h1=>?_⟩
   ·unfold a0X; rw [if_pos ⟨h1,h2⟩]; rfl
   ·rw [stay fun h=>h.2 h2]
   ·rw [stay fun h=>h1 h.1]
  ·rintro e' M' ⟨rfl,rfl⟩
   walk_at "sim"
   refine R4 i8 (a0t i8 (by rw [List.length_map,List.length_map,List.length_take,List.length_zipIdx]; omega) ⟨⟨_,_,rfl⟩,?_⟩)
   rw [a1x,tk]
 ·rw [List.length_map]
  rintro e M' ⟨⟨z3,z4,rfl⟩,rfl⟩
  rw [List.take_length]
  walk_at "sim"
  rw [a3B i8,Z9 hp]
  walk_at "sim"
  exact R5 (M2:=M) (fun _ _ h=>h) k
theorem a1Q (T:Txt K mg) (d:Df K mg "_law_scaled" J8 ["ray", "factor"]) (G_times:Fn P w K mg base "times" 3 ["one", "other"] G8):Fn P w K mg base "_law_scaled" 4 ["ray", "factor"] a3Z:=by
 have sc:=a1E
 refine j4 d sc (by walk_at "len") (fun f cdv A outer s H E ds M R Y hr h=>?_)
 have hu:=hr.units
 obtain ⟨y,u,g,rfl,⟨h1,h2⟩,k⟩:=h
 refine ⟨_,(d5 (d8 (e8 (a7 (jc G_times hr (a7 (jx (a8 0) d3) (a7 (a8 1) a9))) (a7 (jc G_times hr (a7 (jx (a8 0) d3) (a7 (a8 1) a9))) a9))))),?_⟩
 walk_at "sim"
 exact ⟨h1,h2,k⟩
theorem a4l (T:Txt K mg) (d:Df K mg "_law_next" Q3 ["pool", "base"]):Fn P w K mg base "_law_next" 1 ["pool", "base"] L4:=by
 have sc:=a3P
 refine j4 d sc (fun ds M R Y h=>?_) (fun f cdv A outer s H E ds M R Y hr h=>?_)
 ·obtain ⟨p,b,rfl,_⟩:=h; rfl
 ·obtain ⟨p,b,rfl,⟨x,y,z,hM⟩,hb,hl,k⟩:=h
  refine ⟨_,(d4 (h9 (jtm b1a (jx (a8 0) d3) d3) (d4 (jst 2 sc.nd (f8 a1T (jx (a8 0) d3) (a8 1))) (d4 (q9 (f8 E4 (jx (a8 0) d3) (a8 1)) (a8m (a8 0) d3)) (d5 (d8 (a8 2))))) g6) (d4 (q9 (f8 E5 (jx (a8 0) d3) d3) (a8m (a8 0) d3)) (d4 (jst 3 sc.nd (f8 a1T (f8 E5 (jx (a8 0) d3) (f8 o6 d3 (jx (a8 0) d3))) d3)) (d4 (jst 4 sc.nd (f8 a1T (f8 o6 (f8 E5 (a8 3) d3) (f8 E5 (a8 3) d3)) d3)) (d5 (d8 (f8 a1T (f8 E4 (f8 a1T (f8 o6 (a8 4) (a8 4)) d3) d3) (a8 1)))))))),?_⟩
  refine ⟨_,rfl,_,S8 hM rfl,_,rfl,_,rfl,?_⟩
  refine a9h (fun h0=>?_) (fun h0=>?_)
  ·refine ⟨_,rfl,_,S8 hM rfl,_,rfl,_,_,rfl,rfl,hb,?_⟩
   refine ⟨_,rfl,_,S8 hM rfl,_,rfl,_,_,rfl,rfl,⟨by omega,hl⟩,_,rfl,_,_,_,_,rfl,rfl,hM,rfl,?_⟩
   exact ⟨_,rfl,k _ _ (Int.emod_nonneg _ (by omega)) (Int.emod_lt_of_pos _ hb) (o7.upd _ _ _)⟩
  ·refine ⟨_,rfl,_,S8 hM rfl,_,rfl,_,rfl,_,_,_,_,rfl,rfl,hM,rfl,?_⟩
   refine ⟨_,rfl,_,S8 i8 rfl,_,rfl,_,S8 i8 rfl,_,_,rfl,rfl,a5O (by decide) (by decide),_,rfl,_,_,rfl,rfl,(by show (0:Int)<1000000007; decide),?_⟩
   refine ⟨_,rfl,_,rfl,_,rfl,_,rfl,_,_,rfl,rfl,c0A (by decide) (by decide) (by decide) (by decide),_,_,rfl,rfl,(by show (0:Int)<998244353; decide),?_⟩
   refine ⟨_,rfl,_,rfl,_,_,rfl,rfl,b9t (by decide) (by decide),_,_,rfl,rfl,(by show (0:Int)<2147483647; decide),_,_,rfl,rfl,c0S,_,rfl,_,_,rfl,rfl,hb,?_⟩
   exact k _ _ (Int.emod_nonneg _ (by omega)) (Int.emod_lt_of_pos _ hb) (o7.upd _ _ _)
theorem a2x (T:Txt K mg) (d:Df K mg "floor_root" L9 ["number"]):Fn P w K mg base "floor_root" 1 ["number"] a0D:=by
 have sc:=a2m
 refine j4 d sc (fun ds M R Y h=>?_) (fun f cdv A outer s H E ds M R Y hr h=>?_)
 ·obtain ⟨n,rfl,_⟩:=h; rfl
 ·obtain ⟨n,rfl,hl,k⟩:=h
  refine ⟨_,(d4 (h9 (jtm a0I (a8 0) d3) (d5 (d8 d3)) g6) (d4 (jst 1 sc.nd d3) (d4 (v9 PassesOwn.never rfl (S6 rfl T.b_range (a7 (f8 E4 (f8 E5 (b4v (a8 0)) d3) d3) a9)) (jn 2 sc.nd) (d5 (jst 1 sc.nd (f8 o6 (a8 1) d3)))) (d4 (jst 3 sc.nd (f8 E4 (f8 E5 (a8 1) (f8 E4 (a8 0) (a8 1))) d3)) (d4 (a3r PassesOwn.never (jtm a2E (a8 3) (a8 1)) (d4 (jst 1 sc.nd (a8 3)) (d5 (jst 3 sc.nd (f8 E4 (f8 E5 (a8 1) (f8 E4 (a8 0) (a8 1))) d3))))) (d5 (d8 (a8 1)))))))),?_⟩
  refine ⟨_,rfl,_,rfl,_,rfl,?_⟩
  refine a9h (fun h0=>?_) (fun h0=>?_)
  ·have hn:n=0:=by omega
   subst hn
   exact k 0 (by decide) (by decide)
  ·have hn:0<n:=by omega
   have hlt:=S5 hl
   have hbe:Builtin.Int.intBits (n:Int)=n.log2+1:=by
    unfold Builtin.Int.intBits
    rw [if_neg (by first | omega | simp; omega)]
    simp
   have e2:(((Builtin.Int.intBits (n:Int):Nat):Int)+1).fdiv 2=(((n.log2+2) / 2:Nat):Int):=by
    rw [hbe,I0 (by omega) (by decide)]; omega
   refine ⟨_,rfl,_,rfl,_,rfl,_,_,rfl,rfl,b8d,_,rfl,by rw [e2]; omega,by rw [e2]; omega,?_⟩
   refine ⟨fun i e M'=>M'=M∧∃ t:Option D,e=[some (.int n),some (.int ((2 ^ i:Nat):Int)),t,none],⟨rfl,none,rfl⟩,fun _ _ _ _ _=>trivial,?_,?_⟩
   ·rintro i dd e M' hd ⟨rfl,t,rfl⟩
    have e:(((2 ^ i:Nat):Int)*2)=((2 ^ (i+1):Nat):Int):=by rw [Nat.pow_succ]; omega
    exact ⟨_,rfl,_,_,rfl,rfl,b9u (by decide) (by decide),rfl,some dd,by rw [← e]; rfl⟩
   ·rw [j7,e2,Int.toNat_natCast]
    rintro e M' ⟨rfl,t,rfl⟩
    have hg0:0<2 ^ ((n.log2+2) / 2):=Nat.two_pow_pos _
    have hgn:n<2 ^ ((n.log2+2) / 2)*2 ^ ((n.log2+2) / 2):=by
     rw [← Nat.pow_add]
     refine Nat.lt_of_lt_of_le (Nat.lt_log2_self) (Nat.pow_le_pow_right (by decide) (by omega))
    have hgs:Sml (2 ^ ((n.log2+2) / 2)):=Sml.pow (by omega)
    generalize 2 ^ ((n.log2+2) / 2)=g at hg0 hgn hgs
    have cf:∀ {g:Nat},0<g→Sml g→CFd (n:Int) (g:Int):=fun h1 h2=>⟨by omega,by rw [Int.natAbs_natCast]; exact h2.log⟩
    have ev:∀ g:Nat,((g:Int)+(n:Int).fdiv (g:Int)).fdiv 2=(((g+n / g) / 2:Nat):Int):=fun g=>by
     rw [I0 (Int.natCast_nonneg _) (Int.natCast_nonneg _),I0 (by have:=Int.natCast_nonneg (g+n / g); exact_mod_cast this) (by decide)]; norm_cast
    refine ⟨_,rfl,_,rfl,_,rfl,_,_,rfl,rfl,cf hg0 hgs,_,rfl,_,_,rfl,rfl,b8d,?_⟩
    refine ⟨fun m e M''=>M''=M'∧∃ t:Option D,e=[some (.int n),some (.int (m:Int)),t,some (.int (((m+n / m) / 2:Nat):Int))]∧0<m∧Sml m∧n<(m+1)*(m+1),⟨g,rfl,t,by rw [← ev]; rfl,hg0,hgs,by
     have:g*g≤(g+1)*(g+1):=Nat.mul_le_mul (by omega) (by omega)
     omega⟩,?_⟩
    rintro m e M'' ⟨rfl,t,rfl,hm0,hms,hmn⟩
    refine ⟨_,rfl,_,rfl,_,rfl,_,rfl,?_⟩
    refine a9h (fun h1=>?_) (fun h1=>?_)
    ·have hb:(m+n / m) / 2<m:=by exact_mod_cast h1
     have hb0:0<(m+n / m) / 2:=by
      rcases Nat.lt_or_ge 1 m with z | z
      ·generalize n / m=y
       omega
      ·have hm1:m=1:=by omega
       subst hm1
       rw [Nat.div_one]
       omega
     refine ⟨_,rfl,_,rfl,_,rfl,_,rfl,_,_,rfl,rfl,cf hb0 (hms.mono (Nat.le_of_lt hb)),_,rfl,_,_,rfl,rfl,b8d,?_⟩
     exact ⟨_,hb,rfl,t,by rw [← ev ((m+n / m) / 2)]; rfl,hb0,hms.mono (Nat.le_of_lt hb),b7g hm0⟩
    ·refine ⟨_,rfl,?_⟩
     exact k m (a60 hm0 (fun z=>h1 (by exact_mod_cast z))) hmn
theorem b4f (T:Txt K mg) (d:Df K mg "root" a6E ["one"]) (G_floor_root:Fn P w K mg base "floor_root" 1 ["number"] a0D):Fn P w K mg base "root" 2 ["one"] a6w:=by
 have sc:=b3y
 refine j4 d sc (fun ds M R Y h=>?_) (fun f cdv A outer s H E ds M R Y hr h=>?_)
 ·obtain ⟨q,rfl,_⟩:=h; rfl
 ·obtain ⟨q,rfl,hz,k⟩:=h
  have hu:=hr.units
  obtain ⟨hl1,hl2⟩:=b6u hz
  refine ⟨_,(d4 (h9 (jtm a2E (jx (a8 0) d3) d3) (d5 (d8 K1)) g6) (d4 (jst 1 sc.nd (jc G_floor_root hr (a7 (jx (a8 0) d3) a9))) (d4 (jst 2 sc.nd (jc G_floor_root hr (a7 (jx (a8 0) d3) a9))) (d4 (h9 (a0K (a8o (jtm a5L (f8 o6 (a8 1) (a8 1)) (jx (a8 0) d3)) (a68 (jtm a5L (f8 o6 (a8 2) (a8 2)) (jx (a8 0) d3))))) (d5 (d8 K1)) g6) (d5 (d8 (e8 (a7 (a8 1) (a7 (a8 2) a9))))))))),?_⟩
  refine ⟨_,rfl,_,rfl,_,rfl,_,rfl,?_⟩
  refine a9h (fun h0=>?_) (fun h0=>?_)
  ·refine k .non (.inr ⟨fun r hr=>?_,rfl⟩)
   have:=(a1K hr).2.2
   omega
  ·have en:q.num=((q.num.natAbs:Nat):Int):=by omega
   refine ⟨_,rfl,_,rfl,q.num.natAbs,by rw [← en]; rfl,hl1,fun s h1 h2=>?_⟩
   refine ⟨_,rfl,_,rfl,q.den,rfl,hl2,fun t h3 h4=>?_⟩
   have hs:s<2 ^ 4000:=Nat.lt_of_le_of_lt (Nat.le_trans (Nat.le_mul_self s) h1) (S5 hl1)
   have ht:t<2 ^ 4000:=Nat.lt_of_le_of_lt (Nat.le_trans (Nat.le_mul_self t) h3) (S5 hl2)
   have m1:IntMulOk (s:Int) (s:Int):=A2 4000 4000 (by rw [Int.natAbs_natCast]; exact hs) (by rw [Int.natAbs_natCast]; exact hs) (by decide)
   have m2:IntMulOk (t:Int) (t:Int):=A2 4000 4000 (by rw [Int.natAbs_natCast]; exact ht) (by rw [Int.natAbs_natCast]; exact ht) (by decide)
   have no:(¬ (s:Int)*(s:Int)=q.num ∨ ¬ (t:Int)*(t:Int)=(q.den:Int))→R .non M:=fun hno=>k .non (.inr ⟨fun r hr=>by
    obtain ⟨⟨a,ha⟩,⟨b,hb⟩,hq⟩:=a1K hr
    have e1:=a3i h1 h2 ha
    have e2:=a3i h3 h4 hb
    subst e1; subst e2
    rcases hno with z | z
    ·apply z; rw [en,← ha]; norm_cast
    ·apply z; rw [← hb]; norm_cast,rfl⟩)
   refine ⟨_,rfl,_,rfl,_,_,rfl,rfl,m1,_,rfl,_,rfl,_,rfl,_,rfl,?_⟩
   refine b1r (fun h5=>?_) (fun h5=>?_)
   ·exact no (.inl h5)
   ·refine ⟨_,rfl,_,rfl,_,_,rfl,rfl,m2,_,rfl,_,rfl,_,rfl,_,rfl,?_⟩
    refine b1r (fun h6=>?_) (fun h6=>?_)
    ·exact no (.inr h6)
    ·refine ⟨_,rfl,_,rfl,sl 2,?_⟩
     obtain ⟨r,r0,r1,r2,r3⟩:=a86 (q:=q) h5 (by exact_mod_cast h6)
     refine k _ (.inl ⟨r,r0,r1,?_⟩)
     unfold d7; rw [r2,r3]
theorem a4f (T:Txt K mg) (d:Df K mg "shrinking" P6 ["t"]) (G_over:Fn P w K mg base "over" 3 ["one", "other"] a0e) (G_minus:Fn P w K mg base "minus" 4 ["one", "other"] E7) (G_less:Fn P w K mg base "less" 1 ["one", "other"] a0f) (G_opposite:Fn P w K mg base "opposite" 1 ["one"] a3j) (G_root:Fn P w K mg base "root" 2 ["one"] a6w) (G_times:Fn P w K mg base "times" 3 ["one", "other"] G8):Fn P w K mg base "shrinking" 5 ["t"] b6A:=by
 have sc:=a3J
 refine j4 d sc (by walk_at "len") (fun f cdv A outer s H E ds M R Y hr h=>?_)
 have hu:=hr.units
 obtain ⟨t,rfl,ht,k⟩:=h
 have z1:=RM.D7 t t
 have z4:sz 4≤3:=by decide +kernel
 have z5:=RM.U7 (t*t) 4
 have z0:=RM.E6
 refine ⟨_,(d4 (jst 1 sc.nd (jc G_root hr (a7 (jc G_minus hr (a7 (jc G_times hr (a7 (a8 0) (a7 (a8 0) a9))) (a7 (o8 rfl T.c_FOUR) a9))) a9))) (d4 (h9 (jtm c0y (a8 1) K1) (d5 (d8 K1)) g6) (d4 (h9 (N4 (jc G_less hr (a7 (a8 0) (a7 (o8 rfl T.c_NOUGHT) a9)))) (d5 (jst 1 sc.nd (jc G_opposite hr (a7 (a8 1) a9)))) g6) (d5 (d8 (jc G_over hr (a7 (jc G_minus hr (a7 (a8 0) (a7 (a8 1) a9))) (a7 (o8 rfl T.c_TWO) a9)))))))),?_⟩
 walk_at "sim"
 refine ⟨by omega,by omega,by omega,?_⟩
 rintro v (⟨r,r0,r1,rfl⟩ | ⟨r1,rfl⟩)
 ·have zr:sz r≤470:=Nat.le_trans (b3t r1) (by omega)
  rw [a5a rfl]
  have z2:sz 2≤2:=by decide +kernel
  have z6:=RM.U7 t r
  have z7:=RM.U7 t (-r)
  have z8:=RM.L3 r
  walk_at "sim"
  refine ⟨by omega,fun e=>⟨by omega,by decide,by omega,k _ (.inl ⟨r,r0,r1,?_⟩)⟩,fun e=>⟨by omega,by decide,by omega,k _ (.inl ⟨r,r0,r1,?_⟩)⟩⟩
  ·rw [if_pos e]
  ·rw [if_neg e]
 ·rw [a5a rfl]
  walk_at "sim"
  exact k _ (.inr ⟨r1,rfl⟩)
theorem a4g (T:Txt K mg) (d:Df K mg "ray_along" P7 ["table"]) (G_minus:Fn P w K mg base "minus" 4 ["one", "other"] E7) (G_over:Fn P w K mg base "over" 3 ["one", "other"] a0e) (G_t_of:Fn P w K mg base "t_of" 4 ["table"] a3X):Fn P w K mg base "ray_along" 5 ["table"] a6P:=by
 have sc:=a3K
 refine j4 d sc (by walk_at "len") (fun f cdv A outer s H E ds M R Y hr h=>?_)
 have hu:=hr.units
 obtain ⟨x,rfl,⟨a,b,c,d⟩,hx,cd,k⟩:=h
 have hx':x=a0S a b c d:=hx
 subst hx'
 have t4:=CD.t4 cd
 have h1:sz a≤230:=t4.a
 have ht:sz (trQ (a,b,c,d))≤231:=CD.tr cd
 have z2:sz 2≤2:=by decide +kernel
 have z3:=RM.U9 (trQ (a,b,c,d)) 2 (by decide)
 refine ⟨_,(d4 (q9 (a8 0) (m7 (n:=4) rfl (d6 (jn 1 sc.nd) (d6 (jn 2 sc.nd) (d6 (jn 3 sc.nd) (d6 (jn 4 sc.nd) i4)))))) (d4 (h9 (jtm (U1 hu) (a8 2) (o8 rfl T.c_NOUGHT)) (d5 (d8 (o8 rfl T.c_AXIS_RAY))) g6) (d5 (d8 (e8 (a7 (a8 2) (a7 (jc G_minus hr (a7 (jc G_over hr (a7 (jc G_t_of hr (a7 (a8 0) a9)) (a7 (o8 rfl T.c_TWO) a9))) (a7 (a8 1) a9))) a9))))))),?_⟩
 walk_at "sim"
 unfold a4D at k
 refine ⟨fun e=>?_,fun e=>⟨(a,b,c,d),rfl,cd,by decide,by omega,by omega,?_⟩⟩
 ·rw [if_pos e] at k; exact k
 ·rw [if_neg e] at k; exact k
theorem a6X (T:Txt K mg) (d:Df K mg "form_of" a0k ["table"]) (G_opposite:Fn P w K mg base "opposite" 1 ["one"] a3j) (G_minus:Fn P w K mg base "minus" 4 ["one", "other"] E7):Fn P w K mg base "form_of" 5 ["table"] a35:=by
 have sc:=a6A
 refine j4 d sc (by walk_at "len") (fun f cdv A outer s H E ds M R Y hr h=>?_)
 have hu:=hr.units
 obtain ⟨x,rfl,⟨a,b,c,d⟩,hx,cd,k⟩:=h
 have hx':x=a0S a b c d:=hx
 subst hx'
 have t4:=CD.t4 cd
 have h1:sz a≤230:=t4.a
 have h4:sz d≤230:=t4.d
 refine ⟨_,(d4 (q9 (a8 0) (m7 (n:=4) rfl (d6 (jn 1 sc.nd) (d6 (jn 2 sc.nd) (d6 (jn 3 sc.nd) (d6 (jn 4 sc.nd) i4)))))) (d5 (d8 (e8 (a7 (a8 3) (a7 (jc G_minus hr (a7 (a8 4) (a7 (a8 1) a9))) (a7 (jc G_opposite hr (a7 (a8 2) a9)) a9))))))),?_⟩
 walk_at "sim"
 exact ⟨by omega,k⟩
theorem b4j (T:Txt K mg) (d:Df K mg "kind" a6H ["hall"]) (G_shrinking:Fn P w K mg base "shrinking" 5 ["t"] b6A) (G_t_of:Fn P w K mg base "t_of" 4 ["table"] a3X) (G_ray_along:Fn P w K mg base "ray_along" 5 ["table"] a6P) (G_form_of:Fn P w K mg base "form_of" 5 ["table"] a35) (G_rounds_to_self:Fn P w K mg base "rounds_to_self" 5 ["table"] a85) (G_kind_word:Fn P w K mg base "kind_word" 6 ["table"] sKw) (G_round_of:Fn P w K mg base "round_of" 7 ["hall"] a3l):Fn P w K mg base "kind" 8 ["hall"] a34:=by
 have sc:=b3B
 refine j4 d sc (by walk_at "len") (fun f cdv A outer s H E ds M R Y hr h=>?_)
 have hu:=hr.units
 obtain ⟨x0,near,bs,far,rfl,hx0,hok,k⟩:=h
 have cd:=hok.cd (e9 near bs far).length
 rw [List.take_length] at cd
 rcases hx0 with rfl | rfl
 all_goals
  refine ⟨_,(d4 (jst 1 sc.nd (jc G_round_of hr (a7 (a8 0) a9))) (d4 (jst 2 sc.nd (jc G_kind_word hr (a7 (a8 1) a9))) (d4 (h9 (jtm B5 (a8 2) i9) (d5 (d8 (e8 (a7 (a8 2) (a7 (jc G_rounds_to_self hr (a7 (a8 1) a9)) a9))))) g6) (d4 (h9 (jtm B5 (a8 2) i9) (d5 (d8 (e8 (a7 (a8 2) (a7 (jc G_form_of hr (a7 (a8 1) a9)) a9))))) g6) (d4 (h9 (jtm B5 (a8 2) i9) (d5 (d8 (e8 (a7 (a8 2) (a7 (jc G_ray_along hr (a7 (a8 1) a9)) a9))))) g6) (d5 (d8 (e8 (a7 (a8 2) (a7 (jc G_shrinking hr (a7 (jc G_t_of hr (a7 (a8 1) a9)) a9)) a9)))))))))),?_⟩
  walk_at "sim"
  refine ⟨hok.w,?_⟩
  generalize tbQ (e9 near bs far)=m at *
  refine ⟨m,rfl,cd,fun e=>⟨m,rfl,cd,k _ (.inl ⟨e,rfl⟩)⟩,fun e=>⟨fun e2=>⟨m,rfl,cd,k _ (.inr (.inl ⟨e2,rfl⟩))⟩,fun e2=>⟨fun e3=>⟨m,rfl,cd,k _ (.inr (.inr (.inl ⟨e3,rfl⟩)))⟩,fun e3=>⟨m,rfl,cd,CD.tr cd,fun v hv=>k _ (.inr (.inr (.inr ⟨?_,hv⟩)))⟩⟩⟩⟩
  unfold kwS at e e2 e3 ⊢
  by_cases h1:u7 m
  ·rw [if_pos h1] at e; exact absurd rfl e
  ·rw [if_neg h1] at e2 e3 ⊢
   by_cases h2:f7 (trQ m)=2
   ·rw [if_pos h2] at e3; exact absurd rfl e3
   ·rw [if_neg h2] at e2 ⊢
    by_cases h3:f7 (trQ m)<2
    ·rw [if_pos h3] at e2; exact absurd rfl e2
    ·rw [if_neg h3]
theorem a2C (T:Txt K mg) (d:Df K mg "_law_along" M9 ["hall", "other"]) (G_minus:Fn P w K mg base "minus" 4 ["one", "other"] E7) (G_over:Fn P w K mg base "over" 3 ["one", "other"] a0e) (G_kind:Fn P w K mg base "kind" 8 ["hall"] a34) (G_round_of:Fn P w K mg base "round_of" 7 ["hall"] a3l):Fn P w K mg base "_law_along" 9 ["hall", "other"] a36:=by
 have sc:=a2q
 refine j4 d sc (by walk_at "len") (fun f cdv A outer s H E ds M R Y hr h=>?_)
 have hu:=hr.units
 obtain ⟨near,bs,far,b,rfl,hok,k⟩:=h
 have cL:=hok.cd (e9 near bs far).length
 rw [List.take_length] at cL
 have zt:sz (trQ (tbQ (e9 near bs far)))≤231:=CD.tr cL
 refine ⟨_,(d4 (q9 (jc G_round_of hr (a7 (a8 0) a9)) (m7 (n:=4) rfl (d6 (jn 2 sc.nd) (d6 (jn 3 sc.nd) (d6 (jn 4 sc.nd) (d6 (jn 5 sc.nd) i4)))))) (d4 (jst 6 sc.nd (jc G_kind hr (a7 (a8 0) a9))) (d4 (jst 7 sc.nd (e8 (a7 d3 (a7 d3 a9)))) (C7 (h9 (jtm a2E (f8 E5 (f8 o6 (jx (a8 2) d3) (jx (a8 5) d3)) (f8 o6 (jx (a8 5) d3) (jx (a8 2) d3))) d3) (d5 (jst 7 sc.nd (e8 (a7 (y3 d3) (a7 d3 a9))))) g6) (C7 (h9 (a0K (a1Z (jtm B5 (jx (a8 6) d3) i9) (Z4 (jtm a4n (jx (a8 6) d3) K1)))) (d4 (jst 7 sc.nd (jx (a8 6) d3)) (d5 (h9 (N4 (a8 1)) (d5 (jst 7 sc.nd (jc G_over hr (a7 (e8 (a7 d3 (a7 d3 a9))) (a7 (a8 7) a9))))) g6))) g6) (d4 (jst 8 sc.nd (e8 (a7 (a8 3) (a7 (jc G_minus hr (a7 (a8 7) (a7 (a8 2) a9))) a9)))) (C7 (h9 (jtm (U1 hu) (a8 8) (e8 (a7 (e8 (a7 d3 (a7 d3 a9))) (a7 (e8 (a7 d3 (a7 d3 a9))) a9)))) (d5 (jst 8 sc.nd (e8 (a7 (jc G_minus hr (a7 (a8 5) (a7 (a8 7) a9))) (a7 (jc G_minus hr (a7 (e8 (a7 d3 (a7 d3 a9))) (a7 (a8 4) a9))) a9))))) g6) (d5 (d8 (a8 8)))))))))),?_⟩
 walk_at "sim"
 refine ⟨hok.w,?_⟩
 generalize hm:tbQ (e9 near bs far)=m at *
 obtain ⟨a,b',c,d'⟩:=m
 have t4:=CD.t4 cL
 have za:sz a≤230:=t4.a
 have zb:sz b'≤230:=t4.b
 have zc:sz c≤230:=t4.c
 have zd:sz d'≤230:=t4.d
 rw [show A0 (a,b',c,d')=a0S a b' c d' from rfl]
 walk_at "sim"
 rw [hm]
 refine ⟨hok,fun v hv=>?_⟩
 refine X4 (fun e' M'=>M=M'∧∃ q:Rat,e'=[some (D.tup [d7 near,D.vl (List.map f9 bs),d7 far]),some (D.bl b),some (d7 a),some (d7 b'),some (d7 c),some (d7 d'),some (D.tup [D.str (kwS (a,b',c,d')),v]),some (d7 q),none]∧sz q≤232) ?_ ?_
 ·walk_at "sim"
  exact ⟨mND (q:=a) (r:=d') (by omega),mND (q:=d') (r:=a) (by omega),fun _=>⟨-1,rfl,by rw [RM.L3,RM.U8]; decide⟩,fun _=>⟨1,rfl,by rw [RM.U8]; decide⟩⟩
 ·rintro e' M' ⟨rfl,q,rfl,hq⟩
  refine X4 (fun e' M'=>M=M'∧∃ q:Rat,e'=[some (D.tup [d7 near,D.vl (List.map f9 bs),d7 far]),some (D.bl b),some (d7 a),some (d7 b'),some (d7 c),some (d7 d'),some (D.tup [D.str (kwS (a,b',c,d')),v]),some (d7 q),none]∧sz q≤232) ?_ ?_
  ·walk_at "sim"
   refine ⟨fun hoff=>?_,fun _=>⟨q,rfl,hq⟩⟩
   obtain ⟨c1,c2⟩:¬ f7 (trQ (a,b',c,d'))<2∧¬ f7 (trQ (a,b',c,d'))=2:=by
    rcases K5 (a,b',c,d') with ⟨_,e⟩ | ⟨_,_,e⟩ | ⟨_,_,_,e⟩ | ⟨_,c2,c3,e⟩
    ·rw [e] at hoff; exact absurd hoff (by decide)
    ·rw [e] at hoff; exact absurd hoff (by decide)
    ·rw [e] at hoff; exact absurd hoff (by decide)
    ·exact ⟨c3,c2⟩
   have hsh:a6g (trQ (a,b',c,d')) v:=by
    rcases hv with ⟨e,_⟩ | ⟨e,_⟩ | ⟨e,_⟩ | ⟨_,h⟩
    ·rw [e] at hoff; exact absurd hoff (by decide)
    ·rw [e] at hoff; exact absurd hoff (by decide)
    ·rw [e] at hoff; exact absurd hoff (by decide)
    ·exact h
   have hv2:(∃ x:Rat,v=d7 x)∨v = .non:=by
    rcases hsh with ⟨r,_,_,e⟩ | ⟨_,e⟩
    ·exact .inl ⟨_,e⟩
    ·exact .inr e
   rcases hv2 with ⟨x,rfl⟩ | rfl
   ·obtain ⟨x0,xz⟩:=b6w c1 c2 hsh
    have xi:=RM.U9 1 x x0
    have s1:sz (1:Rat)=1:=RM.U8
    rw [a5a rfl]
    walk_at "sim"
    exact ⟨fun _=>⟨x0,by omega,_,rfl,by omega⟩,fun _=>⟨_,rfl,by omega⟩⟩
   ·rw [a5a rfl]
    walk_at "sim"
    exact ⟨q,rfl,hq⟩
  ·rintro e' M' ⟨rfl,q,rfl,hq⟩
   walk_at "sim"
   have z1:=RM.U7 q a
   have z2:=RM.U7 d' q
   have z3:=RM.U7 0 c
   have s0:sz (0:Rat)≤1:=by rw [RM.E6]; decide
   refine ⟨by omega,?_⟩
   refine X4 (fun e' M'=>M=M'∧∃ (y u:Rat) (z0 z1 z2 z3 z4 z5 z6 z7:Option D),e'=[z0,z1,z2,z3,z4,z5,z6,z7,some (A5 y u)]∧(sz y≤463∧sz u≤463∧sz y+sz u≤700)) ?_ ?_
   ·walk_at "sim"
    exact ⟨fun _=>⟨by omega,by omega,d' - q,0 - c,_,_,_,_,_,_,_,_,rfl,by omega,by omega,by omega⟩,fun _=>⟨b',q - a,_,_,_,_,_,_,_,_,rfl,by omega,by omega,by omega⟩⟩
   ·rintro e' M' ⟨rfl,y,u,z0,z1,z2,z3,z4,z5,z6,z7,rfl,hz⟩
    walk_at "sim"
    exact k y u hz
theorem a0p (T:Txt K mg) (d:Df K mg "_law_ratio" E8 ["pool", "tops", "bottoms"]) (G_ratio:Fn P w K mg base "ratio" 2 ["top", "bottom"] T9) (G__law_next:Fn P w K mg base "_law_next" 1 ["pool", "base"] L4):Fn P w K mg base "_law_ratio" 3 ["pool", "tops", "bottoms"] a6L:=by
 have sc:=U0
 refine j4 d sc (by walk_at "len") (fun f cdv A outer s H E ds M R Y hr h=>?_)
 have hu:=hr.units
 obtain ⟨p,x,y,rfl,hp,ts,bs,P,rfl,rfl,⟨⟨t0,t1⟩,⟨b0,b1⟩,hb,hP⟩,k⟩:=h
 refine ⟨_,(d5 (d8 (jc G_ratio hr (a7 (jx (a8 1) (jc G__law_next hr (a7 (a8 0) (a7 (y8 U4 rfl T.b_len K2 (a7 (a8 1) a9)) a9)))) (a7 (jx (a8 2) (jc G__law_next hr (a7 (a8 0) (a7 (y8 U4 rfl T.b_len K2 (a7 (a8 2) a9)) a9)))) a9))))),?_⟩
 walk_at "sim"
 have e1:(ts.map D.int).length=ts.length:=List.length_map ..
 have e2:(bs.map D.int).length=bs.length:=List.length_map ..
 refine ⟨hp,by omega,lg9 (by omega),fun r M1 r0 r1 s1=>N6 r0 r1 fun d hd=>⟨s1.pool,by omega,lg9 (by omega),fun r' M2 r0' r1' s2=>N6 r0' r1' fun d' hd'=>?_⟩⟩
 obtain ⟨t,ht,rfl⟩:=List.mem_map.mp hd
 obtain ⟨b,hb',rfl⟩:=List.mem_map.mp hd'
 have hb2:=hb b hb'
 exact ⟨_,_,rfl,by omega,Nat.lt_of_lt_of_le (F8 hb2.2 (by decide)) (by decide),k _ _ (hP t ht b hb') (s1.trans s2)⟩
theorem a2B (T:Txt K mg) (d:Df K mg "_law_ratio" E8 ["pool", "tops", "bottoms"]) (G_ratio:Fn P w K mg base "ratio" 2 ["top", "bottom"] T9) (G__law_next:Fn P w K mg base "_law_next" 1 ["pool", "base"] L4):Fn P w K mg base "_law_ratio" 3 ["pool", "tops", "bottoms"] a1I:=by
 have sc:=U0
 refine j4 d sc (by walk_at "len") (fun f cdv A outer s H E ds M R Y hr h=>?_)
 have hu:=hr.units
 obtain ⟨p,x,y,rfl,hp,ts,bs,P,rfl,rfl,⟨⟨t0,t1⟩,⟨b0,b1⟩,hb,hP⟩,k⟩:=h
 refine ⟨_,(d5 (d8 (jc G_ratio hr (a7 (jx (a8 1) (jc G__law_next hr (a7 (a8 0) (a7 (y8 U4 rfl T.b_len K2 (a7 (a8 1) a9)) a9)))) (a7 (jx (a8 2) (jc G__law_next hr (a7 (a8 0) (a7 (y8 U4 rfl T.b_len K2 (a7 (a8 2) a9)) a9)))) a9))))),?_⟩
 walk_at "sim"
 have e1:(ts.map D.int).length=ts.length:=List.length_map ..
 have e2:(bs.map D.int).length=bs.length:=List.length_map ..
 refine ⟨hp,by omega,lg9 (by omega),fun r M1 r0 r1 s1=>N6 r0 r1 fun d hd=>⟨s1.pool,by omega,lg9 (by omega),fun r' M2 r0' r1' s2=>N6 r0' r1' fun d' hd'=>?_⟩⟩
 obtain ⟨t,ht,rfl⟩:=List.mem_map.mp hd
 obtain ⟨b,hb',rfl⟩:=List.mem_map.mp hd'
 have hb2:=hb b hb'
 exact ⟨_,_,rfl,by omega,lg9 (by omega),k _ _ (hP t ht b hb') (s1.trans s2)⟩
theorem a5J (T:Txt K mg) (d:Df K mg "_law_ray" W1 ["pool", "hall"]) (G__law_scaled:Fn P w K mg base "_law_scaled" 4 ["ray", "factor"] a3Z) (G_plus:Fn P w K mg base "plus" 3 ["one", "other"] P4) (G__law_next:Fn P w K mg base "_law_next" 1 ["pool", "base"] L4) (G__law_along:Fn P w K mg base "_law_along" 9 ["hall", "other"] a36) (G__law_ratio__2:Fn P w K mg base "_law_ratio" 3 ["pool", "tops", "bottoms"] a6L) (G__law_ratio:Fn P w K mg base "_law_ratio" 3 ["pool", "tops", "bottoms"] a1I):Fn P w K mg base "_law_ray" 10 ["pool", "hall"] b0I:=by
 have sc:=a5u
 refine j4 d sc (by walk_at "len") (fun f cdv A outer s H E ds M R Y hr h=>?_)
 have hu:=hr.units
 obtain ⟨p,near,bs,far,rfl,hp,hok,k⟩:=h
 have e18:(10:Int) ^ Int.toNat 18=1000000000000000000:=by decide
 have e20:(10:Int) ^ Int.toNat 20=100000000000000000000:=by decide
 have e25:(10:Int) ^ Int.toNat 25=10000000000000000000000000:=by decide
 have e40:(10:Int) ^ Int.toNat 40=10000000000000000000000000000000000000000:=by decide
 refine ⟨_,(d4 (jst 2 sc.nd (jc G__law_next hr (a7 (a8 0) (a7 d3 a9)))) (d4 (jst 3 sc.nd (e8 (a7 (jc G__law_ratio hr (a7 (a8 0) (a7 (m3 (a7 d3 (a7 d3 (a7 (y3 d3) (a7 d3 (a7 (y3 d3) (a7 d3 (a7 d3 a9)))))))) (a7 (m3 (a7 d3 (a7 d3 (a7 d3 (a7 d3 a9))))) a9)))) (a7 (jc G__law_ratio hr (a7 (a8 0) (a7 (m3 (a7 d3 (a7 d3 (a7 d3 (a7 (y3 d3) (a7 d3 (a7 (y3 d3) a9))))))) (a7 (m3 (a7 d3 (a7 d3 (a7 d3 a9)))) a9)))) a9)))) (d4 (jst 4 sc.nd (jc G__law_ratio__2 hr (a7 (a8 0) (a7 (m3 (a7 d3 (a7 (y3 d3) (a7 d3 (a7 d3 (a7 d3 (a7 d3 a9))))))) (a7 (m3 (a7 d3 (a7 d3 (a7 d3 (a7 d3 (a7 d3 (a7 d3 (a7 (f8 a0H d3 d3) (a7 (f8 a0H d3 d3) a9))))))))) a9))))) (d4 (h9 (jtm a0I (a8 2) d3) (d5 (d8 (e8 (a7 (e8 (a7 d3 (a7 d3 a9))) (a7 (e8 (a7 d3 (a7 d3 a9))) a9))))) g6) (d4 (h9 (jtm a2E (a8 2) d3) (d5 (d8 (jc G__law_scaled hr (a7 (jc G__law_along hr (a7 (a8 1) (a7 (jm a0I (a8 2) d3) a9))) (a7 (a8 4) a9))))) g6) (d4 (h9 (jtm a2E (a8 2) d3) (d4 (jst 5 sc.nd (jc G__law_along hr (a7 (a8 1) (a7 Z3 a9)))) (d4 (jst 6 sc.nd (jc G__law_scaled hr (a7 (a8 3) (a7 (e8 (a7 d3 (a7 (jx (m3 (a7 (f8 a0H d3 d3) (a7 (f8 a0H d3 d3) (a7 (f8 a0H d3 d3) a9)))) (jc G__law_next hr (a7 (a8 0) (a7 d3 a9)))) a9))) a9)))) (d5 (d8 (e8 (a7 (jc G_plus hr (a7 (jx (a8 5) d3) (a7 (jx (a8 6) d3) a9))) (a7 (jc G_plus hr (a7 (jx (a8 5) d3) (a7 (jx (a8 6) d3) a9))) a9))))))) g6) (d5 (d8 (jc G__law_scaled hr (a7 (a8 3) (a7 (a8 4) a9))))))))))),?_⟩
 walk_at "sim"
 refine ⟨hp,by decide,fun r M1 r0 r1 s1=>⟨s1.pool,[0,1,-1,2,-3,5,9],[1,1,2,3],fun q=>sz q≤4,rfl,rfl,⟨by decide,by decide,by decide,S9 (by decide) (by decide) (by decide)⟩,fun q M2 hq s2=>⟨s2.pool,[0,0,1,-1,2,-4],[1,2,3],fun q=>sz q≤4,rfl,rfl,⟨by decide,by decide,by decide,S9 (by decide) (by decide) (by decide)⟩,fun q1 M3 hq1 s3=>⟨b91,b56,?_⟩⟩⟩⟩
 rw [e20,e40]
 refine ⟨s3.pool,[1,-1,2,1,3,1],[1,1,2,3,10,1000,100000000000000000000,10000000000000000000000000000000000000000],fun q=>sz q≤133,rfl,rfl,⟨by decide,by decide,by decide,S9 (by decide) (by decide) (by decide)⟩,fun g M4 hg s4=>?_⟩
 have st:=((s1.trans s2).trans s3).trans s4
 have z0:sz (0:Rat)≤1:=by rw [RM.E6]; decide
 have scale:∀ y u:Rat,sz y≤463∧sz u≤463∧sz y+sz u≤700→(sz y+sz g≤8900∧sz u+sz g≤8900)∧R (A5 (y*g) (u*g)) M4:=fun y u h=>by
  have m1:=RM.D7 y g
  have m2:=RM.D7 u g
  exact ⟨⟨by omega,by omega⟩,k _ _ _ ((CD.ray2 (k:=sz y+133) (l:=sz u+133) (by omega) (by omega)).mono (by omega)) st⟩
 refine ⟨fun _=>k 0 0 _ ((CD.ray2 (k:=1) (l:=1) z0 z0).mono (by decide)) st,fun _=>⟨fun _=>⟨hok,fun y u h=>by first | exact scale y u h | exact ⟨y,u,g,rfl,scale y u h⟩⟩,fun _=>⟨fun _=>⟨hok,fun y u hyu=>⟨b8c,b90,b56,st.pool,by decide,fun v M5 v0 v1 s5=>?_⟩⟩,fun _=>scale q q1 ⟨by omega,by omega,by omega⟩⟩⟩⟩
 refine N6 v0 (by show v<3; exact v1) fun dd hdd=>?_
 obtain ⟨N,rfl,N0,N1⟩:∃ N:Nat,dd = .int (N:Int)∧0<N∧N<2 ^ 133:=by
  rw [e18,e25] at hdd
  simp only [List.mem_cons,List.not_mem_nil,or_false] at hdd
  rcases hdd with rfl | rfl | rfl
  ·exact ⟨1000000000000000000,rfl,by decide,by decide⟩
  ·exact ⟨10000000000000000000000000,rfl,by decide,by decide⟩
  ·exact ⟨10000000000000000000000000000000000000000,rfl,by decide,by decide⟩
 obtain ⟨h,he,hz⟩:=b04 N0 N1
 rw [he]
 have m1:=RM.D7 q h
 have m2:=RM.D7 q1 h
 have a1:=RM.a3E y (q*h)
 have a2:=RM.a3E u (q1*h)
 walk_at "sim"
 exact ⟨⟨by omega,by omega⟩,by omega,by omega,k _ _ _ ((CD.ray2 (k:=sz y+140) (l:=sz u+140) (by omega) (by omega)).mono (by omega)) (st.trans s5)⟩
theorem a2A (T:Txt K mg) (d:Df K mg "_law_stops" M8 ["pool", "parts", "count"]) (G__law_next:Fn P w K mg base "_law_next" 1 ["pool", "base"] L4) (G__law_ratio:Fn P w K mg base "_law_ratio" 3 ["pool", "tops", "bottoms"] a1I):Fn P w K mg base "_law_stops" 4 ["pool", "parts", "count"] a02:=by
 have sc:=a2p
 refine j4 d sc (by walk_at "len") (fun f cdv A outer s H E ds M R Y hr h=>?_)
 have hu:=hr.units
 obtain ⟨p,x,n,rfl,hp,bs,rfl,⟨n0,n1,hl⟩,k⟩:=h
 refine ⟨_,(d4 (jst 3 sc.nd (a8p b2g rfl T.b_list a06 (a7 (a8 1) a9))) (d4 (v9 PassesOwn.never rfl (S6 rfl T.b_range (a7 (jc G__law_next hr (a7 (a8 0) (a7 (f8 E5 (a8 2) d3) a9))) a9)) (jn 4 sc.nd) (d4 (jst 5 sc.nd (jc G__law_ratio hr (a7 (a8 0) (a7 (m3 (a7 d3 (a7 d3 (a7 d3 (a7 d3 (a7 d3 (a7 d3 (a7 d3 (a7 d3 (a7 d3 a9)))))))))) (a7 (m3 (a7 d3 (a7 d3 (a7 d3 (a7 d3 a9))))) a9))))) (d5 (G2 (a0L PySem.F.slot_list_insert PySem.F.type_list_insert a9o (a8 3) (a7 (jc G__law_next hr (a7 (a8 0) (a7 (f8 E5 (y8 U4 rfl T.b_len K2 (a7 (a8 3) a9)) d3) a9))) (a7 (e8 (a7 i9 (a7 (a8 5) a9))) a9))))))) (d5 (d8 (Q7 (W7 (a8 3))))))),?_⟩
 walk_at "sim"
 refine ⟨_,bs.map f9,rfl,by simp only [m5],fun l hN=>?_⟩
 have hlp:l≠p:=fun e=>by obtain ⟨_,_,_,hq⟩:=hp; rw [e,hq] at hN; cases hN
 have s0:o7 p M (v8 M l (.lst (bs.map f9))):=(o7.refl hp).put hN hlp
 refine ⟨s0.pool,by omega,lg9 (by omega),fun r M1 r0 r1 s1=>⟨by omega,?_⟩⟩
 refine X6.by (fun i e M'=>∃ (cs:List (Str × Rat)) (z4 z5:Option D),e=[some (.ref p),some (.vl (bs.map f9)),some (.int n),some (.ref l),z4,z5]∧M' l=some (.lst (cs.map f9))∧o7 p M M'∧cs.length=bs.length+i∧cs.filter D5=bs.filter D5∧(∀ x∈cs,x∈bs∨(x.1 = "stop" ∧ 0<x.2∧sz x.2≤10))) ?_ (fun _ _ _ _ _=>trivial) ?_ ?_
 ·exact ⟨bs,_,_,rfl,s1.keep l _ hlp i8,s0.trans s1,rfl,rfl,fun x hx=>.inl hx⟩
 ·rintro i dd e M' hd ⟨cs,z4,z5,rfl,hM,st,hc,hf,hm⟩
  have hi:=(List.getElem?_eq_some_iff.mp hd).1
  rw [j7] at hi
  walk_at "sim"
  refine ⟨st.pool,[1,2,3,4,5,7,12,40,1000],[1,1,2,3],fun q=>0<q∧sz q≤10,rfl,rfl,⟨by decide,by decide,by decide,a4t (by decide) (by decide) (by decide)⟩,?_⟩
  rintro q M2 ⟨q0,q1⟩ s2
  have hM2:=s2.keep l _ hlp hM
  refine R4 hM2 ?_
  rw [a49 (a5Q hM2),List.length_map]
  walk_at "sim"
  refine ⟨s2.pool,by omega,lg9 (by omega),fun j M3 j0 j1 s3=>?_⟩
  have hM3:=s3.keep l _ hlp hM2
  obtain ⟨jn,rfl⟩:=Int.eq_ofNat_of_zero_le j0
  refine b8r hM3 (by rw [List.length_map]; omega) (by rw [List.length_map]; omega) ⟨cs.take jn++(Str.ofString "stop",q) :: cs.drop jn,some dd,some (d7 q),rfl,?_,((st.trans s2).trans s3).put hN hlp,?_,?_,?_⟩
  ·rw [i8,List.map_append,List.map_cons,List.map_take,List.map_drop]
   rfl
  ·rw [List.length_append,List.length_cons,List.length_take,List.length_drop]; omega
  ·rw [List.filter_append,List.filter_cons,show D5 (Str.ofString "stop",q)=false from rfl,← hf]
   show _++List.filter D5 (cs.drop jn)=_
   rw [← List.filter_append,List.take_append_drop]
  ·intro x hx
   rcases List.mem_append.mp hx with hx | hx
   ·exact hm x (List.mem_of_mem_take hx)
   ·rcases List.mem_cons.mp hx with rfl | hx
    ·exact .inr ⟨rfl,q0,q1⟩
    ·exact hm x (List.mem_of_mem_drop hx)
 ·rintro e M' ⟨cs,z4,z5,rfl,hM,st,hc,hf,hm⟩
  rw [j7] at hc
  walk_at "sim"
  refine ⟨l,_,rfl,hM,?_⟩
  exact R5 (M2:=X1 M' l) (fun _ _ h=>h) (k cs _ (by omega) hf hm (st.del hN hlp))
theorem a1R (T:Txt K mg) (d:Df K mg "_law_pieces" J9 ["pool", "gap"]) (G_minus:Fn P w K mg base "minus" 4 ["one", "other"] E7) (G_ratio:Fn P w K mg base "ratio" 2 ["top", "bottom"] T9) (G__law_next:Fn P w K mg base "_law_next" 1 ["pool", "base"] L4):Fn P w K mg base "_law_pieces" 5 ["pool", "gap"] a30:=by
 have sc:=a1F
 refine j4 d sc (by walk_at "len") (fun f cdv A outer s H E ds M R Y hr h=>?_)
 have hu:=hr.units
 obtain ⟨p,G,rfl,hp,⟨g0,g1⟩,k⟩:=h
 refine ⟨_,(d4 (jst 2 sc.nd (f8 E5 d3 (jc G__law_next hr (a7 (a8 0) (a7 d3 a9))))) (d4 (jst 3 sc.nd (a0r a9)) (d4 (v9 PassesOwn.never rfl (S6 rfl T.b_range (a7 (f8 a1S (a8 2) d3) a9)) (jn 4 sc.nd) (d4 (jst 5 sc.nd (jc G_ratio hr (a7 (jx (a8 1) d3) (a7 (f8 o6 (jx (a8 1) d3) (f8 E5 d3 (jc G__law_next hr (a7 (a8 0) (a7 d3 a9))))) a9)))) (d4 (G2 (a0L PySem.F.slot_list_append PySem.F.type_list_append F4 (a8 3) (a7 (e8 (a7 i9 (a7 (a8 5) a9))) a9))) (d5 (jst 1 sc.nd (jc G_minus hr (a7 (a8 1) (a7 (a8 5) a9)))))))) (d5 (d8 (Q7 (N5 (W7 (a8 3)) (m3 (a7 (e8 (a7 i9 (a7 (a8 1) a9))) a9))))))))),?_⟩
 walk_at "sim"
 refine ⟨hp,lg9 (by decide),fun r M1 r0 r1 s1 l hl=>⟨by omega,?_⟩⟩
 have hlp:l≠p:=fun e=>by obtain ⟨_,_,_,hq⟩:=s1.pool; rw [e,hq] at hl; cases hl
 refine X6.by (fun i e M'=>∃ (qs:List Rat) (c:Rat) (z4 z5:Option D),e=[some (.ref p),some (d7 (G*c)),some (.int (1+r)),some (.ref l),z4,z5]∧M' l=some (.lst ((qs.map fun q=>(Str.ofString "gap",G*q)).map f9))∧o7 p M1 M'∧qs.length=i∧(∀ q∈qs,0≤q∧sz q≤5)∧0<c∧sz c≤1+2*i) ?_ (fun _ _ _ _ _=>trivial) ?_ ?_
 ·exact ⟨[],1,_,_,by rw [show G*1=G by grind],i8,(o7.refl s1.pool).put hl hlp,rfl,fun q hq=>(by cases hq),by decide,by rw [RM.U8]; omega⟩
 ·rintro i dd e M' hd ⟨qs,c,z4,z5,rfl,hM,st,hq,hqs,hc,hcz⟩
  have hi:=(List.getElem?_eq_some_iff.mp hd).1
  rw [j7] at hi
  have zg:=RM.D7 G c
  walk_at "sim"
  refine ⟨st.pool,lg9 (by decide),fun m M2 m0 m1 s2=>?_⟩
  rw [b4L (G*c) (2+m)]
  obtain ⟨z1,z2,p1,p2⟩:=c0u (m:=2+m) (by omega) (by omega)
  have hm0:((2+m:Int):Rat)≠0:=fun z=>by rw [z] at p1; exact absurd p1 (by decide +kernel)
  have dp:=(G*c).den_pos
  have dl:=X0 (G*c)
  have zd:=RM.U9 (G*c) ((2+m:Int):Rat) hm0
  have zc:=RM.U9 c ((2+m:Int):Rat) hm0
  have zr:=RM.D7 c (1 - 1 / ((2+m:Int):Rat))
  have hM2:M2 l=_:=s2.keep l _ hlp hM
  refine ⟨b9u (by omega) (by omega),Int.mul_ne_zero (by omega) (by omega),?_,R4 hM2 (a0t hM2 (by rw [List.length_map,List.length_map]; omega) ⟨by omega,qs++[c / ((2+m:Int):Rat)],c*(1 - 1 / ((2+m:Int):Rat)),some dd,some (d7 (G*c / ((2+m:Int):Rat))),?_,?_,?_,?_,?_,?_,by omega⟩)⟩
  ·have h1:((G*c).den*(2+m.toNat))<2 ^ (sz (G*c)+3):=m6 dl (by omega)
   have e:(((G*c).den:Int)*(2+m)).natAbs=(G*c).den*(2+m.toNat):=by
    rw [Int.natAbs_mul,Int.natAbs_natCast]; congr 1; omega
   rw [e]
   exact F8 (Nat.lt_of_lt_of_le h1 (Nat.pow_le_pow_right (by decide) (by omega))) (by decide)
  ·rw [show G*c - G*c / ((2+m:Int):Rat)=G*(c*(1 - 1 / ((2+m:Int):Rat))) by grind]
  ·rw [i8,List.map_append,List.map_append,show G*c / ((2+m:Int):Rat)=G*(c / ((2+m:Int):Rat)) by grind]
   rfl
  ·exact (st.trans s2).put hl hlp
  ·rw [List.length_append]; show qs.length+1=_; omega
  ·intro q hq'
   rcases List.mem_append.mp hq' with hq' | hq'
   ·exact hqs q hq'
   ·rw [List.mem_singleton.mp hq']
    exact ⟨by rw [show c / ((2+m:Int):Rat)=c*(1 / ((2+m:Int):Rat)) by grind]; exact Rat.le_of_lt (Rat.mul_pos hc p1),by omega⟩
  ·exact Rat.mul_pos hc p2
 ·rintro e M' ⟨qs,c,z4,z5,rfl,hM,st,hq,hqs,hc,hcz⟩
  rw [j7] at hq hcz
  walk_at "sim"
  refine ⟨l,_,rfl,hM,?_⟩
  show a8y _ _ _ _
  walk_at "sim"
  have hl0:M l=none:=by
   cases e:M l with
   | none=>rfl
   | some o=>rw [s1.keep l o hlp e] at hl; cases hl
  have hs:1000≤sizeLine:=by decide
  refine ⟨by rw [List.length_map,List.length_map]; omega,R5 (M2:=X1 M' l) (fun _ _ h=>h) ?_⟩
  have k2:=k (qs++[c]) (X1 M' l) (by rw [List.length_append]; show qs.length+1≤3; omega) (fun q hq'=>by
   rcases List.mem_append.mp hq' with hq' | hq'
   ·exact hqs q hq'
   ·rw [List.mem_singleton.mp hq']; exact ⟨Rat.le_of_lt hc,by omega⟩) ((s1.trans st).del hl0 hlp)
  rw [List.map_append,List.map_append] at k2
  exact k2
theorem W5 (T:Txt K mg) (d:Df K mg "_law_known_hall" C1 ["pool"]) (G_ratio:Fn P w K mg base "ratio" 2 ["top", "bottom"] T9) (G__law_stops:Fn P w K mg base "_law_stops" 4 ["pool", "parts", "count"] a02) (G__law_pieces:Fn P w K mg base "_law_pieces" 5 ["pool", "gap"] a30) (G__law_ratio:Fn P w K mg base "_law_ratio" 3 ["pool", "tops", "bottoms"] a1I) (G__law_next:Fn P w K mg base "_law_next" 1 ["pool", "base"] L4):Fn P w K mg base "_law_known_hall" 6 ["pool"] a5v:=by
 have sc:=V0
 refine j4 d sc (by walk_at "len") (fun f cdv A outer s H E ds M R Y hr h=>?_)
 have hu:=hr.units
 obtain ⟨p,rfl,hp,k⟩:=h
 refine ⟨_,(d4 (jst 1 sc.nd (m3 (a7 (e8 (a7 d3 (a7 d3 a9))) (a7 (e8 (a7 d3 (a7 d3 a9))) (a7 (e8 (a7 d3 (a7 (y3 d3) a9))) (a7 (e8 (a7 d3 (a7 d3 a9))) (a7 (e8 (a7 d3 (a7 d3 a9))) (a7 (e8 (a7 d3 (a7 d3 a9))) (a7 (e8 (a7 d3 (a7 d3 a9))) (a7 (e8 (a7 d3 (a7 d3 a9))) (a7 (e8 (a7 d3 (a7 d3 a9))) (a7 (e8 (a7 d3 (a7 d3 a9))) (a7 (e8 (a7 d3 (a7 d3 a9))) (a7 (e8 (a7 d3 (a7 d3 a9))) a9)))))))))))))) (d4 (q9 (jx (a8 1) (jc G__law_next hr (a7 (a8 0) (a7 d3 a9)))) (m7 (n:=2) rfl (d6 (jn 2 sc.nd) (d6 (jn 3 sc.nd) i4)))) (d4 (jst 4 sc.nd (e8 (a7 d3 (a7 d3 a9)))) (C7 (h9 (jtm a0I (jc G__law_next hr (a7 (a8 0) (a7 d3 a9))) d3) (d4 (jst 5 sc.nd (m3 (a7 (e8 (a7 d3 (a7 d3 a9))) (a7 (e8 (a7 d3 (a7 d3 a9))) (a7 (e8 (a7 (y3 d3) (a7 (y3 d3) a9))) (a7 (e8 (a7 d3 (a7 d3 a9))) (a7 (e8 (a7 d3 (a7 d3 a9))) (a7 (e8 (a7 d3 (a7 (y3 d3) a9))) (a7 (e8 (a7 d3 (a7 d3 a9))) (a7 (e8 (a7 d3 (a7 d3 a9))) (a7 (e8 (a7 d3 (a7 d3 a9))) (a7 (e8 (a7 d3 (a7 d3 a9))) (a7 (e8 (a7 d3 (a7 d3 a9))) (a7 (e8 (a7 d3 (a7 (y3 d3) a9))) a9)))))))))))))) (d4 (q9 (jx (a8 5) (jc G__law_next hr (a7 (a8 0) (a7 d3 a9)))) (m7 (n:=2) rfl (d6 (jn 2 sc.nd) (d6 (jn 3 sc.nd) i4)))) (d5 (jst 4 sc.nd (e8 (a7 d3 (a7 d3 a9))))))) g6) (d4 (jst 6 sc.nd (jc G__law_ratio hr (a7 (a8 0) (a7 (m3 (a7 d3 (a7 d3 (a7 d3 (a7 d3 (a7 d3 (a7 d3 (a7 d3 (a7 d3 (a7 (f8 a0H d3 d3) a9)))))))))) (a7 (m3 (a7 d3 (a7 d3 (a7 d3 (a7 d3 a9))))) a9))))) (d4 (jst 7 sc.nd (jc G__law_stops hr (a7 (a8 0) (a7 (jc G__law_pieces hr (a7 (a8 0) (a7 (a8 6) a9))) (a7 d3 a9))))) (d4 (jst 8 sc.nd (jc G_ratio hr (a7 (f8 o6 (a8 2) (jx (a8 6) d3)) (a7 (f8 o6 (jx (a8 4) d3) (jx (a8 6) d3)) a9)))) (d5 (d8 (e8 (a7 (a8 8) (a7 (a8 7) (a7 (jc G_ratio hr (a7 (f8 o6 (a8 3) (jx (a8 6) d3)) (a7 (f8 o6 (jx (a8 4) d3) (jx (a8 6) d3)) a9))) a9))))))))))))),?_⟩
 walk_at "sim"
 refine ⟨hp,lg9 (by decide),fun r M1 r0 r1 s1=>N6 r0 (by show r<12; omega) fun d hd=>?_⟩
 obtain ⟨n,f,rfl,hn,hf⟩:∃ n f:Int,d = .tup [.int n,.int f]∧n.natAbs≤13∧f.natAbs≤13:=by
  simp only [List.mem_cons,List.not_mem_nil,or_false] at hd
  rcases hd with rfl | rfl | rfl | rfl | rfl | rfl | rfl | rfl | rfl | rfl | rfl | rfl
  all_goals exact ⟨_,_,rfl,by decide,by decide⟩
 walk_at "sim"
 refine X4 (fun e' M'=>∃ (n f b:Int) (x1 x5:Option D),e'=[some (.ref p),x1,some (.int n),some (.int f),some (.tup [.int b,.int b]),x5,none,none,none]∧n.natAbs≤13∧f.natAbs≤13∧(b=1∨b=2)∧o7 p M M') ?_ ?_
 ·walk_at "sim"
  refine ⟨s1.pool,lg9 (by decide),fun r' M2 r0' r1' s2=>⟨fun _=>?_,fun _=>⟨n,f,1,_,_,rfl,hn,hf,.inl rfl,s1.trans s2⟩⟩⟩
  refine ⟨s2.pool,lg9 (by decide),fun r2 M3 r20 r21 s3=>N6 r20 (by show r2<12; omega) fun d hd=>?_⟩
  obtain ⟨n',f',rfl,hn',hf'⟩:∃ n f:Int,d = .tup [.int n,.int f]∧n.natAbs≤13∧f.natAbs≤13:=by
   simp only [List.mem_cons,List.not_mem_nil,or_false] at hd
   rcases hd with rfl | rfl | rfl | rfl | rfl | rfl | rfl | rfl | rfl | rfl | rfl | rfl
   all_goals exact ⟨_,_,rfl,by decide,by decide⟩
  walk_at "sim"
  exact ⟨n',f',2,_,_,rfl,hn',hf',.inr rfl,(s1.trans s2).trans s3⟩
 ·rintro e' M2 ⟨n,f,b,x1,x5,rfl,hn,hf,hb,s2⟩
  walk_at "sim"
  refine ⟨⟨by decide,by decide,by decide⟩,s2.pool,[1,2,3,5,1,2,3,5,10 ^ Int.toNat 20],[1,1,2,3],fun q=>0<q∧sz q≤67,rfl,rfl,⟨by decide,by decide,by decide,a4t (by decide) (by decide) (by decide)⟩,?_⟩
  rintro G M3 ⟨G0,G1⟩ s3
  refine ⟨s3.pool,⟨G0,G1⟩,fun qs M4 ql hqs s4=>⟨s4.pool,_,rfl,by rw [List.length_map]; omega,fun cs M5 cl cf cm s5=>?_⟩⟩
  rw [List.length_map] at cl
  have hc7:cs.length≤7:=Nat.le_trans cl (by show qs.length+4≤7; omega)
  obtain ⟨H1,H2,H3⟩:=b1k G0 G1 ql hqs hc7 cf cm hn hf hb
  have gp:=a6Z G0
  have b0:b≠0:=by omega
  have ne:b*G.num≠0:=Int.mul_ne_zero b0 (by omega)
  have lg:(b*G.num).natAbs.log2<9000:=F8 (Nat.lt_of_lt_of_le (e7 (show b.natAbs<2 ^ 2 by omega) (u8 G G1)) (Nat.pow_le_pow_right (by decide) (by decide))) (by decide)
  have i1:IntMulOk b G.num:=a5O (by omega) (by omega)
  rw [a5P gp b0,a5P gp b0]
  exact ⟨a5O (by omega) (by omega),i1,ne,lg,a5O (by omega) (by omega),i1,ne,lg,k _ _ _ _ H1 H2 H3 (((s2.trans s3).trans s4).trans s5)⟩
theorem a4m (T:Txt K mg) (d:Df K mg "_law_hall" Q5 ["pool"]) (G__law_ratio:Fn P w K mg base "_law_ratio" 3 ["pool", "tops", "bottoms"] a1I) (G__law_stops:Fn P w K mg base "_law_stops" 4 ["pool", "parts", "count"] a02) (G__law_next:Fn P w K mg base "_law_next" 1 ["pool", "base"] L4) (G_minus:Fn P w K mg base "minus" 4 ["one", "other"] E7) (G__law_known_hall:Fn P w K mg base "_law_known_hall" 6 ["pool"] a5v):Fn P w K mg base "_law_hall" 7 ["pool"] a5v:=by
 have sc:=a3Q
 refine j4 d sc (by walk_at "len") (fun f cdv A outer s H E ds M R Y hr h=>?_)
 have hu:=hr.units
 obtain ⟨p,rfl,hp,k⟩:=h
 refine ⟨_,(d4 (jst 1 sc.nd (jc G__law_next hr (a7 (a8 0) (a7 d3 a9)))) (d4 (h9 (jtm a2E (a8 1) d3) (d5 (d8 (Q7 (jc G__law_known_hall hr (a7 (a8 0) a9))))) g6) (d4 (jst 2 sc.nd (jc G__law_ratio hr (a7 (a8 0) (a7 (m3 (a7 d3 (a7 d3 (a7 (y3 d3) (a7 d3 (a7 d3 (a7 (y3 d3) a9))))))) (a7 (m3 (a7 d3 (a7 d3 (a7 d3 a9)))) a9))))) (d4 (h9 (jtm a0I (a8 1) d3) (d5 (d8 (Q7 (e8 (a7 (a8 2) (a7 (jc G__law_stops hr (a7 (a8 0) (a7 (m3 a9) (a7 d3 a9)))) (a7 (jc G_minus hr (a7 (e8 (a7 d3 (a7 d3 a9))) (a7 (a8 2) a9))) a9))))))) g6) (d4 (jst 3 sc.nd (a0r a9)) (d4 (v9 PassesOwn.never rfl (S6 rfl T.b_range (a7 (jc G__law_next hr (a7 (a8 0) (a7 d3 a9))) a9)) (jn 4 sc.nd) (d5 (h9 (jtm a0I (jc G__law_next hr (a7 (a8 0) (a7 d3 a9))) d3) (d5 (G2 (a0L PySem.F.slot_list_append PySem.F.type_list_append F4 (a8 3) (a7 (e8 (a7 i9 (a7 (jc G__law_ratio hr (a7 (a8 0) (a7 (m3 (a7 d3 (a7 d3 (a7 d3 (a7 d3 (a7 d3 (a7 d3 a9))))))) (a7 (m3 (a7 d3 (a7 d3 (a7 d3 a9)))) a9)))) a9))) a9)))) (d5 (G2 (a0L PySem.F.slot_list_append PySem.F.type_list_append F4 (a8 3) (a7 (e8 (a7 i9 (a7 (jc G__law_ratio hr (a7 (a8 0) (a7 (m3 (a7 d3 (a7 d3 (a7 (y3 d3) (a7 d3 (a7 (y3 d3) (a7 d3 a9))))))) (a7 (m3 (a7 d3 (a7 d3 (a7 d3 a9)))) a9)))) a9))) a9))))))) (d5 (d8 (Q7 (e8 (a7 (a8 2) (a7 (jc G__law_stops hr (a7 (a8 0) (a7 (W7 (a8 3)) (a7 d3 a9)))) (a7 (jc G__law_ratio hr (a7 (a8 0) (a7 (m3 (a7 d3 (a7 d3 (a7 (y3 d3) (a7 d3 (a7 (y3 d3) (a7 d3 a9))))))) (a7 (m3 (a7 d3 (a7 d3 a9))) a9)))) a9))))))))))))),?_⟩
 walk_at "sim"
 refine ⟨hp,lg9 (by decide),fun r M1 r0 r1 s1=>⟨fun _=>⟨s1.pool,fun near bs far M2 h1 h2 h3 s2=>R5 (M2:=M2) (fun _ _ h=>h) (k near bs far M2 h1 h2 h3 (s1.trans s2))⟩,fun _=>?_⟩⟩
 refine ⟨s1.pool,[0,1,-1,2,1,-3],[1,2,3],fun q=>sz q≤5,rfl,rfl,⟨by decide,by decide,by decide,S9 (by decide) (by decide) (by decide)⟩,fun q M2 hq s2=>⟨fun _=>?_,fun _ l hN=>?_⟩⟩
 ·have zn:=RM.L3 q
  refine ⟨s2.pool,[],rfl,by decide,fun cs M3 cl cf cm s3=>⟨by rw [RM.E6]; omega,R5 (M2:=M3) (fun _ _ h=>h) ?_⟩⟩
  obtain ⟨H1,H2,H3⟩:=a5z (near:=q) (far:=0 - q) (bs:=[]) hq (by rw [show 0 - q = -q by grind,zn]; exact hq) (fun x hx=>(by cases hx)) (by decide) (Nat.le_trans cl (by decide)) cf cm
  exact k _ _ _ _ H1 H2 H3 ((s1.trans s2).trans s3)
 ·have hlp:l≠p:=fun e=>by obtain ⟨_,_,_,hq⟩:=s2.pool; rw [e,hq] at hN; cases hN
  have s12:=s1.trans s2
  have hM0:M l=none:=by
   cases e:M l with
   | none=>rfl
   | some o=>rw [s12.keep l o hlp e] at hN; cases hN
  have s0:o7 p M2 (v8 M2 l (.lst [])):=(o7.refl s2.pool).put hN hlp
  refine ⟨s0.pool,lg9 (by decide),fun n M3 n0 n1 s3=>⟨by omega,?_⟩⟩
  refine X6.by (fun i e M'=>∃ (bs:List (Str × Rat)) (z4:Option D),e=[some (.ref p),some (.int r),some (d7 q),some (.ref l),z4]∧M' l=some (.lst (bs.map f9))∧o7 p M2 M'∧bs.length=i∧(∀ x∈bs,sz x.2≤5∧((x.1 = "gap" ∧ 0≤x.2)∨x.1 = "glass"))) ?_ (fun _ _ _ _ _=>trivial) ?_ ?_
  ·exact ⟨[],_,rfl,s3.keep l _ hlp i8,s0.trans s3,rfl,fun x hx=>(by cases hx)⟩
  ·rintro i dd e M' hd ⟨bs,z4,rfl,hM,st,hb,hbs⟩
   have hi:=(List.getElem?_eq_some_iff.mp hd).1
   rw [j7] at hi
   have hadd:∀ (w:Str) (q2:Rat) (M5:Mem),o7 p M' M5→sz q2≤5→((w = "gap" ∧ 0≤q2)∨w = "glass")→∃ (bs':List (Str × Rat)) (z4:Option D),[some (D.ref p),some (D.int r),some (d7 q),some (D.ref l),some dd]=[some (.ref p),some (.int r),some (d7 q),some (.ref l),z4]∧(v8 M5 l (.lst (bs.map f9++[.tup [.str w,d7 q2]]))) l=some (.lst (bs'.map f9))∧o7 p M2 (v8 M5 l (.lst (bs.map f9++[.tup [.str w,d7 q2]])))∧bs'.length=i+1∧(∀ x∈bs',sz x.2≤5∧((x.1 = "gap" ∧ 0≤x.2)∨x.1 = "glass")):=fun w q2 M5 s5 hq2 hw=>by
    refine ⟨bs++[(w,q2)],_,rfl,by rw [i8,List.map_append]; rfl,(st.trans s5).put hN hlp,by rw [List.length_append]; show bs.length+1=_; omega,fun x hx=>?_⟩
    rcases List.mem_append.mp hx with hx | hx
    ·exact hbs x hx
    ·rw [List.mem_singleton.mp hx]; exact ⟨hq2,hw⟩
   walk_at "sim"
   refine ⟨st.pool,lg9 (by decide),fun g M4 g0 g1 s4=>⟨fun _=>R4 (s4.keep l _ hlp hM) ⟨s4.pool,[0,1,2,3,1,5],[1,2,3],fun q=>0≤q∧sz q≤5,rfl,rfl,⟨by decide,by decide,by decide,b4z (by decide) (by decide) (by decide)⟩,?_⟩,fun _=>R4 (s4.keep l _ hlp hM) ⟨s4.pool,[0,1,-1,2,-2,3],[1,2,3],fun q=>sz q≤5,rfl,rfl,⟨by decide,by decide,by decide,S9 (by decide) (by decide) (by decide)⟩,?_⟩⟩⟩
   ·rintro q2 M5 ⟨h1,h2⟩ s5
    exact a0t (s5.keep l _ hlp (s4.keep l _ hlp hM)) (by rw [List.length_map]; omega) (hadd _ _ _ (s4.trans s5) h2 (.inl ⟨rfl,h1⟩))
   ·rintro q2 M5 h2 s5
    exact a0t (s5.keep l _ hlp (s4.keep l _ hlp hM)) (by rw [List.length_map]; omega) (hadd _ _ _ (s4.trans s5) h2 (.inr rfl))
  ·rintro e M' ⟨bs,z4,rfl,hM,st,hb,hbs⟩
   rw [j7] at hb
   walk_at "sim"
   refine ⟨l,_,rfl,hM,?_⟩
   have sd:=st.del hN hlp
   refine ⟨sd.pool,bs,rfl,by omega,fun cs M4 cl cf cm s4=>⟨s4.pool,[0,1,-1,2,-2,3],[1,2],fun q=>sz q≤5,rfl,rfl,⟨by decide,by decide,by decide,S9 (by decide) (by decide) (by decide)⟩,fun f M5 hf s5=>R5 (M2:=M5) (fun _ _ h=>h) ?_⟩⟩
   obtain ⟨H1,H2,H3⟩:=a5z hq hf hbs (by omega) (Nat.le_trans cl (by show bs.length+3≤7; omega)) cf cm
   exact k _ _ _ _ H1 H2 H3 (((s12.trans sd).trans s4).trans s5)
theorem a4k (T:Txt K mg) (d:Df K mg "_law_pool" Q1 ["cell"]):Fn P w K mg base "_law_pool" 1 ["cell"] a6x:=by
 have sc:=a3O
 refine j4 d sc (fun ds M R Y h=>?_) (fun f cdv A outer s H E ds M R Y hr h=>?_)
 ·obtain ⟨c,rfl,_⟩:=h; rfl
 ·obtain ⟨c,rfl,k⟩:=h
  refine ⟨_,(d5 (d8 (a0r (a7 (y8 (b93 rfl) rfl T.b_max b8g (a7 d3 (a7 (f8 a1S (a8 0) (f8 a0H d3 d3)) a9))) (a7 (f8 a1T (a8 0) (f8 a0H d3 d3)) (a7 d3 a9)))))),?_⟩
  refine ⟨_,rfl,_,_,rfl,rfl,b8c,_,rfl,_,_,rfl,_,rfl,_,_,rfl,rfl,b8c,_,_,rfl,rfl,(by show (0:Int)<10 ^ 18; decide),sl 3,fun p hp=>?_⟩
  exact k p _ hp (MK.new hp) ⟨_,_,_,i8⟩
theorem b7d {f:Addr} {fd:FuncData} (T:Txt K mg) (d:b5a K "law" b0F f fd) (G_ever:Fn P w K mg base "ever" 8 ["hall", "ray"] a78) (G__law_alone:Fn P w K mg base "_law_alone" 1 ["hall", "at"] a6Q) (G__law_ray:Fn P w K mg base "_law_ray" 10 ["pool", "hall"] b0I) (G__law_ratio:Fn P w K mg base "_law_ratio" 3 ["pool", "tops", "bottoms"] a1I) (G__law_hall:Fn P w K mg base "_law_hall" 7 ["pool"] a5v) (G__law_pool:Fn P w K mg base "_law_pool" 1 ["cell"] a6x):O6 P w K mg base CX0 11 f fd ["script"] (a5d K a74):=by
 have sc:=b6z
 refine b5Z d sc (fun ds M R Y h=>by obtain ⟨n,rfl,_⟩:=h; rfl) (fun cdv A outer s H E ds M R Y hr h=>?_)
 obtain ⟨ns,rfl,hlen,k⟩:=h
 have hu:=hr.units
 refine ⟨_,(d4 (v9 PassesOwn.never rfl (y7 (N5 (m3 (a7 d3 a9)) (a8 0))) (jn 1 sc.nd) (d4 (jst 2 sc.nd (jc G__law_pool hr (a7 (a8 1) a9))) (d4 (jst 3 sc.nd (jc G__law_hall hr (a7 (a8 2) a9))) (C7 (h9 (jtm a2E (y8 U4 rfl T.b_len K2 (a7 (jx (a8 3) d3) a9)) d3) (d5 (jst 3 sc.nd (e8 (a7 (jx (a8 3) d3) (a7 (N5 (jx (a8 3) d3) (m3 (a7 (e8 (a7 i9 (a7 (jc G__law_ratio hr (a7 (a8 2) (a7 (m3 (a7 d3 (a7 d3 (a7 d3 (a7 d3 a9))))) (a7 (m3 (a7 d3 (a7 d3 a9))) a9)))) a9))) a9))) (a7 (jx (a8 3) d3) a9)))))) g6) (d4 (jst 4 sc.nd (jc G__law_ray hr (a7 (a8 2) (a7 (a8 3) a9)))) (d4 (h9 (jtm (b09 hu) (jc G_ever hr (a7 (jc G__law_alone hr (a7 (a8 3) (a7 K1 a9))) (a7 (a8 4) a9))) (e8 (a7 i9 (a7 (m3 a9) a9)))) (d5 (d8 Z3)) g6) (d4 (jst 5 sc.nd (jc G_ever hr (a7 (a8 3) (a7 (a8 4) a9)))) (d4 (B3 (i:=6) [3,4] ["k"] ["hall", "ray"] sc.nd rfl (Or.inl rfl) rfl (by decide +kernel) rfl (by decide +kernel) (by decide +kernel) rfl (a6b ⟨rfl,rfl⟩ ⟨rfl,rfl⟩) (a6b (Or.inl rfl) (Or.inl rfl)) (S6 rfl T.b_range (a7 (y8 U4 rfl T.b_len K2 (a7 (jx (a8 3) d3) a9)) a9)) (fun _ _ _ _ _ _=>(jn 0 (show (["k", "hall", "ray"]:List Str).Nodup by decide +kernel))) (fun _ _ _ _ _ _=>(S7 (jtm B5 (jx (jx (jx (a8 1) d3) (a8 0)) d3) i9))) (fun _ _ _ _ _ _=>(jc G_ever hr (a7 (jc G__law_alone hr (a7 (a8 1) (a7 (a8 0) a9))) (a7 (a8 2) a9))))) (d4 (a4p (i:=7) [] ["one"] [] sc.nd rfl (Or.inl rfl) rfl (by decide +kernel) rfl (by decide +kernel) (by decide +kernel) rfl a0d a0d (y7 (a8 6)) (fun _ _ _ _ _ _=>(jn 0 (show (["one"]:List Str).Nodup by decide +kernel))) (fun _ _ _ _ _ _=>w6) (fun _ _ _ _ _ _=>(jx (a8 0) d3))) (d4 (h9 (jtm b5S (jm B5 (jx (a8 5) d3) i9) (jm a0I (a0L PySem.F.slot_list_count PySem.F.type_list_count a9p (a8 7) (a7 i9 a9)) (y8 U4 rfl T.b_len K2 (a7 (a8 7) a9)))) (d5 (d8 Z3)) g6) (d4 (B3 (i:=8) [] ["one"] [] sc.nd rfl (Or.inl rfl) rfl (by decide +kernel) rfl (by decide +kernel) (by decide +kernel) rfl a0d a0d (y7 (a8 6)) (fun _ _ _ _ _ _=>(jn 0 (show (["one"]:List Str).Nodup by decide +kernel))) (fun _ _ _ _ _ _=>(S7 (jtm B5 (jx (a8 0) d3) i9))) (fun _ _ _ _ _ _=>(jx (a8 0) d3))) (d4 (h9 (jtm b5S (jm B5 (jx (a8 5) d3) i9) (jm (b09 hu) (a8 8) (m3 a9))) (d5 (d8 Z3)) g6) (d4 (h9 (a0K (a1Z (jtm B5 (jx (a8 5) d3) i9) (Z4 (a0K (a8o (jtm a5L (jx (a8 5) d3) (y8 (b8f rfl) rfl T.b_min b2i (a7 (a8 8) a9))) (a68 (jtm (a5K hu) (a8 5) (a8 6)))))))) (d5 (d8 Z3)) g6) (d5 (h9 (a0K (a1Z (jtm B5 (jx (a8 5) d3) i9) (Z4 (jtm (a5K hu) i9 (a8 7))))) (d5 (d8 Z3)) g6))))))))))))))) (d5 (d8 Z3))),?_⟩
 walk_at "sim"
 refine ⟨Nat.le_trans (by rw [List.length_map]; omega) (show 1000≤sizeLine by decide),?_⟩
 refine X6.by (fun i e M'=>∃ x1 x2 x3 x4 x5 x6 x7 x8:Option D,e=[some (.vl (ns.map D.int)),x1,x2,x3,x4,x5,x6,x7,x8]) ⟨_,_,_,_,_,_,_,_,rfl⟩ (fun i e M' _ _=>by simp only [m5]) ?_ ?_
 ·rintro i dd e M' hd ⟨x1,x2,x3,x4,x5,x6,x7,x8,rfl⟩
  obtain ⟨n,rfl⟩:∃ n:Int,dd = .int n:=by
   have hm:=List.mem_of_getElem? hd
   rcases List.mem_cons.mp hm with rfl | hm
   ·exact ⟨0,rfl⟩
   ·obtain ⟨n,_,rfl⟩:=List.mem_map.mp hm
    exact ⟨n,rfl⟩
  walk_at "sim"
  refine fun p M1 hp mk hP=>⟨hP,fun near bs0 far M2 hok0 hl7 ha s2=>?_⟩
  refine X4 (fun e' M'=>∃ (bs:List (Str × Rat)) (z4 z5 z6 z7 z8:Option D),e'=[some (D.vl (List.map D.int ns)),some (D.int n),some (D.ref p),some (D.tup [d7 near,D.vl (List.map f9 bs),d7 far]),z4,z5,z6,z7,z8]∧p9 near bs far∧bs.length≤8∧o7 p M1 M') ?_ ?_
  ·walk_at "sim"
   rw [List.length_map]
   refine ⟨fun _=>⟨s2.pool,[1,3,9,50],[1,2],fun q=>0<q∧sz q≤6,rfl,rfl,⟨by decide,by decide,by decide,a4t (by decide) (by decide) (by decide)⟩,fun q M3 hq s3=>⟨Nat.le_trans (show _+1≤1000 by omega) (show 1000≤sizeLine by decide),bs0++[(Str.ofString "stop",q)],x4,x5,x6,x7,x8,by rw [List.map_append]; rfl,?_,by rw [List.length_append]; show _+1≤8; omega,s2.trans s3⟩⟩,fun h=>absurd (by omega) h⟩
   ·obtain ⟨G,g1,g2,g3,g4,g5⟩:=hok0.ex
    have na:D5 (Str.ofString "stop",q)=false:=by show (Str.ofString "stop" == Str.ofString "gap" || Str.ofString "stop" == Str.ofString "glass")=false; decide +kernel
    refine ⟨⟨G,g1,g2,g3,g4,fun x hx hx2=>?_⟩,?_,by rw [List.length_append]; show _+1≤9; omega,fun x hx=>?_,hok0.zn,hok0.zf⟩
    ·rcases List.mem_append.mp hx with hx | hx
     ·exact g5 x hx hx2
     ·rw [List.mem_singleton.mp hx,na] at hx2; cases hx2
    ·have:=hok0.act
     rw [R1]
     have e0:B1 [(Str.ofString "stop",q)]=0:=by unfold B1; rw [List.filter_cons_of_neg (by rw [na]; decide)]; rfl
     omega
    ·rcases List.mem_append.mp hx with hx | hx
     ·exact hok0.part x hx
     ·rw [List.mem_singleton.mp hx]; exact ⟨Nat.le_trans hq.2 (by decide),.inr (.inr ⟨rfl,hq.1⟩)⟩
  ·rintro e' M' ⟨bs,z4,z5,z6,z7,z8,rfl,hok,hbl,sA⟩
   have hw:=hok.w
   walk_at "sim"
   refine ⟨sA.pool,hok,fun y u M4 cd s4=>⟨by omega,⟨a8H hw .non,_,cd,by decide⟩,fun r0 h0=>?_⟩⟩
   have hE0:=a5U h0
   have d0:evD (D8 (g7 near (A9 bs D.non) far) (g7 near (A9 bs D.non) far).length) (tbQ (e9 near (A9 bs D.non) far)) (B6 near (A9 bs D.non) far y u) r0=D.tup [D.str (Str.ofString "never"),D.vl []]:=by
    have nost:∀ z∈(g7 near bs far).map (alT .non),¬ z.2.2.1 = "stop" := fun z hz hs=>by
     obtain ⟨w,hw5,rfl⟩:=List.mem_map.mp hz
     unfold alT at hs
     by_cases c:w.2.2.1 = "stop" ∧ w.2.1 ≠ .non
     ·rw [if_pos c] at hs; exact absurd hs (show ¬ Str.ofString "gap" = Str.ofString "stop" by decide)
     ·rw [if_neg c] at hs
      obtain ⟨k5,_,e5,_⟩:=a8t hw5 hs
      exact c ⟨hs,by rw [e5]; intro z; cases z⟩
    rcases hE0 with ⟨n5,j5,z5,_,hz5,hs5,_⟩ | ⟨_,_,_,j5,z5,hz5,hs5,_⟩ | ⟨es,e5,_,_,he⟩
    ·exact absurd hs5 (nost z5 (List.mem_of_getElem? hz5))
    ·exact absurd hs5 (nost z5 (List.mem_of_getElem? hz5))
    ·have:E9 ((g7 near bs far).map (alT .non)) ((g7 near bs far).map (alT .non)).length=[]:=by
      rw [List.eq_nil_iff_forall_not_mem]
      intro z hz
      obtain ⟨a1,a2⟩:=R9.mp (show (z.1,z.2)∈_ from hz)
      exact nost z.1 (List.mem_of_getElem? a1) a2
     rw [this] at he
     rw [e5,he]; rfl
   rw [d0]
   refine ⟨by decide +kernel,by decide +kernel,fun h=>absurd rfl h,fun _=>⟨⟨hw,_,cd,by decide⟩,fun r1 h1=>?_⟩⟩
   have hE:=b9J h1
   generalize evD (D8 (g7 near bs far) (g7 near bs far).length) (tbQ (e9 near bs far)) (B6 near bs far y u) r1=told at *
   rw [List.length_map,Int.toNat_natCast]
   refine ⟨⟨by omega,by omega⟩,?_⟩
   have tcl:=b1C (fun z hz=>a11 hz 57) hE
   refine a9r (fun k=>(bs.getD k (Str.ofString "",0)).1 == Str.ofString "stop") (fun k d=>EvT (tbQ (e9 near bs far)) ((g7 near bs far).map (alT (.int (k:Int)))) y u d) (by rw [j7]; omega) trivial (fun k d hd5 Q N h5 h6=>?_) (fun ds hdl hof hall5=>?_)
   ·obtain ⟨hk,rfl⟩:=a3m hd5
    have hb:=List.getElem?_eq_getElem hk
    have eg:bs.getD k (Str.ofString "",0)=bs[k]:=by rw [List.getD_eq_getElem?_getD,hb]; rfl
    rw [eg] at h5 h6
    rw [show (0:Int)+(k:Int)=(k:Int) by omega]
    walk_at "sim"
    refine ⟨_,p7 (n:=k) (by rw [List.getElem?_map,hb]; rfl),?_⟩
    walk_at "sim"
    refine ⟨fun hs=>⟨by omega,⟨a8H hw _,_,cd,by decide⟩,fun r2 h2=>h5 (by rw [hs]; decide) _ (a5U h2)⟩,fun hs=>h6 (beq_eq_false_iff_ne.mpr hs)⟩
   ·rw [j7] at hdl hof hall5
    have hp5:R3 (tbQ (e9 near bs far)) (g7 near bs far) y u (fun k=>k<bs.length∧((bs.getD k (Str.ofString "",0)).1 == Str.ofString "stop")=true) ds:=⟨fun d hd5=>by
     obtain ⟨k,a1,a2,a3⟩:=hof d hd5
     exact ⟨k,⟨a1,a2⟩,a3⟩,fun k hk=>hall5 k hk.1 hk.2,fun z hz hs=>by
     obtain ⟨k,a1,a2,a3⟩:=a8t hz hs
     refine ⟨k,⟨a1,?_⟩,a2⟩
     rw [List.getD_eq_getElem?_getD,a3]
     exact beq_iff_eq.mpr hs⟩
    have dcl:clL 59 ds=true:=a19 fun d hd5=>by
     obtain ⟨k,_,a3⟩:=hp5.of d hd5
     exact b1C (b2m _) a3
    have dw:∀ d∈ds,∃ r,d = .tup (.str (wS d) :: r):=fun d hd5=>by
     obtain ⟨k,_,a3⟩:=hp5.of d hd5
     exact a8A a3
    have hnev:=hp5.never hE
    have hsto:=hp5.stop hE
    have hfir:=hp5.first hE
    have hlat:=hp5.late hE
    have three:=G4 hE
    have e1:ds=ds.map fun d=>d:=(List.map_id' ds).symm
    obtain ⟨rt,et⟩:=a8A hE
    walk_at "sim"
    rw [show a8L [none] (B8 0) a7i (dOp gIx (N9 0) (dC (D.int 0))) ds (fun M'=>u4 M' (D.vl ds) ds) M4=a8L [none] (B8 0) a7i (dOp gIx (N9 0) (dC (D.int 0))) (ds.map fun d=>d) (fun M'=>u4 M' (D.vl ds) ds) M4 by rw [← e1]]
    refine A4 (xs:=ds) (enc:=fun d=>d) (fun d=>D.str (wS d)) (by omega) (by simp only [m5]) (fun d hd5 Q hQ=>?_) ?_
    ·obtain ⟨r5,er⟩:=dw d hd5
     generalize wS d=w5 at *
     subst er
     walk_at "sim"
     exact hQ
    intro p5 hp5
    have hlen:(ds.map fun d=>D.str (wS d)).length=ds.length:=List.length_map ..
    have ews:(ds.map fun d=>D.str (wS d))=(ds.map wS).map D.str:=by rw [List.map_map]; rfl
    have ecn:((((ds.map wS).filter (· == Str.ofString "never")).length:Nat):Int)=(ds.length:Int)↔wS told = "never" := by
     rw [hnev]
     constructor
     ·intro h x hx
      have h:((ds.map wS).filter (· == Str.ofString "never")).length=(ds.map wS).length:=by rw [List.length_map]; omega
      have:=List.length_filter_eq_length_iff.mp h (wS x) (List.mem_map.mpr ⟨x,hx,rfl⟩)
      exact beq_iff_eq.mp this
     ·intro h
      have h:((ds.map wS).filter (· == Str.ofString "never")).length=(ds.map wS).length:=List.length_filter_eq_length_iff.mpr fun w hw5=>by
       obtain ⟨x,hx,rfl⟩:=List.mem_map.mp hw5
       exact beq_iff_eq.mpr (h x hx)
      rw [h,List.length_map]
    have hM5:v8 M4 p5 (.lst (ds.map fun d=>D.str (wS d))) p5=some (.lst ((ds.map wS).map D.str)):=by rw [i8,ews]
    generalize v8 M4 p5 (.lst (ds.map fun d=>D.str (wS d)))=M6 at *
    generalize hw0:wS told=w at *
    subst et
    walk_at "sim"
    refine R4 hM5 ⟨p5,ds.map wS,_,rfl,rfl,hM5,⟨_,_,rfl,a5Q hM5,?_⟩⟩
    walk_at "sim"
    rw [List.length_map,List.length_map,show decide ((((ds.map wS).filter (· == Str.ofString "never")).length:Int)=(ds.length:Int))=decide (w=Str.ofString "never") from decide_eq_decide.mpr ecn]
    refine ⟨fun h=>absurd h (by rw [beq_self_eq_true]; decide),fun _=>?_⟩
    rw [show a8K [none] (B8 0) (a0N (dOp (gF (fS fun i j=>D.bl (decide (i=j)))) (dOp gIx (N9 0) (dC (D.int 0))) (dC (D.str (Str.ofString "stopped"))))) (dOp gIx (N9 0) (dC (D.int 1))) ds (fun M'=>u4 M' (D.vl ds) ds) M6=a8K [none] (B8 0) (a0N (dOp (gF (fS fun i j=>D.bl (decide (i=j)))) (dOp gIx (N9 0) (dC (D.int 0))) (dC (D.str (Str.ofString "stopped"))))) (dOp gIx (N9 0) (dC (D.int 1))) (ds.map fun d=>d) (fun M'=>u4 M' (D.vl ds) ds) M6 by rw [← e1]]
    refine O0 (xs:=ds) (enc:=fun d=>d) (fun d=>wS d == Str.ofString "stopped") (fun d=>D.int (nS d)) (by omega) (by simp only [m5]) (fun d hd5 Q N h5 h6=>?_) ?_
    ·obtain ⟨r5,er⟩:=dw d hd5
     obtain ⟨k5,_,ex5⟩:=hof d hd5
     have sec:wS d = "stopped" → ∃ (n5:Int) (r6:List D),r5 = .int n5 :: r6∧nS d=n5:=fun h=>by
      obtain ⟨n6,j6,z6,e6,_⟩:=D2 ex5.2 h
      rw [e6] at er
      injection er with er
      injection er with _ er
      exact ⟨(n6:Int),[z6.1,z6.2.1],er.symm,by rw [e6]; rfl⟩
     generalize nS d=nd at *
     generalize wS d=w5 at *
     subst er
     walk_at "sim"
     refine ⟨fun h=>?_,fun h=>h6 (beq_eq_false_iff_ne.mpr h)⟩
     obtain ⟨n5,r6,rfl,rfl⟩:=sec h
     walk_at "sim"
     exact h5 (by rw [h]; decide)
    have tcl2:cl 60 (D.vl ((ds.filter fun d=>wS d == Str.ofString "stopped").map fun d=>D.int (nS d)))=true:=by
     show clL 59 _=true
     exact a19 fun d hd5=>by obtain ⟨x,_,rfl⟩:=List.mem_map.mp hd5; rfl
    have tne:(D.vl ((ds.filter fun d=>wS d == Str.ofString "stopped").map fun d=>D.int (nS d))=D.vl []) ↔ ¬ w = "stopped" := by
     rw [hsto]
     constructor
     ·rintro h ⟨x,hx,hxw⟩
      injection h with h
      have:=List.map_eq_nil_iff.mp h
      have hm:x∈ds.filter fun d=>wS d == Str.ofString "stopped" := List.mem_filter.mpr ⟨hx,beq_iff_eq.mpr hxw⟩
      rw [this] at hm; cases hm
     ·intro h
      congr 1
      rw [List.map_eq_nil_iff,List.filter_eq_nil_iff]
      exact fun x hx e5=>h ⟨x,hx,beq_iff_eq.mp e5⟩
    have mns:∀ v,v∈(ds.filter fun d=>wS d == Str.ofString "stopped").map nS ↔ ∃ x∈ds,wS x = "stopped" ∧ nS x=v:=fun v=>by
     rw [List.mem_map]
     constructor
     ·rintro ⟨x,hx,rfl⟩
      obtain ⟨a1,a2⟩:=List.mem_filter.mp hx
      exact ⟨x,a1,beq_iff_eq.mp a2,rfl⟩
     ·rintro ⟨x,a1,a2,rfl⟩
      exact ⟨x,List.mem_filter.mpr ⟨a1,beq_iff_eq.mpr a2⟩,rfl⟩
    have ets:((ds.filter fun d=>wS d == Str.ofString "stopped").map fun d=>D.int (nS d))=((ds.filter fun d=>wS d == Str.ofString "stopped").map nS).map D.int:=by rw [List.map_map]; rfl
    have latein:w = "late" → D.str (Str.ofString "late")∈(ds.map wS).map D.str:=fun h=>by
     obtain ⟨x,hx,hxw⟩:=hlat h
     exact List.mem_map.mpr ⟨wS x,List.mem_map.mpr ⟨x,hx,rfl⟩,by rw [hxw]⟩
    have clw:clL 59 ((ds.map wS).map D.str)=true:=a19 fun d hd5=>by
     obtain ⟨v,hv,rfl⟩:=List.mem_map.mp hd5
     obtain ⟨x,hx,rfl⟩:=List.mem_map.mp hv
     obtain ⟨r5,er⟩:=dw x hx
     have:=dcl
     have hx2:cl 59 x=true:=by
      obtain ⟨k5,_,ex5⟩:=hof x hx
      exact b1C (b2m _) ex5.2
     rw [er] at hx2
     have hx2:(cl 58 (D.str (wS x)) && clL 58 r5)=true:=hx2
     exact ((Bool.and_eq_true _ _).mp hx2).1
    generalize ((ds.filter fun d=>wS d == Str.ofString "stopped").map fun d=>D.int (nS d))=ts at *
    refine ⟨tcl2,fun h=>?_,fun _=>⟨fun hws=>?_,fun hws=>⟨fun hwl=>?_,fun hwl=>⟨_,_,_,_,_,_,_,_,rfl⟩⟩⟩⟩
    ·exfalso
     by_cases hw5:w = "stopped"
     ·rw [decide_eq_true hw5,@decide_eq_false _ (Classical.propDecidable _) (fun z=>tne.mp z hw5)] at h
      exact absurd h (by decide)
     ·rw [decide_eq_false hw5,@decide_eq_true _ (Classical.propDecidable _) (tne.mpr hw5)] at h
      exact absurd h (by decide)
    ·obtain ⟨n6,j6,z6,e6,_⟩:=D2 hE hws
     injection e6 with e6
     injection e6 with _ e6
     subst e6
     obtain ⟨f1,f2⟩:=hfir hws
     have f2:∀ x∈ds,wS x = "stopped" → (n6:Int)≤nS x:=f2
     have i1:(n6:Int)∈(ds.filter fun d=>wS d == Str.ofString "stopped").map nS:=(mns _).mpr ⟨_,f1,hws,rfl⟩
     walk_at "sim"
     refine ⟨_,_,rfl,by rw [ets]; rfl,List.length_pos_of_mem i1,fun v hv hmin=>?_⟩
     obtain ⟨x,a1,a2,a3⟩:=(mns v).mp hv
     have ev:(n6:Int)=v:=by
      have:=hmin _ i1
      have:=f2 x a1 a2
      omega
     subst ev
     walk_at "sim"
     refine ⟨?_,dcl,fun h=>absurd f1 h,fun _=>⟨fun hwl=>?_,fun _=>⟨_,_,_,_,_,_,_,_,rfl⟩⟩⟩
     ·have:=b7z (fun z hz=>a11 hz 58) hE
      have this:(cl 59 (D.str w) && (true && (cl 59 z6.1 && (cl 59 z6.2.1 && true))))=true:=this
      simpa using this
     ·rw [hws] at hwl; exact absurd hwl (show ¬ Str.ofString "stopped" = Str.ofString "late" by decide)
    ·refine ⟨_,by decide +kernel,.inr (.inl ⟨p5,rfl,hM5⟩),clw,?_⟩
     rw [@decide_eq_true _ (Classical.propDecidable _) (latein hwl)]
     walk_at "sim"
     exact ⟨_,_,_,_,_,_,_,_,rfl⟩
 ·rintro e M' ⟨x1,x2,x3,x4,x5,x6,x7,x8,rfl⟩
  walk_at "sim"
  exact k _
end
end K45
namespace K45
open PySem PySem.Spec L2 DL GM
theorem b8k {P:Program} {w:World} {K:PySem.W.Frag} {mg:Str→Option Value} {fa:Addr} (T:Txt K mg) (hfa:mg "law" = some (.ref fa)) (D_divisor:Df K mg "divisor" a0l ["one", "other"]) (D_is_whole:Df K mg "is_whole" V9 ["thing"]) (D_ratio:Df K mg "ratio" a3T ["top", "bottom"]) (D_over:Df K mg "over" a6G ["one", "other"]) (D_tops_over:Df K mg "tops_over" P5 ["ratios", "bottom"]) (D_common_bottom:Df K mg "common_bottom" E3 ["ratios"]) (D_swing:Df K mg "swing" a3S ["t", "x", "later"]) (D_reach_by:Df K mg "reach_by" V6 ["t", "x", "later"]) (D_plus:Df K mg "plus" a6F ["one", "other"]) (D_t_of:Df K mg "t_of" a6D ["table"]) (D_opposite:Df K mg "opposite" V7 ["one"]) (D_rounds_to_self:Df K mg "rounds_to_self" C4 ["table"]) (D_shown_by:Df K mg "shown_by" V4 ["word", "table", "x", "later"]) (D_less:Df K mg "less" a3V ["one", "other"]) (D_unsigned:Df K mg "unsigned" V2 ["one"]) (D_kind_word:Df K mg "kind_word" P9 ["table"]) (D_next_state:Df K mg "next_state" L6 ["t", "state"]) (D_first_state:Df K mg "first_state" J7 ["t", "x", "later", "r"]) (D_stop_within:Df K mg "stop_within" J4 ["t", "numbers", "watched", "rounds"]) (D_sheared_round:Df K mg "sheared_round" D9 ["t", "x", "later", "r"]) (D_first_sheared:Df K mg "first_sheared" E1 ["t", "numbers", "late"]) (D_first_stop:Df K mg "first_stop" M0 ["table", "numbers", "late"]) (D_times:Df K mg "times" a3R ["one", "other"]) (D_shows_late:Df K mg "shows_late" L5 ["word", "t", "x", "later", "r"]) (D_late_lines:Df K mg "late_lines" L7 ["table", "numbers"]) (D_number_of:Df K mg "number_of" P8 ["p", "q", "ray"]) (D_led:Df K mg "led" b0E ["table", "ray"]) (D_first_two:Df K mg "first_two" Q0 ["table", "ray", "lines"]) (D_minus:Df K mg "minus" a3U ["one", "other"]) (D_led_by_part:Df K mg "led_by_part" J6 ["part", "ray"]) (D_lines_of:Df K mg "lines_of" V8 ["bench"]) (D_turned_bench:Df K mg "turned_bench" F6 ["bench"]) (D_round_bench:Df K mg "round_bench" J5 ["hall"]) (D_hall_lines:Df K mg "hall_lines" L8 ["hall"]) (D_by_columns:Df K mg "by_columns" M7 ["first", "second"]) (D_table_of:Df K mg "table_of" V3 ["bench"]) (D_round_of:Df K mg "round_of" V5 ["hall"]) (D_ever:Df K mg "ever" a6I ["hall", "ray"]) (D__law_alone:Df K mg "_law_alone" N2 ["hall", "at"]) (D__law_scaled:Df K mg "_law_scaled" J8 ["ray", "factor"]) (D__law_next:Df K mg "_law_next" Q3 ["pool", "base"]) (D_floor_root:Df K mg "floor_root" L9 ["number"]) (D_root:Df K mg "root" a6E ["one"]) (D_shrinking:Df K mg "shrinking" P6 ["t"]) (D_ray_along:Df K mg "ray_along" P7 ["table"]) (D_form_of:Df K mg "form_of" a0k ["table"]) (D_kind:Df K mg "kind" a6H ["hall"]) (D__law_along:Df K mg "_law_along" M9 ["hall", "other"]) (D__law_ratio:Df K mg "_law_ratio" E8 ["pool", "tops", "bottoms"]) (D__law_ray:Df K mg "_law_ray" W1 ["pool", "hall"]) (D__law_stops:Df K mg "_law_stops" M8 ["pool", "parts", "count"]) (D__law_pieces:Df K mg "_law_pieces" J9 ["pool", "gap"]) (D__law_known_hall:Df K mg "_law_known_hall" C1 ["pool"]) (D__law_hall:Df K mg "_law_hall" Q5 ["pool"]) (D__law_pool:Df K mg "_law_pool" Q1 ["cell"]) (D_law:DfL K mg "law" b0F ["script"]) :
  ∃ fd:FuncData,(∀ (s:Shared) (u:Value),BindsTo s fd ⟨[u],[]⟩ [("script",u)])∧∀ base:Heap,O6 P w K mg base CX0 11 fa fd ["script"] (a5d K a74):=by
 obtain ⟨f,fd,F,hm,hb⟩:=D_law.ex
 have e:f=fa:=by rw [hm] at hfa; injection hfa with z; injection z
 subst e
 refine ⟨fd,fun s u=>.of_eq (hb [u] rfl),fun base=>?_⟩
 have G_divisor:=a6Y (P:=P) (w:=w) (base:=base) T D_divisor
 have G_is_whole:=a5I (P:=P) (w:=w) (base:=base) T D_is_whole
 have G_ratio:=b07 (P:=P) (w:=w) (base:=base) T D_ratio G_is_whole G_divisor
 have G_over:=b4h (P:=P) (w:=w) (base:=base) T D_over G_ratio
 have G_tops_over:=a4e (P:=P) (w:=w) (base:=base) T D_tops_over
 have G_common_bottom:=a0o (P:=P) (w:=w) (base:=base) T D_common_bottom G_divisor
 have G_swing:=b06 (P:=P) (w:=w) (base:=base) T D_swing G_tops_over G_common_bottom
 have G_reach_by:=a5F (P:=P) (w:=w) (base:=base) T D_reach_by G_swing
 have G_plus:=b4g (P:=P) (w:=w) (base:=base) T D_plus G_ratio
 have G_t_of:=b4e (P:=P) (w:=w) (base:=base) T D_t_of G_plus
 have G_opposite:=a5G (P:=P) (w:=w) (base:=base) T D_opposite
 have G_rounds_to_self:=Y9 (P:=P) (w:=w) (base:=base) T D_rounds_to_self G_opposite G_t_of
 have G_shown_by:=a5D (P:=P) (w:=w) (base:=base) T D_shown_by G_over G_ratio G_reach_by G_t_of G_rounds_to_self
 have G_less:=b4i (P:=P) (w:=w) (base:=base) T D_less
 have G_unsigned:=a5B (P:=P) (w:=w) (base:=base) T D_unsigned
 have G_kind_word:=a4i (P:=P) (w:=w) (base:=base) T D_kind_word G_less G_unsigned G_t_of G_rounds_to_self
 have G_next_state:=a2u (P:=P) (w:=w) (base:=base) T D_next_state
 have G_first_state:=a1P (P:=P) (w:=w) (base:=base) T D_first_state G_tops_over G_common_bottom
 have G_stop_within:=a1M (P:=P) (w:=w) (base:=base) T D_stop_within G_next_state G_first_state
 have G_sheared_round:=a0m (P:=P) (w:=w) (base:=base) T D_sheared_round G_tops_over G_common_bottom
 have G_first_sheared:=a0n (P:=P) (w:=w) (base:=base) T D_first_sheared G_sheared_round
 have G_first_stop:=a2y (P:=P) (w:=w) (base:=base) T D_first_stop G_stop_within G_first_sheared G_rounds_to_self G_kind_word G_t_of G_less G_unsigned
 have G_less__2:=a6W (P:=P) (w:=w) (base:=base) T D_less
 have G_times:=b05 (P:=P) (w:=w) (base:=base) T D_times G_ratio
 have G_shows_late:=a2t (P:=P) (w:=w) (base:=base) T D_shows_late G_less G_unsigned G_swing G_less__2 G_reach_by G_times
 have G_late_lines:=a2v (P:=P) (w:=w) (base:=base) T D_late_lines G_shows_late G_t_of G_kind_word
 have G_number_of:=a4h (P:=P) (w:=w) (base:=base) T D_number_of G_plus G_times
 have G_led:=b7c (P:=P) (w:=w) (base:=base) T D_led G_plus G_times
 have G_first_two:=a4j (P:=P) (w:=w) (base:=base) T D_first_two G_number_of G_led
 have G_minus:=b08 (P:=P) (w:=w) (base:=base) T D_minus G_plus G_opposite
 have G_led_by_part:=a1O (P:=P) (w:=w) (base:=base) T D_led_by_part G_minus G_times G_plus
 have G_lines_of:=a5H (P:=P) (w:=w) (base:=base) T D_lines_of G_led_by_part
 have G_turned_bench:=a0V (P:=P) (w:=w) (base:=base) T D_turned_bench
 have G_round_bench:=a1N (P:=P) (w:=w) (base:=base) T D_round_bench G_turned_bench
 have G_hall_lines:=a2w (P:=P) (w:=w) (base:=base) T D_hall_lines G_lines_of G_round_bench
 have G_by_columns:=a2z (P:=P) (w:=w) (base:=base) T D_by_columns
 have G_table_of:=a5C (P:=P) (w:=w) (base:=base) T D_table_of G_by_columns G_led_by_part
 have G_round_of:=a5E (P:=P) (w:=w) (base:=base) T D_round_of G_table_of G_round_bench
 have G_ever:=b4k (P:=P) (w:=w) (base:=base) T D_ever G_shown_by G_kind_word G_first_stop G_late_lines G_first_two G_hall_lines G_round_of
 have G__law_alone:=a2D (P:=P) (w:=w) (base:=base) T D__law_alone
 have G__law_scaled:=a1Q (P:=P) (w:=w) (base:=base) T D__law_scaled G_times
 have G__law_next:=a4l (P:=P) (w:=w) (base:=base) T D__law_next
 have G_floor_root:=a2x (P:=P) (w:=w) (base:=base) T D_floor_root
 have G_root:=b4f (P:=P) (w:=w) (base:=base) T D_root G_floor_root
 have G_shrinking:=a4f (P:=P) (w:=w) (base:=base) T D_shrinking G_over G_minus G_less G_opposite G_root G_times
 have G_ray_along:=a4g (P:=P) (w:=w) (base:=base) T D_ray_along G_minus G_over G_t_of
 have G_form_of:=a6X (P:=P) (w:=w) (base:=base) T D_form_of G_opposite G_minus
 have G_kind:=b4j (P:=P) (w:=w) (base:=base) T D_kind G_shrinking G_t_of G_ray_along G_form_of G_rounds_to_self G_kind_word G_round_of
 have G__law_along:=a2C (P:=P) (w:=w) (base:=base) T D__law_along G_minus G_over G_kind G_round_of
 have G__law_ratio__2:=a0p (P:=P) (w:=w) (base:=base) T D__law_ratio G_ratio G__law_next
 have G__law_ratio:=a2B (P:=P) (w:=w) (base:=base) T D__law_ratio G_ratio G__law_next
 have G__law_ray:=a5J (P:=P) (w:=w) (base:=base) T D__law_ray G__law_scaled G_plus G__law_next G__law_along G__law_ratio__2 G__law_ratio
 have G__law_stops:=a2A (P:=P) (w:=w) (base:=base) T D__law_stops G__law_next G__law_ratio
 have G__law_pieces:=a1R (P:=P) (w:=w) (base:=base) T D__law_pieces G_minus G_ratio G__law_next
 have G__law_known_hall:=W5 (P:=P) (w:=w) (base:=base) T D__law_known_hall G_ratio G__law_stops G__law_pieces G__law_ratio G__law_next
 have G__law_hall:=a4m (P:=P) (w:=w) (base:=base) T D__law_hall G__law_ratio G__law_stops G__law_next G_minus G__law_known_hall
 have G__law_pool:=a4k (P:=P) (w:=w) (base:=base) T D__law_pool
 exact b7d T F G_ever G__law_alone G__law_ray G__law_ratio G__law_hall G__law_pool
theorem c0f {l:PySem.W.OpenLaw} {q:Program} {loose:List Str} {XP:(Str→Option Value)→Heap→Prop} {YP:World→Heap→Prop} {d:DefRec} {K:Params→PySem.W.Frag} (hn:l.most=some 63) (hdf:d.params.defaults=[])
  (hY:∀ (w:World) (h:Heap),YP w h→(K w.params).In h)
  (F:∀ (w:World) (mg:Str→Option Value) (fa:Addr) (h:Heap),(K w.params).In h→h.Ns mainGlobals mg→mg d.name=some (.ref fa) →
   ∃ fd:FuncData,(∀ (s:Shared) (u:Value),BindsTo s fd ⟨[u],[]⟩ [("script",u)])∧∀ base:Heap,O6 l.prog w (K w.params) mg base CX0 11 fa fd ["script"] (a5d (K w.params) a74)) :
  PySem.W.WalkO q loose XP YP l.row.toRowW d [] (fun f vs=>PySem.call f vs) :=
 L2.b0m (n:=63) (k:=11) (x := "script") (CX:=CX0) (sp:=fun K=>a5d K a74) hn (by decide) hdf ⟨rfl,by decide,by decide⟩ hY (fun w mg fa h a b c=>let ⟨fd,h1,h2⟩:=F w mg fa h a b c; ⟨fd,h1,fun base _ _=>h2 base⟩)
  (fun K H a ns hl hO hS=>b7k hO hS ⟨ns,rfl,hl,fun _=>rfl⟩) fun _ _ _ _ z=>z
end K45
theorem PySem.W.Fast.te8467246198214022148:True:=trivial
theorem PySem.W.Fast.tw9538042454477709571:True:=trivial
theorem PySem.W.Fast.tw13178792426459451143:True:=trivial
theorem PySem.W.Fast.tw1312265364797664808:True:=trivial
theorem PySem.W.Fast.tw18213988276231997646:True:=trivial
theorem PySem.W.Fast.tw17744114776702006959:True:=trivial
theorem PySem.W.Fast.tw8023453573202123568:True:=trivial
theorem PySem.W.Fast.tw1870247167888566266:True:=trivial
theorem PySem.W.Fast.tw2963776846085109915:True:=trivial
theorem PySem.W.Fast.tw12542741641944196124:True:=trivial
theorem PySem.W.Fast.tw10713810734085278942:True:=trivial
theorem PySem.W.Fast.tw6474585627378749609:True:=trivial
theorem PySem.W.Fast.tw1900280440616791160:True:=trivial
open PySem PySem.W PyProof.Rows
set_option maxRecDepth 100000 in
set_option maxHeartbeats 0 in
theorem PySem.Challenge.cw_roundglass_k45_whole_stops_one_by_one_holds : PySem.Challenge.rw_roundglass_k45_whole_stops_one_by_one.Holds := by
 w_on; o_law; k_head; (case hw=>w_witness2)
 k_fill
 refine K45.c0f (l:=PySem.Challenge.rw_roundglass_k45_whole_stops_one_by_one) rfl rfl (fun w h Y=>PySem.W.kIn_of Y) ?F
 case F =>
  intro w mg fa h KX G hmg
  refine' K45.b8k ⟨PySem.W.mg_none_of KX G ?z_abs,PySem.W.mg_none_of KX G ?z_bool,PySem.W.mg_none_of KX G ?z_enumerate,PySem.W.mg_none_of KX G ?z_int,PySem.W.mg_none_of KX G ?z_isinstance,PySem.W.mg_none_of KX G ?z_len,PySem.W.mg_none_of KX G ?z_list,PySem.W.mg_none_of KX G ?z_max,PySem.W.mg_none_of KX G ?z_min,PySem.W.mg_none_of KX G ?z_range,PySem.W.mg_none_of KX G ?z_reversed,PySem.W.mg_none_of KX G ?z_tuple,PySem.W.mg_none_of KX G ?z_zip,DL.b9a _,DL.b1v KX G ?c0_AXIS_RAY ?c1_AXIS_RAY ?c2_AXIS_RAY ?c3_AXIS_RAY,DL.b7u KX G ?c0_FIRST_ROUNDS,DL.a05 KX G ?c0_FOUR ?c1_FOUR,DL.b1v KX G ?c0_LEVEL_RAY ?c1_LEVEL_RAY ?c2_LEVEL_RAY ?c3_LEVEL_RAY,DL.a05 KX G ?c0_NOUGHT ?c1_NOUGHT,DL.a05 KX G ?c0_ONE ?c1_ONE,DL.b7t KX G ?c0_SELF ?c1_SELF ?c2_SELF ?c3_SELF ?c4_SELF ?c5_SELF,DL.a05 KX G ?c0_TWO ?c1_TWO⟩ hmg (DL.j8 KX G ?n0 ?l0 ?c0 ?k0 ?b0) (DL.j8 KX G ?n1 ?l1 ?c1 ?k1 ?b1) (DL.b7K KX G ?n2 ?l2 ?c2 ?k2 ?b2) (DL.j8 KX G ?n3 ?l3 ?c3 ?k3 ?b3) (DL.j8 KX G ?n4 ?l4 ?c4 ?k4 ?b4) (DL.j8 KX G ?n5 ?l5 ?c5 ?k5 ?b5) (DL.j8 KX G ?n6 ?l6 ?c6 ?k6 ?b6) (DL.j8 KX G ?n7 ?l7 ?c7 ?k7 ?b7) (DL.j8 KX G ?n8 ?l8 ?c8 ?k8 ?b8) (DL.j8 KX G ?n9 ?l9 ?c9 ?k9 ?b9) (DL.j8 KX G ?n10 ?l10 ?c10 ?k10 ?b10) (DL.j8 KX G ?n11 ?l11 ?c11 ?k11 ?b11) (DL.j8 KX G ?n12 ?l12 ?c12 ?k12 ?b12) (DL.j8 KX G ?n13 ?l13 ?c13 ?k13 ?b13) (DL.j8 KX G ?n14 ?l14 ?c14 ?k14 ?b14) (DL.j8 KX G ?n15 ?l15 ?c15 ?k15 ?b15) (DL.j8 KX G ?n16 ?l16 ?c16 ?k16 ?b16) (DL.j8 KX G ?n17 ?l17 ?c17 ?k17 ?b17) (DL.j8 KX G ?n18 ?l18 ?c18 ?k18 ?b18) (DL.j8 KX G ?n19 ?l19 ?c19 ?k19 ?b19) (DL.j8 KX G ?n20 ?l20 ?c20 ?k20 ?b20) (DL.j8 KX G ?n21 ?l21 ?c21 ?k21 ?b21) (DL.j8 KX G ?n22 ?l22 ?c22 ?k22 ?b22) (DL.j8 KX G ?n23 ?l23 ?c23 ?k23 ?b23) (DL.j8 KX G ?n24 ?l24 ?c24 ?k24 ?b24) (DL.j8 KX G ?n25 ?l25 ?c25 ?k25 ?b25) (DL.j8 KX G ?n26 ?l26 ?c26 ?k26 ?b26) (DL.j8 KX G ?n27 ?l27 ?c27 ?k27 ?b27) (DL.j8 KX G ?n28 ?l28 ?c28 ?k28 ?b28) (DL.j8 KX G ?n29 ?l29 ?c29 ?k29 ?b29) (DL.j8 KX G ?n30 ?l30 ?c30 ?k30 ?b30) (DL.j8 KX G ?n31 ?l31 ?c31 ?k31 ?b31) (DL.j8 KX G ?n32 ?l32 ?c32 ?k32 ?b32) (DL.j8 KX G ?n33 ?l33 ?c33 ?k33 ?b33) (DL.j8 KX G ?n34 ?l34 ?c34 ?k34 ?b34) (DL.j8 KX G ?n35 ?l35 ?c35 ?k35 ?b35) (DL.j8 KX G ?n36 ?l36 ?c36 ?k36 ?b36) (DL.j8 KX G ?n37 ?l37 ?c37 ?k37 ?b37) (DL.j8 KX G ?n38 ?l38 ?c38 ?k38 ?b38) (DL.j8 KX G ?n39 ?l39 ?c39 ?k39 ?b39) (DL.j8 KX G ?n40 ?l40 ?c40 ?k40 ?b40) (DL.j8 KX G ?n41 ?l41 ?c41 ?k41 ?b41) (DL.j8 KX G ?n42 ?l42 ?c42 ?k42 ?b42) (DL.j8 KX G ?n43 ?l43 ?c43 ?k43 ?b43) (DL.j8 KX G ?n44 ?l44 ?c44 ?k44 ?b44) (DL.j8 KX G ?n45 ?l45 ?c45 ?k45 ?b45) (DL.j8 KX G ?n46 ?l46 ?c46 ?k46 ?b46) (DL.j8 KX G ?n47 ?l47 ?c47 ?k47 ?b47) (DL.j8 KX G ?n48 ?l48 ?c48 ?k48 ?b48) (DL.j8 KX G ?n49 ?l49 ?c49 ?k49 ?b49) (DL.j8 KX G ?n50 ?l50 ?c50 ?k50 ?b50) (DL.j8 KX G ?n51 ?l51 ?c51 ?k51 ?b51) (DL.j8 KX G ?n52 ?l52 ?c52 ?k52 ?b52) (DL.j8 KX G ?n53 ?l53 ?c53 ?k53 ?b53) (DL.j8 KX G ?n54 ?l54 ?c54 ?k54 ?b54) (DL.b7J KX G ?n55 ?l55 ?c55 ?k55 ?b55)
  (case n0=>k_is); (case l0=>k_is); (case c0=>k_is); (case k0=>k_is); (case b0=>(intro us hl; exact match us,hl with | [_,_],_=>rfl))
  (case n1=>k_is); (case l1=>k_is); (case c1=>k_is); (case k1=>k_is); (case b1=>(intro us hl; exact match us,hl with | [_],_=>rfl))
  (case n2=>k_is); (case l2=>k_is); (case c2=>k_is); (case k2=>k_is); (case b2=>(intro us hl S; exact match us,hl with | [_,_],_=>rfl))
  (case n3=>k_is); (case l3=>k_is); (case c3=>k_is); (case k3=>k_is); (case b3=>(intro us hl; exact match us,hl with | [_,_],_=>rfl))
  (case n4=>k_is); (case l4=>k_is); (case c4=>k_is); (case k4=>k_is); (case b4=>(intro us hl; exact match us,hl with | [_,_],_=>rfl))
  (case n5=>k_is); (case l5=>k_is); (case c5=>k_is); (case k5=>k_is); (case b5=>(intro us hl; exact match us,hl with | [_],_=>rfl))
  (case n6=>k_is); (case l6=>k_is); (case c6=>k_is); (case k6=>k_is); (case b6=>(intro us hl; exact match us,hl with | [_,_,_],_=>rfl))
  (case n7=>k_is); (case l7=>k_is); (case c7=>k_is); (case k7=>k_is); (case b7=>(intro us hl; exact match us,hl with | [_,_,_],_=>rfl))
  (case n8=>k_is); (case l8=>k_is); (case c8=>k_is); (case k8=>k_is); (case b8=>(intro us hl; exact match us,hl with | [_,_],_=>rfl))
  (case n9=>k_is); (case l9=>k_is); (case c9=>k_is); (case k9=>k_is); (case b9=>(intro us hl; exact match us,hl with | [_],_=>rfl))
  (case n10=>k_is); (case l10=>k_is); (case c10=>k_is); (case k10=>k_is); (case b10=>(intro us hl; exact match us,hl with | [_],_=>rfl))
  (case n11=>k_is); (case l11=>k_is); (case c11=>k_is); (case k11=>k_is); (case b11=>(intro us hl; exact match us,hl with | [_],_=>rfl))
  (case n12=>k_is); (case l12=>k_is); (case c12=>k_is); (case k12=>k_is); (case b12=>(intro us hl; exact match us,hl with | [_,_,_,_],_=>rfl))
  (case n13=>k_is); (case l13=>k_is); (case c13=>k_is); (case k13=>k_is); (case b13=>(intro us hl; exact match us,hl with | [_,_],_=>rfl))
  (case n14=>k_is); (case l14=>k_is); (case c14=>k_is); (case k14=>k_is); (case b14=>(intro us hl; exact match us,hl with | [_],_=>rfl))
  (case n15=>k_is); (case l15=>k_is); (case c15=>k_is); (case k15=>k_is); (case b15=>(intro us hl; exact match us,hl with | [_],_=>rfl))
  (case n16=>k_is); (case l16=>k_is); (case c16=>k_is); (case k16=>k_is); (case b16=>(intro us hl; exact match us,hl with | [_,_],_=>rfl))
  (case n17=>k_is); (case l17=>k_is); (case c17=>k_is); (case k17=>k_is); (case b17=>(intro us hl; exact match us,hl with | [_,_,_,_],_=>rfl))
  (case n18=>k_is); (case l18=>k_is); (case c18=>k_is); (case k18=>k_is); (case b18=>(intro us hl; exact match us,hl with | [_,_,_,_],_=>rfl))
  (case n19=>k_is); (case l19=>k_is); (case c19=>k_is); (case k19=>k_is); (case b19=>(intro us hl; exact match us,hl with | [_,_,_,_],_=>rfl))
  (case n20=>k_is); (case l20=>k_is); (case c20=>k_is); (case k20=>k_is); (case b20=>(intro us hl; exact match us,hl with | [_,_,_],_=>rfl))
  (case n21=>k_is); (case l21=>k_is); (case c21=>k_is); (case k21=>k_is); (case b21=>(intro us hl; exact match us,hl with | [_,_,_],_=>rfl))
  (case n22=>k_is); (case l22=>k_is); (case c22=>k_is); (case k22=>k_is); (case b22=>(intro us hl; exact match us,hl with | [_,_],_=>rfl))
  (case n23=>k_is); (case l23=>k_is); (case c23=>k_is); (case k23=>k_is); (case b23=>(intro us hl; exact match us,hl with | [_,_,_,_,_],_=>rfl))
  (case n24=>k_is); (case l24=>k_is); (case c24=>k_is); (case k24=>k_is); (case b24=>(intro us hl; exact match us,hl with | [_,_],_=>rfl))
  (case n25=>k_is); (case l25=>k_is); (case c25=>k_is); (case k25=>k_is); (case b25=>(intro us hl; exact match us,hl with | [_,_,_],_=>rfl))
  (case n26=>k_is); (case l26=>k_is); (case c26=>k_is); (case k26=>k_is); (case b26=>(intro us hl; exact match us,hl with | [_,_],_=>rfl))
  (case n27=>k_is); (case l27=>k_is); (case c27=>k_is); (case k27=>k_is); (case b27=>(intro us hl; exact match us,hl with | [_,_,_],_=>rfl))
  (case n28=>k_is); (case l28=>k_is); (case c28=>k_is); (case k28=>k_is); (case b28=>(intro us hl; exact match us,hl with | [_,_],_=>rfl))
  (case n29=>k_is); (case l29=>k_is); (case c29=>k_is); (case k29=>k_is); (case b29=>(intro us hl; exact match us,hl with | [_,_],_=>rfl))
  (case n30=>k_is); (case l30=>k_is); (case c30=>k_is); (case k30=>k_is); (case b30=>(intro us hl; exact match us,hl with | [_],_=>rfl))
  (case n31=>k_is); (case l31=>k_is); (case c31=>k_is); (case k31=>k_is); (case b31=>(intro us hl; exact match us,hl with | [_],_=>rfl))
  (case n32=>k_is); (case l32=>k_is); (case c32=>k_is); (case k32=>k_is); (case b32=>(intro us hl; exact match us,hl with | [_],_=>rfl))
  (case n33=>k_is); (case l33=>k_is); (case c33=>k_is); (case k33=>k_is); (case b33=>(intro us hl; exact match us,hl with | [_],_=>rfl))
  (case n34=>k_is); (case l34=>k_is); (case c34=>k_is); (case k34=>k_is); (case b34=>(intro us hl; exact match us,hl with | [_,_],_=>rfl))
  (case n35=>k_is); (case l35=>k_is); (case c35=>k_is); (case k35=>k_is); (case b35=>(intro us hl; exact match us,hl with | [_],_=>rfl))
  (case n36=>k_is); (case l36=>k_is); (case c36=>k_is); (case k36=>k_is); (case b36=>(intro us hl; exact match us,hl with | [_],_=>rfl))
  (case n37=>k_is); (case l37=>k_is); (case c37=>k_is); (case k37=>k_is); (case b37=>(intro us hl; exact match us,hl with | [_,_],_=>rfl))
  (case n38=>k_is); (case l38=>k_is); (case c38=>k_is); (case k38=>k_is); (case b38=>(intro us hl; exact match us,hl with | [_,_],_=>rfl))
  (case n39=>k_is); (case l39=>k_is); (case c39=>k_is); (case k39=>k_is); (case b39=>(intro us hl; exact match us,hl with | [_,_],_=>rfl))
  (case n40=>k_is); (case l40=>k_is); (case c40=>k_is); (case k40=>k_is); (case b40=>(intro us hl; exact match us,hl with | [_,_],_=>rfl))
  (case n41=>k_is); (case l41=>k_is); (case c41=>k_is); (case k41=>k_is); (case b41=>(intro us hl; exact match us,hl with | [_],_=>rfl))
  (case n42=>k_is); (case l42=>k_is); (case c42=>k_is); (case k42=>k_is); (case b42=>(intro us hl; exact match us,hl with | [_],_=>rfl))
  (case n43=>k_is); (case l43=>k_is); (case c43=>k_is); (case k43=>k_is); (case b43=>(intro us hl; exact match us,hl with | [_],_=>rfl))
  (case n44=>k_is); (case l44=>k_is); (case c44=>k_is); (case k44=>k_is); (case b44=>(intro us hl; exact match us,hl with | [_],_=>rfl))
  (case n45=>k_is); (case l45=>k_is); (case c45=>k_is); (case k45=>k_is); (case b45=>(intro us hl; exact match us,hl with | [_],_=>rfl))
  (case n46=>k_is); (case l46=>k_is); (case c46=>k_is); (case k46=>k_is); (case b46=>(intro us hl; exact match us,hl with | [_],_=>rfl))
  (case n47=>k_is); (case l47=>k_is); (case c47=>k_is); (case k47=>k_is); (case b47=>(intro us hl; exact match us,hl with | [_,_],_=>rfl))
  (case n48=>k_is); (case l48=>k_is); (case c48=>k_is); (case k48=>k_is); (case b48=>(intro us hl; exact match us,hl with | [_,_,_],_=>rfl))
  (case n49=>k_is); (case l49=>k_is); (case c49=>k_is); (case k49=>k_is); (case b49=>(intro us hl; exact match us,hl with | [_,_],_=>rfl))
  (case n50=>k_is); (case l50=>k_is); (case c50=>k_is); (case k50=>k_is); (case b50=>(intro us hl; exact match us,hl with | [_,_,_],_=>rfl))
  (case n51=>k_is); (case l51=>k_is); (case c51=>k_is); (case k51=>k_is); (case b51=>(intro us hl; exact match us,hl with | [_,_],_=>rfl))
  (case n52=>k_is); (case l52=>k_is); (case c52=>k_is); (case k52=>k_is); (case b52=>(intro us hl; exact match us,hl with | [_],_=>rfl))
  (case n53=>k_is); (case l53=>k_is); (case c53=>k_is); (case k53=>k_is); (case b53=>(intro us hl; exact match us,hl with | [_],_=>rfl))
  (case n54=>k_is); (case l54=>k_is); (case c54=>k_is); (case k54=>k_is); (case b54=>(intro us hl; exact match us,hl with | [_],_=>rfl))
  (case n55=>k_is); (case l55=>k_is); (case c55=>k_is); (case k55=>k_is); (case b55=>(intro us hl; exact match us,hl with | [_],_=>rfl))
  (case z_abs=>k_is); (case z_bool=>k_is); (case z_enumerate=>k_is); (case z_int=>k_is); (case z_isinstance=>k_is); (case z_len=>k_is); (case z_list=>k_is); (case z_max=>k_is); (case z_min=>k_is); (case z_range=>k_is); (case z_reversed=>k_is); (case z_tuple=>k_is); (case z_zip=>k_is); (case c0_AXIS_RAY=>k_is); (case c1_AXIS_RAY=>k_is); (case c2_AXIS_RAY=>k_is); (case c3_AXIS_RAY=>k_is); (case c0_FIRST_ROUNDS=>k_is); (case c0_FOUR=>k_is); (case c1_FOUR=>k_is); (case c0_LEVEL_RAY=>k_is); (case c1_LEVEL_RAY=>k_is); (case c2_LEVEL_RAY=>k_is); (case c3_LEVEL_RAY=>k_is); (case c0_NOUGHT=>k_is); (case c1_NOUGHT=>k_is); (case c0_ONE=>k_is); (case c1_ONE=>k_is); (case c0_SELF=>k_is); (case c1_SELF=>k_is); (case c2_SELF=>k_is); (case c3_SELF=>k_is); (case c4_SELF=>k_is); (case c5_SELF=>k_is); (case c0_TWO=>k_is); (case c1_TWO=>k_is)
end
