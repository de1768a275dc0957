import PyProof.Rows.All
import Wide.All
import OpenK.AllK
import Wide.FinOn
import PyProof.EqAt
import PyProof.EqKinds
import PyProof.TupleCall
import PyProof.ZipIter
import PyProof.EnumMake
import PyProof.EnumFor
import PyProof.Rows.EnumRows
import PyProof.CompMap
import PyProof.CompUse
import KE.KRevSl
import KE.KRevIter
import PyProof.ListRange
import PyProof.AutoRange
import PyProof.FactsAll.range_2
import PyProof.MaxThree
import KE.RegKTryMore
import PyProof.Rows.SumAny
import Lean
import PySem.Challenge.RW_roundglass_k42_late_lines_judged
set_option compiler.extract_closed false
set_option Elab.async false
set_option linter.all false
set_option maxRecDepth 100000
section
namespace L2
open PySem PySem.Spec PyProof.Rows

noncomputable abbrev Key:=Sum Int Str
noncomputable def keyIs:Key→Value→Bool
  | .inl k,v=>Value.isInt k v
  | .inr x,v=>Value.isStrOf x v
noncomputable def keyH (w:World):Key→Int
  | .inl k=>hashInt k
  | .inr x=>hashStr w x
theorem keyIs_shape:∀ {k:Key} {v:Value},keyIs k v=true→(∃ i t,k=Sum.inl i∧v=Value.int i t)∨(∃ x t,k=Sum.inr x∧v=Value.str x t)
  | .inl i,v,h=>by
    obtain ⟨t,e⟩:=Value.isInt_shape (k:=i) (v:=v) h
    exact .inl ⟨i,t,rfl,e⟩
  | .inr x,v,h=>by
    obtain ⟨t,e⟩:=Value.isStrOf_shape (x:=x) (v:=v) h
    exact .inr ⟨x,t,rfl,e⟩
theorem key_ll (a b:Int):decide ((Sum.inl a:Key)=Sum.inl b)=(a == b):=by
  by_cases e:a=b
  · subst e; simp
  · have h:¬ (Sum.inl a:Key)=Sum.inl b:=fun q=>e (Sum.inl.inj q)
    rw [decide_eq_false h]
    exact (beq_eq_false_iff_ne.mpr e).symm
theorem key_rr (a b:Str):decide ((Sum.inr a:Key)=Sum.inr b)=decide (a=b):=by
  by_cases e:a=b
  · subst e; simp
  · have h:¬ (Sum.inr a:Key)=Sum.inr b:=fun q=>e (Sum.inr.inj q)
    rw [decide_eq_false h,decide_eq_false e]
theorem key_lr (a:Int) (b:Str):decide ((Sum.inl a:Key)=Sum.inr b)=false:=decide_eq_false (fun q=>nomatch q)
theorem key_rl (a:Str) (b:Int):decide ((Sum.inr a:Key)=Sum.inl b)=false:=decide_eq_false (fun q=>nomatch q)

noncomputable def mixKind (prog:Program) (w:World):PySem.KeyKind prog w Key where
  is:=keyIs
  hash:=keyH w
  inj:=fun v a b ha hb=>by
    rcases keyIs_shape ha with ⟨i,t,rfl,rfl⟩ | ⟨x,t,rfl,rfl⟩
    · rcases keyIs_shape hb with ⟨j,u,rfl,e⟩ | ⟨y,u,rfl,e⟩
      · injection e with e1 _; rw [e1]
      · exact nomatch e
    · rcases keyIs_shape hb with ⟨j,u,rfl,e⟩ | ⟨y,u,rfl,e⟩
      · exact nomatch e
      · injection e with e1 _; rw [e1]
  byValue:=fun k v h=>by
    rcases keyIs_shape h with ⟨i,t,rfl,rfl⟩ | ⟨x,t,rfl,rfl⟩ <;> rfl
  pyHash:=fun hv h=>by
    rcases keyIs_shape hv with ⟨i,t,rfl,rfl⟩ | ⟨x,t,rfl,rfl⟩
    · exact wpAny_pyHash_int h
    · exact wpAny_pyHash_str h
  eqBool:=fun hu hv h=>by
    rcases keyIs_shape hu with ⟨i,t,rfl,rfl⟩ | ⟨x,t,rfl,rfl⟩
    · rcases keyIs_shape hv with ⟨j,u,rfl,rfl⟩ | ⟨y,u,rfl,rfl⟩
      · rw [key_ll] at h; exact wpAny_eqBool_int h
      · rw [key_lr] at h; exact SeqAt.EqAt.int_str i t y u _ _ _ _ h
    · rcases keyIs_shape hv with ⟨j,u,rfl,rfl⟩ | ⟨y,u,rfl,rfl⟩
      · rw [key_rl] at h; exact SeqAt.EqAt.str_int x t j u _ _ _ _ h
      · rw [key_rr] at h; exact wpAny_eqBool_str h
  «strs»:=fun k x t v h=>by
    rcases keyIs_shape h with ⟨i,u,rfl,e⟩ | ⟨y,u,rfl,e⟩
    · exact nomatch e
    · injection e with e1 _
      subst e1
      cases v <;> rfl

end L2

namespace L2
open PySem PySem.Spec PyProof.Rows

inductive V where
  | non | bl (b:Bool) | int (i:Int) | str (x:Str) | byt (b:Array UInt8) | flt (b:UInt64) | ref (a:Addr) | ty (n:String)
  deriving DecidableEq

noncomputable def RelV:V→Value→Prop
  | .non,u=>u=Value.none
  | .bl b,u=>u=Value.bool b
  | .int i,u=>∃ t,u=Value.int i t
  | .str x,u=>∃ t,u=Value.str x t
  | .byt b,u=>∃ t,u=Value.bytes b t
  | .flt b,u=>∃ t,u=Value.float b t
  | .ref a,u=>u=Value.ref a
  | .ty n,u=>u=Value.type n

noncomputable abbrev Vals:List V→List Value→Prop:=Paired RelV
theorem Vals.length {xs:List V} {us:List Value} (r:Vals xs us):xs.length=us.length:=Paired.length r
theorem Vals.get:∀ {xs:List V} {us:List Value} {i:Nat} {x:V},Vals xs us→xs[i]? = some x→∃ u,us[i]? = some u∧RelV x u
  | _,_,_,_,.nil,e=>by simp at e
  | _,_,0,_,.cons r _,e=>by simp at e; subst e; exact ⟨_,rfl,r⟩
  | _,_,i+1,x,.cons _ t,e=>by
    obtain ⟨u,h1,h2⟩:=Vals.get (i:=i) (x:=x) t (by simpa using e)
    exact ⟨u,by simpa using h1,h2⟩
theorem Vals.set {x:V} {u:Value} (r:RelV x u):∀ {xs:List V} {us:List Value} (i:Nat),Vals xs us→Vals (xs.set i x) (us.set i u)
  | _,_,_,.nil=>.nil
  | _,_,0,.cons _ t=>.cons r t
  | _,_,i+1,.cons q t=>.cons q (Vals.set r i t)
theorem Vals.append:∀ {xs ys:List V} {us ws:List Value},Vals xs us→Vals ys ws→Vals (xs++ys) (us++ws)
  | _,_,_,_,.nil,s=>s
  | _,_,_,_,.cons r t,s=>.cons r (Vals.append t s)
theorem Vals.take:∀ {xs:List V} {us:List Value} (n:Nat),Vals xs us→Vals (xs.take n) (us.take n)
  | _,_,0,_=>.nil
  | _,_,_+1,.nil=>.nil
  | _,_,n+1,.cons r t=>.cons r (Vals.take n t)
theorem Vals.drop:∀ {xs:List V} {us:List Value} (n:Nat),Vals xs us→Vals (xs.drop n) (us.drop n)
  | _,_,0,r=>r
  | _,_,_+1,.nil=>.nil
  | _,_,n+1,.cons _ t=>Vals.drop n t
noncomputable def RelO:Option V→Option Value→Prop
  | some v,some u=>RelV v u
  | none,none=>True
  | _,_=>False
noncomputable def KV {κ:Type}:List (κ × V)→List (κ × Value)→Prop:=Paired fun (p:κ × V) (q:κ × Value)=>p.1=q.1∧RelV p.2 q.2

noncomputable def kV:Key→V
  | .inl i=>.int i
  | .inr x=>.str x

inductive HO where
  /-- a list -/
  | lst (xs:List V)
  /-- a tuple (never changes) -/
  | tup (xs:List V)
  /-- a dict whose keys are ints and texts; one whose keys are tuples of ints and texts (the empty one is both) -/
  | dK (kvs:List (Key × V)) | dT (kvs:List (List Key × V))
  /-- a set of ints: its members, its size -/
  | set (S:Int→Bool) (n:Nat)
  /-- an instance of the class at C, its dict at dx, its attributes -/
  | ins (C dx:Addr) (fs:List (Str × V))
  /-- the dict of the instance at x -/
  | own (x:Addr)
  /-- the dict of an exception -/
  | xd (fs:List (Str × V))
  /-- a bound method, f of x -/
  | met (f x:Addr)
  /-- a range object lo, lo + 1, .. below hi -/
  | rng (lo hi:Int)
  /-- a thing that is known to the object (the script; a dict while a loop walks it): read, never written while it is so -/
  | frz (o:Obj) (u:HO)
  /-- a code object's table -/
  | tbl (ps:Array Value)
  /-- any other thing, by what is true of its one object (a def of one's own: SetO a S n := HO.ext fun h => ..) -/
  | ext (φ:Heap→Prop)

noncomputable abbrev Hp:=Addr→Option HO
noncomputable def upd (H:Hp) (a:Addr) (o:HO):Hp:=fun b=>if b=a then some o else H b
theorem upd_same {H:Hp} {a:Addr} {o:HO}:upd H a o a=some o:=by unfold upd; rw [if_pos rfl]
theorem upd_ne {H:Hp} {a b:Addr} {o:HO} (h:b≠a):upd H a o b=H b:=by unfold upd; rw [if_neg h]
theorem upd_upd {H:Hp} {a:Addr} {o u:HO}:upd (upd H a o) a u=upd H a u:=by
  funext b; unfold upd; split <;> rfl
theorem ne_of_none {H:Hp} {a b:Addr} {o:HO} (h:H a=some o) (h':H b=none):a≠b:=by
  intro e; subst e; rw [h] at h'; cases h'

section
variable (P:Program) (w:World)
noncomputable def ObjOk (H:Hp) (h:Heap) (a:Addr):HO→Prop
  | .lst xs=>xs.length≤sizeLine∧∃ (its:List Value) (n:Nat),Vals xs its∧h.get? a=some { cls:=.type "list",data:=.seq its.toArray n }
  | .tup xs=>xs.length≤sizeLine∧∃ its:List Value,Vals xs its∧IsTup h a its.toArray
  | .dK kvs=>kvs.length≤sizeLine∧(a == sysModules)=false∧∃ vs,KV kvs vs∧h.DictOf (mixKind P w) a vs
  | .dT kvs=>kvs.length≤sizeLine∧(a == sysModules)=false∧∃ xs:List (List Key × Addr × Value),
      Paired (fun (p:List Key × V) (q:List Key × Addr × Value)=>p.1=q.1∧H q.2.1=some (.tup (p.1.map kV))∧RelV p.2 q.2.2) kvs xs ∧
      ∃ o es ep,h.get? a=some o∧o.ExactDict∧o.data = .dict es ep∧es.toList=xs.map (entryOfKey (tupleKind (mixKind P w)))∧(xs.map (·.1)).Nodup
  | .set S n=>h.SetOf (intKind P w) a S n
  | .ins C dx fs=>H dx=some (.own a)∧fs.length≤1000∧dx≠a∧h.get? a=some (PySem.W.instObj C dx) ∧
      ∃ mA,h.Ns1 dx mA∧(∀ f,RelO (fs.lookup f) (mA f))∧PySem.Within mA (fs.map (·.1))
  | .own _=>∃ o,h.get? a=some o
  | .xd fs=>∃ mA,h.Ns1 a mA∧∀ f,RelO (fs.lookup f) (mA f)
  | .rng lo hi=>∃ t u v,h.get? a=some { cls:=.type "range",data:=.fields #[.int lo t,.int hi u,.int 1 v] }
  | .frz o u=>h.get? a=some o∧ObjOk H h a u
  | .tbl ps=>h.get? a=some { cls:=.none,data:=.fields ps }
  | .met f x=>h.get? a=some (PySem.W.methodObj (.ref f) (.ref x))
  | .ext φ=>φ h∧(∃ o,h.get? a=some o)∧∀ h1 h2:Heap,φ h1→(∀ o,h1.get? a=some o→h2.get? a=some o)→φ h2
noncomputable def HOk (H:Hp) (h:Heap):Prop:=∀ a o,H a=some o→ObjOk P w H h a o
end

section
variable {P:Program} {w:World} {H H':Hp} {h h':Heap} {a:Addr} {o:HO}
theorem ObjOk.lt (x:ObjOk P w H h a o):a<h.objs.size:=by
  cases o with
  | lst xs=>obtain ⟨_,_,_,_,e⟩:=x; exact Heap.lt_size e
  | tup xs=>obtain ⟨_,_,_,p⟩:=x; exact p.lt
  | dK kvs=>obtain ⟨_,_,_,_,o,_,_,e,_⟩:=x; exact Heap.lt_size e
  | dT kvs=>obtain ⟨_,_,_,_,o,_,_,e,_⟩:=x; exact Heap.lt_size e
  | set S n=>obtain ⟨o,_,_,_,e,_⟩:=x; exact Heap.lt_size e
  | ins C dx fs=>obtain ⟨_,_,_,e,_⟩:=x; exact Heap.lt_size e
  | own y=>obtain ⟨_,e⟩:=x; exact Heap.lt_size e
  | xd fs=>obtain ⟨_,⟨_,_,_,e,_⟩,_⟩:=x; exact Heap.lt_size e
  | rng lo hi=>obtain ⟨_,_,_,e⟩:=x; exact Heap.lt_size e
  | frz ob u=>obtain ⟨e,_⟩:=x; exact Heap.lt_size e
  | tbl ps=>exact Heap.lt_size (show h.get? a=some _ from x)
  | met f y=>exact Heap.lt_size (show h.get? a=some _ from x)
  | ext φ=>obtain ⟨_,⟨_,e⟩,_⟩:=x; exact Heap.lt_size e
theorem Paired.mapP {α β:Type} {F G:α→β→Prop}:∀ {l₁:List α} {l₂:List β},Paired F l₁ l₂→(∀ a b,F a b→G a b)→Paired G l₁ l₂
  | _,_,.nil,_=>.nil
  | _,_,.cons r t,f=>.cons (f _ _ r) (Paired.mapP t f)
theorem ObjOk.stay (x:ObjOk P w H h a o) (k:∀ b u,(b=a∨H b=some (.own a))→h.get? b=some u→h'.get? b=some u)
    (ho:∀ b,H b=some (.own a)→H' b=some (.own a)) (ht:∀ b xs,H b=some (.tup xs)→H' b=some (.tup xs)):ObjOk P w H' h' a o:=by
  induction o with
  | lst xs=>obtain ⟨z,its,n,r,e⟩:=x; exact ⟨z,its,n,r,k _ _ (.inl rfl) e⟩
  | tup xs=>obtain ⟨z,its,r,ob,e,c⟩:=x; exact ⟨z,its,r,ob,k _ _ (.inl rfl) e,c⟩
  | dK kvs=>obtain ⟨z,y,vs,r,ob,es,ep,e,c⟩:=x; exact ⟨z,y,vs,r,ob,es,ep,k _ _ (.inl rfl) e,c⟩
  | dT kvs =>
    obtain ⟨z,y,xs,r,ob,es,ep,e,c⟩:=x
    exact ⟨z,y,xs,Paired.mapP r fun p q z=>⟨z.1,ht _ _ z.2.1,z.2.2⟩,ob,es,ep,k _ _ (.inl rfl) e,c⟩
  | set S n=>obtain ⟨ob,es,ep,t,e,c⟩:=x; exact ⟨ob,es,ep,t,k _ _ (.inl rfl) e,c⟩
  | ins C dx fs =>
    obtain ⟨d,z,ne,e,mA,⟨od,es,ep,e2,c⟩,r⟩:=x
    exact ⟨ho _ d,z,ne,k _ _ (.inl rfl) e,mA,⟨od,es,ep,k _ _ (.inr d) e2,c⟩,r⟩
  | own y=>obtain ⟨ob,e⟩:=x; exact ⟨ob,k _ _ (.inl rfl) e⟩
  | xd fs=>obtain ⟨mA,⟨od,es,ep,e,c⟩,r⟩:=x; exact ⟨mA,⟨od,es,ep,k _ _ (.inl rfl) e,c⟩,r⟩
  | rng lo hi=>obtain ⟨t,u,v,e⟩:=x; exact ⟨t,u,v,k _ _ (.inl rfl) e⟩
  | frz ob u ih=>obtain ⟨e,q⟩:=x; exact ⟨k _ _ (.inl rfl) e,ih q⟩
  | tbl ps =>
    have e:h.get? a=some { cls:=.none,data:=.fields ps }:=x
    show h'.get? a=some { cls:=.none,data:=.fields ps }
    exact k a _ (.inl rfl) e
  | met f y =>
    have e:h.get? a=some (PySem.W.methodObj (.ref f) (.ref y)):=x
    show h'.get? a=some (PySem.W.methodObj (.ref f) (.ref y))
    exact k a _ (.inl rfl) e
  | ext φ=>obtain ⟨p,⟨o,e⟩,st⟩:=x; exact ⟨st _ _ p fun o q=>k _ _ (.inl rfl) q,⟨o,k _ _ (.inl rfl) e⟩,st⟩
theorem HOk.lt (x:HOk P w H h) (e:H a=some o):a<h.objs.size:=(x a o e).lt
theorem HOk.fresh (x:HOk P w H h) (e:h.objs.size≤a):H a=none:=by
  cases q:H a with
  | none=>rfl
  | some u=>exact absurd (Nat.lt_of_lt_of_le (x.lt q) e) (Nat.lt_irrefl _)
theorem HOk.kept (x:HOk P w H h) (k:∀ b u,h.get? b=some u→h'.get? b=some u):HOk P w H h':=fun a o e =>
  (x a o e).stay (fun b u _ q=>k b u q) (fun _ q=>q) fun _ _ q=>q
theorem HOk.laid (x:HOk P w H h) (k:∀ b u,h.get? b=some u→h'.get? b=some u) (hp:h.objs.size≤a) (new:ObjOk P w (upd H a o) h' a o):HOk P w (upd H a o) h':=fun b u e=>by
  have hn:=x.fresh hp
  by_cases hb:b=a
  · subst hb; rw [upd_same] at e; cases e; exact new
  · rw [upd_ne hb] at e
    exact (x b u e).stay (fun c v _ q=>k c v q) (fun c q=>by rw [upd_ne (ne_of_none q hn)]; exact q) fun c xs q=>by rw [upd_ne (ne_of_none q hn)]; exact q
end

noncomputable def Rd (H:Hp) (a:Addr) (u:HO):Prop:=H a=some u ∨ ∃ o,H a=some (.frz o u)
theorem Rd.of {H:Hp} {a:Addr} {u:HO} (h:H a=some u):Rd H a u:=.inl h
theorem Rd.ok {P:Program} {w:World} {H:Hp} {h:Heap} {a:Addr} {u:HO} (r:Rd H a u) (x:HOk P w H h):ObjOk P w H h a u:=by
  rcases r with r | ⟨o,r⟩
  · exact x a u r
  · obtain ⟨_,q⟩:=x a _ r
    exact q
noncomputable def Mut:Option HO→Prop
  | some (.lst _)=>True
  | some (.dK _)=>True
  | some (.dT _)=>True
  | some (.set _ _)=>True
  | some (.ins _ _ _)=>True
  | some (.ext _)=>True
  | _=>False
section
variable {P:Program} {w:World} {H:Hp} {h h':Heap} {x e:Addr} {o':HO}
theorem HOk.write (ok:HOk P w H h) (mu:Mut (H x)) (he:e=x∨H e=some (.own x)) (k:∀ b u,b≠e→h.get? b=some u→h'.get? b=some u) (heo:∃ u,h'.get? e=some u)
    (new:ObjOk P w (upd H x o') h' x o'):HOk P w (upd H x o') h':=fun b u q=>by
  have nown:∀ c y,H c=some (.own y)→c≠x:=fun c y r z=>by subst z; rw [r] at mu; exact mu
  have ntup:∀ c xs,H c=some (.tup xs)→c≠x:=fun c xs r z=>by subst z; rw [r] at mu; exact mu
  by_cases hb:b=x
  · subst hb; rw [upd_same] at q; cases q; exact new
  · rw [upd_ne hb] at q
    by_cases hbe:b=e
    · have q':H b=some (.own x):=by
        rcases he with z | z
        · exact absurd (hbe.trans z) hb
        · rw [hbe]; exact z
      rw [q] at q'; cases q'
      obtain ⟨v,hv⟩:=heo
      exact ⟨v,by rw [hbe]; exact hv⟩
    · refine (ok b u q).stay (fun c v hc r=>k c v ?_ r) (fun c r=>by rw [upd_ne (nown c b r)]; exact r) fun c xs r=>by rw [upd_ne (ntup c xs r)]; exact r
      rcases hc with rfl | hc
      · exact hbe
      · rintro rfl
        rcases he with z | z
        · exact nown c b hc z
        · rw [hc] at z; cases z; exact hb rfl
end

structure Un (fs ex:List Addr) (H H':Hp) (h h':Heap):Prop where
  keep:∀ b o,h.get? b=some o→H b=none→b∉fs→b∉ex→h'.get? b=some o
  slot:∀ b o,h.get? b=some o→H b=none→b∈fs→b∉ex→∃ sl,h'.get? b=some { o with slots:=sl }
  free:∀ b o,h.get? b=some o→H b=none→b∉ex→H' b=none
  there:∀ b o,h.get? b=some o→b∉ex→∃ o',h'.get? b=some o'
  tups:∀ b xs,H b=some (.tup xs)→H' b=some (.tup xs)
  frzs:∀ b o u,H b=some (.frz o u)→H' b=some (.frz o u)
  tbls:∀ b ps,H b=some (.tbl ps)→∃ more,H' b=some (.tbl (ps++more))
section
variable {fs fs' ex ex':List Addr} {H H1 H2:Hp} {h h1 h2 h':Heap} {a x e:Addr} {o:HO}
theorem Un.any (u:Un fs ex H H1 h h1) {b:Addr} {ob:Obj} (q:h.get? b=some ob) (n:H b=none) (hx:b∉ex):∃ sl,h1.get? b=some { ob with slots:=sl }:=by
  by_cases hb:b∈fs
  · exact u.slot b ob q n hb hx
  · exact ⟨ob.slots,u.keep b ob q n hb hx⟩
theorem Un.trans (a:Un fs ex H H1 h h1) (b:Un fs ex H1 H2 h1 h2):Un fs ex H H2 h h2 where
  keep:=fun c ob q n hc hx=>b.keep c ob (a.keep c ob q n hc hx) (a.free c ob q n hx) hc hx
  slot:=fun c ob q n hc hx=>by
    obtain ⟨sl,e1⟩:=a.slot c ob q n hc hx
    obtain ⟨sl',e2⟩:=b.slot c _ e1 (a.free c ob q n hx) hc hx
    exact ⟨sl',e2⟩
  free:=fun c ob q n hx=>by
    obtain ⟨o',e1⟩:=a.there c ob q hx
    exact b.free c o' e1 (a.free c ob q n hx) hx
  there:=fun c ob q hx=>by
    obtain ⟨o',e1⟩:=a.there c ob q hx
    exact b.there c o' e1 hx
  tups:=fun c xs q=>b.tups c xs (a.tups c xs q)
  frzs:=fun c ob xs q=>b.frzs c ob xs (a.frzs c ob xs q)
  tbls:=fun c ps q=>by
    obtain ⟨m1,e1⟩:=a.tbls c ps q
    obtain ⟨m2,e2⟩:=b.tbls c _ e1
    exact ⟨m1++m2,by rw [e2,Array.append_assoc]⟩
theorem Un.kept (k:∀ b u,h.get? b=some u→h'.get? b=some u):Un fs ex H H h h' :=
  ⟨fun b ob q _ _ _=>k b ob q,fun b ob q _ _ _=>⟨ob.slots,k b ob q⟩,fun _ _ _ n _=>n,fun b ob q _=>⟨ob,k b ob q⟩,fun _ _ q=>q,fun _ _ _ q=>q,fun _ ps q=>⟨#[],by rw [q]; simp⟩⟩
theorem Un.refl:Un fs ex H H h h:=Un.kept fun _ _ q=>q
theorem Un.laid (k:∀ b u,h.get? b=some u→h'.get? b=some u) (hp:h.objs.size≤a) (hn:H a=none):Un fs ex H (upd H a o) h h' where
  keep:=fun b u q _ _ _=>k b u q
  slot:=fun b u q _ _ _=>⟨u.slots,k b u q⟩
  free:=fun b u q n _=>by rw [upd_ne (Nat.ne_of_lt (Nat.lt_of_lt_of_le (Heap.lt_size q) hp))]; exact n
  there:=fun b u q _=>⟨u,k b u q⟩
  tups:=fun b xs q=>by rw [upd_ne (ne_of_none q hn)]; exact q
  frzs:=fun b u xs q=>by rw [upd_ne (ne_of_none q hn)]; exact q
  tbls:=fun b ps q=>⟨#[],by rw [upd_ne (ne_of_none q hn),q]; simp⟩
theorem Un.write (mu:Mut (H x)) (he:e=x∨H e=some (.own x)) (k:∀ b u,b≠e→h.get? b=some u→h'.get? b=some u) (heo:∃ u,h'.get? e=some u):Un fs ex H (upd H x o) h h':=by
  have hx:∀ b,H b=none→b≠x:=fun b n z=>by subst z; rw [n] at mu; exact mu
  have hb:∀ b,H b=none→b≠e:=fun b n z=>by
    subst z
    rcases he with r | r
    · exact hx b n r
    · rw [n] at r; cases r
  have hm:∀ b u,H b=some u→¬ Mut (some u)→b≠x:=fun b u q nm z=>by subst z; rw [q] at mu; exact nm mu
  refine ⟨fun b u q n _ _=>k b u (hb b n) q,fun b u q n _ _=>⟨u.slots,k b u (hb b n) q⟩,fun b u q n _=>by rw [upd_ne (hx b n)]; exact n,fun b u q _=>?_,
    fun b xs q=>by rw [upd_ne (hm b _ q fun z=>z)]; exact q,fun b u xs q=>by rw [upd_ne (hm b _ q fun z=>z)]; exact q,fun b ps q=>⟨#[],by rw [upd_ne (hm b _ q fun z=>z),q]; simp⟩⟩
  by_cases hbe:b=e
  · subst hbe; exact heo
  · exact ⟨u,k b u hbe q⟩
theorem Un.mono (u:Un fs ex H H1 h h1) (hs:∀ b∈fs,b∈fs') (hx:∀ b∈ex,b∈ex'):Un fs' ex' H H1 h h1 :=
  ⟨fun b ob q n hb he=>u.keep b ob q n (fun z=>hb (hs b z)) fun z=>he (hx b z),fun _ _ q n _ he=>u.any q n fun z=>he (hx _ z),fun b ob q n he=>u.free b ob q n fun z=>he (hx b z),fun b ob q he=>u.there b ob q fun z=>he (hx b z),u.tups,u.frzs,u.tbls⟩
end

noncomputable def trk (h:Heap) (H:Hp):List Addr:=(List.range h.objs.size).filter fun a=>(H a).isSome
noncomputable def hidT (h:Heap) (H:Hp):Heap:=PySem.W.hideAll h (trk h H)
theorem hidT_size (h:Heap) (H:Hp):(hidT h H).objs.size=h.objs.size:=PySem.W.hideAll_size _ _
theorem hidT_get {h:Heap} {H:Hp} {b:Addr} {o:Obj} (e:h.get? b=some o) (n:H b=none):(hidT h H).get? b=some o :=
  PySem.W.hideAll_get _ e fun hm=>by
    have q:(H b).isSome=true:=(List.mem_filter.mp hm).2
    rw [n] at q; simp at q
theorem of_hidT {h:Heap} {H:Hp} {b:Addr} {o:Obj} (e:(hidT h H).get? b=some o):h.get? b=some o∧H b=none:=by
  have e':h.get? b=some o:=PySem.W.of_hideAll (trk h H) e
  refine ⟨e',?_⟩
  cases q:H b with
  | none=>rfl
  | some x =>
    have hm:b∈trk h H:=List.mem_filter.mpr ⟨List.mem_range.mpr (Heap.lt_size e'),by simp [q]⟩
    have z:(hidT h H).get? b=none:=PySem.W.hideAll_none (trk h H) hm
    rw [z] at e; cases e

noncomputable def allNews (g h:Heap) (L:Addr):List (Addr × Obj):=(List.range h.objs.size).filterMap fun a=>if a=L∨(g.get? a).isSome=true then none else (h.get? a).map fun o=>(a,o)
noncomputable def rest (g h:Heap) (L d:Addr):List (Addr × Obj):=(allNews g h L).filter fun p=>decide (p.1≠d)
end L2

namespace L2
open PySem PySem.Spec PyProof.Rows

structure Mod (K:PySem.W.Frag) (mg:Str→Option Value) (base:Heap):Prop where
  kin:K.In base
  glob:base.Ns mainGlobals mg
  blt:∃ mb,base.Ns builtinsNs mb∧∀ x:Str,x ≠ "__name__" → mb x=bootBuiltins x
  nolimit:base.NoLimit

structure Cx where
  prog:Program
  w:World
  K:PySem.W.Frag
  mg:Str→Option Value
  base:Heap
  A:Around
  N:List Str
  s₀:Shared
  H₀:Hp
  env:Env
  outer:List Env
  stack:List Env
  ex:List Addr
  fn:Str→Bool
  calm:Bool
  pn:List (Addr × Obj)
  xe:Value→Shared→Prop
noncomputable def frs (l:List Env):List Addr:=l.filterMap (·.frame)
noncomputable abbrev Cx.fs (X:Cx):List Addr:=frs X.outer

noncomputable def Vis (sc:Scope) (x:Str):Prop:=sc.names.lookup x=some .local∨sc.names.lookup x=some .cell∨sc.names.lookup x=some .free
noncomputable def Loc (sc:Scope) (x:Str):Prop:=sc.names.lookup x=some .local∨sc.names.lookup x=some .cell
noncomputable def Look (env:Env) (h:Heap) (m:Str→Option Value) (x:Str) (u:Value):Prop :=
  (env.kindOf x=some .local∧m x=some u)∨((env.kindOf x=some .cell∨env.kindOf x=some .free)∧∃ c,env.cells.lookup x=some c∧h.IsCell c (some u))

structure Cx.Ok (X:Cx):Prop where
  mod:Mod X.K X.mg X.base
  kind:X.env.scope.kind = .function
  glob:X.env.globals=mainGlobals
  blt:X.env.builtins=builtinsNs
  above:X.s₀.heap.objs.size≤X.env.locals
  inj:∀ x y c,X.env.cells.lookup x=some c→X.env.cells.lookup y=some c→x=y
  has:∀ x,(X.env.kindOf x=some .cell∨X.env.kindOf x=some .free)→∃ c,X.env.cells.lookup x=some c
  cab:∀ x c,X.fn x=true→X.env.cells.lookup x=some c→X.s₀.heap.objs.size≤c
  hd:X.calm=true→X.A.handled=none
  frames:X.A.frames=some X.stack
  stk:X.stack=X.outer∨(X.stack=X.env :: X.outer∧X.env.frame=some X.env.locals)
  exf:∀ b∈X.ex,b≠X.env.locals∧∀ x c,X.env.cells.lookup x=some c→c≠b
  bs:∀ b o,X.base.get? b=some o→X.s₀.heap.get? b=some o∧X.H₀ b=none
  bsz:X.base.objs.size≤X.s₀.heap.objs.size
  noex:∀ b o,X.base.get? b=some o→b∉X.ex
  exfs:∀ b∈X.ex,b∉X.fs
  funs:X.s₀.heap.FunFrames X.base X.outer
  frf:∀ b∈X.fs,X.H₀ b=none

structure Inv (X:Cx) (pins:List (Addr × Obj)) (σ:List (Option V)) (H:Hp) (s:Shared):Prop where
  ok:X.Ok
  os:s.os=X.s₀.os
  bare:AllBare s.gens
  base:Un X.fs X.ex X.H₀ H X.s₀.heap s.heap
  loc:∃ m,s.heap.Ns X.env.locals m∧∀ (i:Nat) (x:Str) (v:V),X.N[i]? = some x→σ[i]? = some (some v)→Vis X.env.scope x→∃ u,RelV v u∧Look X.env s.heap m x u
  cell:∀ x c,X.env.cells.lookup x=some c→∃ v,s.heap.IsCell c v
  free:H X.env.locals=none
  freeC:∀ x c,X.env.cells.lookup x=some c→H c=none
  pin:∀ p∈X.pn++pins,s.heap.get? p.1=some p.2∧H p.1=none∧p.1≠X.env.locals∧p.1∉X.fs∧∀ v,p.2.data ≠ .cell v
  hok:HOk X.prog X.w H s.heap
  len:σ.length=X.N.length

section
variable {X:Cx} {pins:List (Addr × Obj)} {σ:List (Option V)} {H H':Hp} {s:Shared} {h':Heap}

theorem Cx.Ok.nofr (ok:X.Ok) {b:Addr} {o:Obj} (e:X.base.get? b=some o):b∉X.fs:=fun hb=>by
  have:=(ok.funs.mem hb).1
  rw [e] at this; cases this
theorem Inv.bs (I:Inv X pins σ H s):∀ b o,X.base.get? b=some o→s.heap.get? b=some o∧H b=none:=fun b o e =>
  ⟨I.base.keep b o (I.ok.bs b o e).1 (I.ok.bs b o e).2 (I.ok.nofr e) (I.ok.noex b o e),I.base.free b o (I.ok.bs b o e).1 (I.ok.bs b o e).2 (I.ok.noex b o e)⟩
theorem Inv.bk (I:Inv X pins σ H s):∀ b o,X.base.get? b=some o→s.heap.get? b=some o:=fun b o e=>(I.bs b o e).1
theorem Inv.mod (I:Inv X pins σ H s):Mod X.K X.mg X.base:=I.ok.mod
theorem Inv.kIn (I:Inv X pins σ H s):X.K.In s.heap:=I.ok.mod.kin.keeps I.bk
theorem Inv.nolimit (I:Inv X pins σ H s):s.heap.NoLimit:=I.ok.mod.nolimit.keeps I.bk
theorem Inv.fr (I:Inv X pins σ H s):∃ m,Fr X.base X.env.locals s.heap m :=
  let ⟨m,hn,_⟩:=I.loc
  ⟨m,hn,I.bk,Nat.le_trans I.ok.bsz I.ok.above⟩
theorem Inv.lt (I:Inv X pins σ H s):X.env.locals<s.heap.objs.size:=let ⟨_,hn,_⟩:=I.loc; hn.lt
theorem Inv.sz (I:Inv X pins σ H s):X.s₀.heap.objs.size≤s.heap.objs.size:=Nat.le_trans I.ok.above (Nat.le_of_lt I.lt)
theorem Inv.nofs (I:Inv X pins σ H s) {a:Addr} (h:s.heap.objs.size≤a):a∉X.fs:=fun hb=>by
  obtain ⟨_,o,ho,_⟩:=I.ok.funs.mem hb
  exact absurd (Nat.lt_of_lt_of_le (Heap.lt_size ho) (Nat.le_trans I.sz h)) (Nat.lt_irrefl _)
theorem Inv.cne (I:Inv X pins σ H s):∀ x c,X.env.cells.lookup x=some c→c≠X.env.locals:=fun x c e z=>by
  obtain ⟨v,o,ho,hd⟩:=I.cell x c e
  obtain ⟨m,⟨o',es,ep,ho',hd',_⟩,_⟩:=I.loc
  rw [z,ho'] at ho; cases ho; rw [hd'] at hd; cases hd
theorem Inv.funs (I:Inv X pins σ H s):s.heap.FunFrames X.base X.outer:=by
  have all:∀ (l:List Env),(∀ b∈frs l,b∈X.fs)→X.s₀.heap.FunFrames X.base l→s.heap.FunFrames X.base l:=by
    intro l
    induction l with
    | nil=>intro _ _; trivial
    | cons env r ih =>
      intro hs hl
      obtain ⟨hk,⟨L,o,hf,hn,ho,hd⟩,hr⟩:=hl
      have hL:L∈X.fs:=hs L (by unfold frs; rw [List.filterMap_cons,hf]; exact List.mem_cons_self)
      obtain ⟨sl,e⟩:=I.base.slot L o ho (I.ok.frf L hL) hL fun z=>I.ok.exfs L z hL
      exact ⟨hk,⟨L,_,hf,hn,e,hd⟩,ih (fun b hb=>hs b (by unfold frs; rw [List.filterMap_cons,hf]; exact List.mem_cons_of_mem _ hb)) hr⟩
  exact all X.outer (fun _ hb=>hb) I.ok.funs

theorem Inv.stack (I:Inv X pins σ H s):s.heap.FunFrames X.base X.stack:=by
  rcases I.ok.stk with e | ⟨e,hf⟩
  · rw [e]; exact I.funs
  · rw [e]
    obtain ⟨m,hn,_⟩:=I.loc
    refine .cons (by rw [I.ok.kind]; decide) hf hn ?_ I.funs
    exact Heap.get?_none_of_le (Nat.le_trans I.ok.bsz I.ok.above)
theorem Inv.stkSub (I:Inv X pins σ H s):∀ b∈frs X.stack,b∈X.env.locals :: X.fs:=fun b hb=>by
  rcases I.ok.stk with e | ⟨e,hf⟩
  · rw [e] at hb; exact List.mem_cons_of_mem _ hb
  · rw [e] at hb
    unfold frs at hb
    rw [List.filterMap_cons,hf] at hb
    exact hb
theorem Inv.stkFree (I:Inv X pins σ H s):∀ b∈frs X.stack,H b=none:=fun b hb=>by
  rcases List.mem_cons.mp (I.stkSub b hb) with e | hb
  · rw [e]; exact I.free
  · obtain ⟨_,o,ho,_⟩:=I.ok.funs.mem hb
    exact I.base.free b o ho (I.ok.frf b hb) fun z=>I.ok.exfs b z hb

theorem Inv.step {g':Array GenState} {t':Nat} {d':Drawn} {ch:List Addr} (I:Inv X pins σ H s)
    (hch:∀ b∈ch,(b∈X.ex∨X.s₀.heap.objs.size≤b)∧b≠X.env.locals∧(∀ x c,X.env.cells.lookup x=some c→c≠b)∧∀ p∈X.pn++pins,p.1≠b)
    (keep:∀ b o,b≠X.env.locals→b∉X.fs→b∉ch→s.heap.get? b=some o→H b=none→h'.get? b=some o)
    (slot:∀ b o,b≠X.env.locals→b∈X.fs→b∉ch→s.heap.get? b=some o→H b=none→∃ sl,h'.get? b=some { o with slots:=sl }) (free:∀ b o,b∉ch→s.heap.get? b=some o→H b=none→H' b=none)
    (there:∀ b o,b∉ch→s.heap.get? b=some o→∃ o',h'.get? b=some o')
    (tups:∀ b xs,H b=some (.tup xs)→H' b=some (.tup xs)) (frzs:∀ b o u,H b=some (.frz o u)→H' b=some (.frz o u)) (tbls:∀ b ps,H b=some (.tbl ps)→∃ more,H' b=some (.tbl (ps++more)))
    (ns:∀ m,s.heap.Ns X.env.locals m→h'.Ns X.env.locals m) (hok:HOk X.prog X.w H' h') (hg:AllBare g') :
    Inv X pins σ H' { s with heap:=h',gens:=g',drawn:=d',toks:=t' }:=by
  have neL:∀ b o,X.s₀.heap.get? b=some o→b≠X.env.locals:=fun b o e=>Nat.ne_of_lt (Nat.lt_of_lt_of_le (Heap.lt_size e) I.ok.above)
  have neC:∀ b o,X.s₀.heap.get? b=some o→b∉X.ex→b∉ch:=fun b o e hx hb=>by
    rcases (hch b hb).1 with z | z
    · exact hx z
    · exact absurd (Nat.lt_of_lt_of_le (Heap.lt_size e) z) (Nat.lt_irrefl _)
  have cellK:∀ x c,X.env.cells.lookup x=some c→∀ v,s.heap.IsCell c v→h'.IsCell c v:=fun x c e v zz=>by
    obtain ⟨o,ho,hd⟩:=zz
    have nch:c∉ch:=fun z=>(hch c z).2.2.1 x c e rfl
    by_cases hc:c∈X.fs
    · obtain ⟨sl,q⟩:=slot c o (I.cne x c e) hc nch ho (I.freeC x c e)
      exact ⟨_,q,hd⟩
    · exact ⟨o,keep c o (I.cne x c e) hc nch ho (I.freeC x c e),hd⟩
  refine ⟨I.ok,I.os,hg,⟨fun b o e n hb hx=>?_,fun b o e n hb hx=>?_,fun b o e n hx=>?_,fun b o e hx=>?_,fun b xs e=>tups b xs (I.base.tups b xs e),fun b o xs e=>frzs b o xs (I.base.frzs b o xs e),fun b ps e=>?_⟩,?_,fun x c e=>?_,?_,fun x c e=>?_,fun p hp=>?_,hok,I.len⟩
  · exact keep b o (neL b o e) hb (neC b o e hx) (I.base.keep b o e n hb hx) (I.base.free b o e n hx)
  · obtain ⟨sl,e1⟩:=I.base.slot b o e n hb hx
    obtain ⟨sl',e2⟩:=slot b _ (neL b o e) hb (neC b o e hx) e1 (I.base.free b o e n hx)
    exact ⟨sl',e2⟩
  · obtain ⟨o',e1⟩:=I.base.there b o e hx
    exact free b o' (neC b o e hx) e1 (I.base.free b o e n hx)
  · obtain ⟨o',e1⟩:=I.base.there b o e hx
    exact there b o' (neC b o e hx) e1
  · obtain ⟨m1,e1⟩:=I.base.tbls b ps e
    obtain ⟨m2,e2⟩:=tbls b _ e1
    exact ⟨m1++m2,by rw [e2,Array.append_assoc]⟩
  · obtain ⟨m,hn,hl⟩:=I.loc
    refine ⟨m,ns m hn,fun i x v e1 e2 e3=>?_⟩
    obtain ⟨u,r,l⟩:=hl i x v e1 e2 e3
    refine ⟨u,r,?_⟩
    rcases l with l | ⟨k,c,e,z⟩
    · exact .inl l
    · exact .inr ⟨k,c,e,cellK x c e _ z⟩
  · obtain ⟨v,z⟩:=I.cell x c e
    exact ⟨v,cellK x c e v z⟩
  · obtain ⟨m,⟨o,_,_,ho,_⟩,_⟩:=I.loc
    exact free _ o (fun z=>(hch _ z).2.1 rfl) ho I.free
  · obtain ⟨v,o,ho,hd⟩:=I.cell x c e
    exact free c o (fun z=>(hch c z).2.2.1 x c e rfl) ho (I.freeC x c e)
  · obtain ⟨e,n,ne,nf,d⟩:=I.pin p hp
    have nch:p.1∉ch:=fun z=>(hch p.1 z).2.2.2 p hp rfl
    exact ⟨keep p.1 p.2 ne nf nch e n,free p.1 p.2 nch e n,ne,nf,d⟩
theorem Inv.un {t':Nat} (I:Inv X pins σ H s) (u:Un X.fs [] H H' s.heap h') (hok:HOk X.prog X.w H' h'):Inv X pins σ H' { s with heap:=h',toks:=t' }:=by
  obtain ⟨m,⟨o,es,ep,ho,r⟩,_⟩:=id I.loc
  obtain ⟨sl,hL⟩:=u.any ho I.free (by simp)
  exact I.step (g':=s.gens) (d':=s.drawn) (ch:=[]) (fun _ z=>nomatch z) (fun b o _ hb _ e n=>u.keep b o e n hb (by simp)) (fun b o _ hb _ e n=>u.slot b o e n hb (by simp)) (fun b o _ e n=>u.free b o e n (by simp)) (fun b o _ e=>u.there b o e (by simp)) u.tups u.frzs u.tbls (fun m' hm=>by
    obtain ⟨o',es',ep',ho',r'⟩:=hm
    rw [ho] at ho'; cases ho'
    exact ⟨_,es',ep',hL,r'⟩) hok I.bare
theorem Inv.call {g':Array GenState} {t':Nat} {d':Drawn} {ch:List Addr} (I:Inv X pins σ H s) (u:Un (frs X.stack) ch H H' s.heap h') (hok:HOk X.prog X.w H' h') (hg:AllBare g')
    (hch:∀ b∈ch,(b∈X.ex∨X.s₀.heap.objs.size≤b)∧b≠X.env.locals∧(∀ x c,X.env.cells.lookup x=some c→c≠b)∧∀ p∈X.pn++pins,p.1≠b) :
    Inv X pins σ H' { s with heap:=h',gens:=g',drawn:=d',toks:=t' }:=by
  obtain ⟨m,⟨o,es,ep,ho,r⟩,_⟩:=id I.loc
  obtain ⟨sl,hL⟩:=u.any ho I.free fun z=>(hch _ z).2.1 rfl
  exact I.step (ch:=ch) hch (fun b o hL hb hc e n=>u.keep b o e n (fun z=>(List.mem_cons.mp (I.stkSub b z)).elim hL hb) hc) (fun b o _ _ hc e n=>u.any e n hc) (fun b o hc e n=>u.free b o e n hc) (fun b o hc e=>u.there b o e hc) u.tups u.frzs u.tbls (fun m' hm=>by
    obtain ⟨o',es',ep',ho',r'⟩:=hm
    rw [ho] at ho'; cases ho'
    exact ⟨_,es',ep',hL,r'⟩) hok hg
theorem Inv.turned {t':Nat} {it:Addr} (I:Inv X pins σ H s) (k:∀ b o,b≠it→s.heap.get? b=some o→h'.get? b=some o) (hn:H it=none) (hL:it≠X.env.locals)
    (h1:it∈X.ex∨X.s₀.heap.objs.size≤it) (h2:∀ x c,X.env.cells.lookup x=some c→c≠it) (h3:∀ p∈X.pn++pins,p.1≠it):Inv X pins σ H { s with heap:=h',toks:=t' }:=by
  have nit:∀ b u,H b=some u→b≠it:=fun b u e z=>by rw [z,hn] at e; cases e
  refine I.step (g':=s.gens) (d':=s.drawn) (ch:=[it]) (fun b hb=>?_) (fun b o _ _ hc e _=>k b o (fun z=>hc (by simp [z])) e) (fun b o _ _ hc e _=>⟨o.slots,k b o (fun z=>hc (by simp [z])) e⟩) (fun _ _ _ _ n=>n)
    (fun b o hc e=>⟨o,k b o (fun z=>hc (by simp [z])) e⟩) (fun _ _ e=>e) (fun _ _ _ e=>e) (fun b ps e=>⟨#[],by rw [e]; simp⟩) (fun m hm=>?_) (fun b u e=>?_) I.bare
  · have e:b=it:=by simpa using hb
    subst e
    exact ⟨h1,hL,h2,h3⟩
  · obtain ⟨o,es,ep,ho,r⟩:=hm
    exact ⟨o,es,ep,k _ o (Ne.symm hL) ho,r⟩
  · refine (I.hok b u e).stay (fun c v hc q=>k c v ?_ q) (fun _ q=>q) fun _ _ q=>q
    rcases hc with z | z
    · rw [z]; exact nit b u e
    · exact nit c _ z
theorem Inv.tok (I:Inv X pins σ H s) (t:Nat):Inv X pins σ H { s with toks:=t }:=I.un (h':=s.heap) (t':=t) Un.refl I.hok
theorem Inv.kept {t':Nat} (I:Inv X pins σ H s) (k:∀ b u,s.heap.get? b=some u→h'.get? b=some u):Inv X pins σ H { s with heap:=h',toks:=t' }:=I.un (Un.kept k) (I.hok.kept k)
theorem Inv.laid {a:Addr} {o:HO} {t':Nat} (I:Inv X pins σ H s) (k:∀ b u,s.heap.get? b=some u→h'.get? b=some u) (hp:s.heap.objs.size≤a) (new:ObjOk X.prog X.w (upd H a o) h' a o) :
    Inv X pins σ (upd H a o) { s with heap:=h',toks:=t' }:=I.un (Un.laid k hp (I.hok.fresh hp)) (I.hok.laid k hp new)
theorem Inv.write {x e:Addr} {o:HO} {t':Nat} (I:Inv X pins σ H s) (mu:Mut (H x)) (he:e=x∨H e=some (.own x)) (k:∀ b u,b≠e→s.heap.get? b=some u→h'.get? b=some u) (heo:∃ u,h'.get? e=some u)
    (new:ObjOk X.prog X.w (upd H x o) h' x o):Inv X pins σ (upd H x o) { s with heap:=h',toks:=t' }:=I.un (Un.write mu he k heo) (I.hok.write mu he k heo new)
theorem Inv.pins_of {pins':List (Addr × Obj)} (I:Inv X pins σ H s) (h:∀ p∈pins',s.heap.get? p.1=some p.2∧H p.1=none∧p.1≠X.env.locals∧p.1∉X.fs∧∀ v,p.2.data ≠ .cell v):Inv X pins' σ H s :=
  ⟨I.ok,I.os,I.bare,I.base,I.loc,I.cell,I.free,I.freeC,fun p hp=>(List.mem_append.mp hp).elim (fun z=>I.pin p (List.mem_append_left _ z)) (h p),I.hok,I.len⟩

theorem nodup_ix {N:List Str} (hN:N.Nodup) {i j:Nat} {x:Str} (a:N[i]? = some x) (b:N[j]? = some x):i=j:=by
  obtain ⟨h1,e1⟩:=List.getElem?_eq_some_iff.mp a
  obtain ⟨h2,e2⟩:=List.getElem?_eq_some_iff.mp b
  exact (List.getElem_inj hN).mp (e1.trans e2.symm)

theorem store_ok2 {M:Model} {A:Around} {E:Value→Shared→Prop} {i:Nat} {x:Str} {v:V} {u:Value} {Q:Unit→Shared→Prop} (I:Inv X pins σ H s) (hN:X.N.Nodup) (hi:X.N[i]? = some x) (hx:Loc X.env.scope x) (r:RelV v u)
    (h:∀ s',Inv X pins (σ.set i (some v)) H s'→(∃ a,Heap.SameBut a s.heap s'.heap∧(a=X.env.locals∨X.env.cells.lookup x=some a))→Q () s') (hf:X.fn x=true∨X.env.scope.names.lookup x=some .local:=by first | exact .inl rfl | exact .inr rfl | assumption):wpAny M A (storeName X.env x u) Q E s:=by
  obtain ⟨m,hn,hl⟩:=id I.loc
  have hcls:(X.env.scope.kind == .class || (X.env.scope.kind == .module && X.env.locals != X.env.globals))=false:=by rw [I.ok.kind]; rfl
  have hiσ:i<σ.length:=by rw [I.len]; exact (List.getElem?_eq_some_iff.mp hi).1
  have cne:=I.cne
  have tracked:∀ {a:Addr} {h':Heap},(∃ o,s.heap.get? a=some o∧H a=none)→Heap.SameBut a s.heap h'→HOk X.prog X.w H h':=fun {a h'} ha hs b ob e=>by
    obtain ⟨_,_,hfree⟩:=ha
    refine (I.hok b ob e).stay (fun c w' hc q=>(hs.2 c ?_).trans q) (fun _ q=>q) fun _ _ q=>q
    rintro rfl
    rcases hc with rfl | hc
    · rw [hfree] at e; cases e
    · rw [hfree] at hc; cases hc
  rcases hx with hk | hk
  · refine wpAny_storeName_local hk hn (fun h' hn' hs=>?_) hcls
    obtain ⟨oL,_,_,hoL,_⟩:=id hn
    refine h _ ⟨I.ok,I.os,I.bare,⟨fun b o e n hb hx=>?_,fun b o e n hb hx=>?_,I.base.free,fun b o e hx=>?_,I.base.tups,I.base.frzs,I.base.tbls⟩,⟨_,hn',fun j y v' e1 e2 e3=>?_⟩,fun y c e=>?_,I.free,I.freeC,fun p hp=>?_,tracked ⟨oL,hoL,I.free⟩ hs,by simpa using I.len⟩ ⟨_,hs,.inl rfl⟩
    · exact (hs.2 b (Nat.ne_of_lt (Nat.lt_of_lt_of_le (Heap.lt_size e) I.ok.above))).trans (I.base.keep b o e n hb hx)
    · obtain ⟨sl,e1⟩:=I.base.slot b o e n hb hx
      exact ⟨sl,(hs.2 b (Nat.ne_of_lt (Nat.lt_of_lt_of_le (Heap.lt_size e) I.ok.above))).trans e1⟩
    · obtain ⟨o',e1⟩:=I.base.there b o e hx
      exact ⟨o',(hs.2 b (Nat.ne_of_lt (Nat.lt_of_lt_of_le (Heap.lt_size e) I.ok.above))).trans e1⟩
    · by_cases hj:j=i
      · subst hj
        rw [hi] at e1; cases e1
        rw [List.getElem?_set_self hiσ] at e2
        cases e2
        exact ⟨u,r,.inl ⟨hk,by simp⟩⟩
      · rw [List.getElem?_set_ne (Ne.symm hj)] at e2
        obtain ⟨u',r',q⟩:=hl j y v' e1 e2 e3
        refine ⟨u',r',?_⟩
        rcases q with ⟨k,e⟩ | ⟨k,c,e,z⟩
        · refine .inl ⟨k,?_⟩
          have:y≠x:=fun e=>hj (nodup_ix hN e1 (e▸hi))
          simp [this,e]
        · exact .inr ⟨k,c,e,z.sameBut hs (cne y c e)⟩
    · obtain ⟨w',z⟩:=I.cell y c e
      exact ⟨w',z.sameBut hs (cne y c e)⟩
    · obtain ⟨e,n,ne,nf,d⟩:=I.pin p hp
      exact ⟨(hs.2 p.1 ne).trans e,n,ne,nf,d⟩
  · have hfn:X.fn x=true:=by
      rcases hf with z | z
      · exact z
      · rw [z] at hk; cases hk
    obtain ⟨c,hc⟩:=I.ok.has x (.inl hk)
    obtain ⟨w',z⟩:=I.cell x c hc
    refine wpAny_storeName_cell I.ok.kind hk hc z (fun h' hc' hs=>?_)
    obtain ⟨oc,hoc,hocd⟩:=id z
    refine h { s with heap:=h' } ⟨I.ok,I.os,I.bare,⟨fun b o e n hb hx=>?_,fun b o e n hb hx=>?_,I.base.free,fun b o e hx=>?_,I.base.tups,I.base.frzs,I.base.tbls⟩,⟨m,hn.sameBut hs (Ne.symm (cne x c hc)),fun j y v' e1 e2 e3=>?_⟩,fun y c' e=>?_,I.free,I.freeC,fun p hp=>?_,tracked ⟨oc,hoc,I.freeC x c hc⟩ hs,by simpa using I.len⟩ ⟨c,hs,.inr hc⟩
    · exact (hs.2 b (Nat.ne_of_lt (Nat.lt_of_lt_of_le (Heap.lt_size e) (I.ok.cab x c hfn hc)))).trans (I.base.keep b o e n hb hx)
    · obtain ⟨sl,e1⟩:=I.base.slot b o e n hb hx
      exact ⟨sl,(hs.2 b (Nat.ne_of_lt (Nat.lt_of_lt_of_le (Heap.lt_size e) (I.ok.cab x c hfn hc)))).trans e1⟩
    · obtain ⟨o',e1⟩:=I.base.there b o e hx
      exact ⟨o',(hs.2 b (Nat.ne_of_lt (Nat.lt_of_lt_of_le (Heap.lt_size e) (I.ok.cab x c hfn hc)))).trans e1⟩
    · by_cases hj:j=i
      · subst hj
        rw [hi] at e1; cases e1
        rw [List.getElem?_set_self hiσ] at e2
        cases e2
        exact ⟨u,r,.inr ⟨.inl hk,c,hc,hc'⟩⟩
      · rw [List.getElem?_set_ne (Ne.symm hj)] at e2
        obtain ⟨u',r',q⟩:=hl j y v' e1 e2 e3
        refine ⟨u',r',?_⟩
        rcases q with q | ⟨k,c',e,z'⟩
        · exact .inl q
        · refine .inr ⟨k,c',e,z'.sameBut hs ?_⟩
          rintro rfl
          exact hj (nodup_ix hN e1 (I.ok.inj _ _ _ e hc▸hi))
    · by_cases hcc:c'=c
      · subst hcc; exact ⟨_,hc'⟩
      · obtain ⟨w2,z2⟩:=I.cell y c' e
        exact ⟨w2,z2.sameBut hs hcc⟩
    · obtain ⟨e,n,ne,nf,d⟩:=I.pin p hp
      refine ⟨(hs.2 p.1 ?_).trans e,n,ne,nf,d⟩
      intro q
      rw [q,hoc] at e
      have q':oc=p.2:=Option.some.inj e
      exact d w' (by rw [← q']; exact hocd)
theorem store_ok {M:Model} {A:Around} {E:Value→Shared→Prop} {i:Nat} {x:Str} {v:V} {u:Value} {Q:Unit→Shared→Prop} (I:Inv X pins σ H s) (hN:X.N.Nodup) (hi:X.N[i]? = some x) (hx:Loc X.env.scope x) (r:RelV v u)
    (h:∀ s',Inv X pins (σ.set i (some v)) H s'→Q () s') (hf:X.fn x=true∨X.env.scope.names.lookup x=some .local:=by first | exact .inl rfl | exact .inr rfl | assumption):wpAny M A (storeName X.env x u) Q E s :=
  store_ok2 I hN hi hx r (fun s' I' _=>h s' I') hf
theorem Inv.call' {s':Shared} {ch:List Addr} (I:Inv X pins σ H s) (ho:s'.os=s.os) (u:Un (frs X.stack) ch H H' s.heap s'.heap) (hok:HOk X.prog X.w H' s'.heap) (hg:AllBare s'.gens)
    (hch:∀ b∈ch,(b∈X.ex∨X.s₀.heap.objs.size≤b)∧b≠X.env.locals∧(∀ x c,X.env.cells.lookup x=some c→c≠b)∧∀ p∈X.pn++pins,p.1≠b):Inv X pins σ H' s':=by
  obtain ⟨h',g',d',t',o'⟩:=s'
  have e:o'=s.os:=ho
  subst e
  exact I.call (g':=g') (t':=t') (d':=d') u hok hg hch
end

noncomputable abbrev XK:=Value→Option Addr→Hp→Prop
noncomputable abbrev St:=List (Option V)
noncomputable abbrev VK:=V→Hp→Prop
noncomputable abbrev TE:=St→Hp→VK→Prop
noncomputable abbrev TT:=St→Hp→(Bool→Hp→Prop)→Prop
noncomputable abbrev TA:=St→Hp→(List V→Hp→Prop)→Prop
structure Ends where
  nx:St→Hp→Prop
  rt:VK
  bk:St→Hp→Prop:=fun _ _=>False
  ct:St→Hp→Prop:=fun _ _=>False
noncomputable abbrev TS:=Ends→St→Hp→Prop

noncomputable def EP (X:Cx) (pins:List (Addr × Obj)) (σ:St) (Q:VK) (u:Value) (s':Shared):Prop:=∃ v H',Inv X pins σ H' s'∧RelV v u∧Q v H'
noncomputable def TP (X:Cx) (pins:List (Addr × Obj)) (σ:St) (Q:Bool→Hp→Prop) (b:Bool) (s':Shared):Prop:=∃ H',Inv X pins σ H' s'∧Q b H'
noncomputable def AP (X:Cx) (pins:List (Addr × Obj)) (σ:St) (Q:List V→Hp→Prop) (us:List Value) (s':Shared):Prop:=∃ vs H',Inv X pins σ H' s'∧Vals vs us∧Q vs H'
noncomputable def SP (X:Cx) (pins:List (Addr × Obj)) (D:Ends) (f:Flow) (s':Shared):Prop :=
  match f with
  | .next=>∃ σ' H',Inv X pins σ' H' s'∧D.nx σ' H'
  | .brk=>∃ σ' H',Inv X pins σ' H' s'∧D.bk σ' H'
  | .cont=>∃ σ' H',Inv X pins σ' H' s'∧D.ct σ' H'
  | .ret u=>∃ v σ' H',Inv X pins σ' H' s'∧RelV v u∧D.rt v H'

noncomputable def PE (X:Cx) (e:Expr) (t:TE):Prop :=
  ∀ (pins:List (Addr × Obj)) (s:Shared) (σ:St) (H:Hp) (Q:VK),Inv X pins σ H s→t σ H Q→wpAny (model X.prog X.w) X.A (eval e X.env) (EP X pins σ Q) X.xe s
noncomputable def PT (X:Cx) (e:Expr) (t:TT):Prop :=
  ∀ (pins:List (Addr × Obj)) (s:Shared) (σ:St) (H:Hp) (Q:Bool→Hp→Prop),Inv X pins σ H s→t σ H Q→wpAny (model X.prog X.w) X.A (isTrue e X.env (eval e X.env)) (TP X pins σ Q) X.xe s
noncomputable def PW (X:Cx) (e:Expr) (t:TT):Prop :=
  ∀ (whole:Sem Value) (pins:List (Addr × Obj)) (s:Shared) (σ:St) (H:Hp) (Q:Bool→Hp→Prop),Inv X pins σ H s→t σ H Q→wpAny (model X.prog X.w) X.A (isTrue e X.env whole) (TP X pins σ Q) X.xe s
theorem PW.pt {X:Cx} {e:Expr} {t:TT} (h:PW X e t):PT X e t:=h _
noncomputable def PA (X:Cx) (es:List Expr) (t:TA):Prop :=
  ∀ (pos:Pos) (pins:List (Addr × Obj)) (s:Shared) (σ:St) (H:Hp) (Q:List V→Hp→Prop),Inv X pins σ H s→t σ H Q→wpAny (model X.prog X.w) X.A (spliced (backTo pos (starEach es X.env))) (AP X pins σ Q) X.xe s
noncomputable def PS (X:Cx) (st:Stmt) (t:TS):Prop :=
  ∀ (pins:List (Addr × Obj)) (s:Shared) (σ:St) (H:Hp) (D:Ends),Inv X pins σ H s→t D σ H→wpAny (model X.prog X.w) X.A (exec st X.env) (SP X pins D) X.xe s
noncomputable def PSs (X:Cx) (st:List Stmt) (t:TS):Prop :=
  ∀ (pins:List (Addr × Obj)) (s:Shared) (σ:St) (H:Hp) (D:Ends),Inv X pins σ H s→t D σ H→wpAny (model X.prog X.w) X.A (execs st X.env) (SP X pins D) X.xe s
theorem thn {α:Type} {t:Sem α} {Q Q':α→Shared→Prop} {M:Model} {A:Around} {E:Value→Shared→Prop} {s:Shared} (h:wpAny M A t Q E s) (hQ:∀ a s,Q a s→Q' a s):wpAny M A t Q' E s:=wpAny_mono h hQ fun _ _ x=>x
end L2

namespace L2
open PySem PySem.Spec PyProof.Rows
section
variable {X:Cx}

noncomputable def tVar (i:Nat):TE:=fun σ H Q=>∃ v,σ[i]? = some (some v)∧Q v H
noncomputable def tC (v:V):TE:=fun _ H Q=>Q v H
theorem pe_var {i:Nat} {x:Str} {pos:Pos} (hN:X.N[i]? = some x) (hv:Vis X.env.scope x) (hd:(x == ("__debug__" : Str))=false:=by decide) (hcd:(x == ("__classdict__" : Str))=false:=by decide):PE X (.Name x pos) (tVar i):=by
  intro pins s σ H Q I h
  obtain ⟨v,e,h⟩:=h
  obtain ⟨m,hn,hl⟩:=I.loc
  obtain ⟨u,r,l⟩:=hl i x v hN e hv
  have fin:EP X pins σ Q u s:=⟨v,H,I,r,h⟩
  rcases l with ⟨hk,hm⟩ | ⟨hk,c,hc,hcell⟩
  · exact wpAny_Name (wpAny_loadName_local I.ok.kind hk hn hm fin) hd
  · rcases hk with hk | hk
    · exact wpAny_Name (wpAny_loadName_cell I.ok.kind hk hc hcell fin) hd
    · exact wpAny_Name (wpAny_loadName_free I.ok.kind hk hc hcell fin hcd) hd
theorem pe_int {i j pos}:PE X (.Constant (.int i) j pos) (tC (.int i)):=fun _ _ _ H _ I h=>wpAny_Constant_int ⟨.int i,H,I.tok _,⟨_,rfl⟩,h⟩
theorem pe_bl {b j pos}:PE X (.Constant (.bool b) j pos) (tC (.bl b)):=fun _ _ _ H _ I h=>Constant_bool ⟨.bl b,H,I,rfl,h⟩
theorem pe_non {j pos}:PE X (.Constant .none j pos) (tC .non):=fun _ _ _ H _ I h=>Constant_none ⟨.non,H,I,rfl,h⟩
theorem pe_str {x j pos}:PE X (.Constant (.str x) j pos) (tC (.str x)):=fun _ _ _ H _ I h=>Calls.Constant_str ⟨.str x,H,I.tok _,⟨_,rfl⟩,h⟩

noncomputable def Gl (X:Cx) (x:Str):Prop:=X.env.kindOf x=some .globalImplicit
theorem ld_glob {E:Value→Shared→Prop} {pins:List (Addr × Obj)} {s:Shared} {σ:St} {H:Hp} {x:Str} {u:Value} {pos:Pos} {Q:Value→Shared→Prop} (I:Inv X pins σ H s) (hg:Gl X x) (hm:X.mg x=some u) (h:Q u s)
    (hd:(x == ("__debug__" : Str))=false:=by decide):wpAny (model X.prog X.w) X.A (eval (.Name x pos) X.env) Q E s :=
  Calls.Name_function_global I.ok.kind hg (Calls.loadGlobal_global (by rw [I.ok.glob]; exact I.mod.glob.keeps I.bk) hm h) hd
theorem ld_blt {E:Value→Shared→Prop} {pins:List (Addr × Obj)} {s:Shared} {σ:St} {H:Hp} {x:Str} {u:Value} {pos:Pos} {Q:Value→Shared→Prop} (I:Inv X pins σ H s) (hg:Gl X x) (hm:X.mg x=none) (hv:bootBuiltins x=some u) (h:Q u s)
    (hn:x ≠ "__name__" := by decide) (hd:(x == ("__debug__" : Str))=false:=by decide):wpAny (model X.prog X.w) X.A (eval (.Name x pos) X.env) Q E s:=by
  obtain ⟨mb,h1,h2⟩:=I.mod.blt
  exact Calls.Name_function_global I.ok.kind hg (Calls.loadGlobal_builtin (by rw [I.ok.glob]; exact I.mod.glob.keeps I.bk) hm (by rw [I.ok.blt]; exact h1.keeps I.bk) ((h2 x hn).trans hv) h) hd
theorem pe_glob {x:Str} {v:V} {u:Value} {pos:Pos} (hg:Gl X x) (hm:X.mg x=some u) (r:RelV v u) (hd:(x == ("__debug__" : Str))=false:=by decide):PE X (.Name x pos) (tC v) :=
  fun _ _ _ H _ I h=>ld_glob I hg hm ⟨v,H,I,r,h⟩ hd
theorem pe_bltn {x:Str} {v:V} {u:Value} {pos:Pos} (hg:Gl X x) (hm:X.mg x=none) (hv:bootBuiltins x=some u) (r:RelV v u) (hn:x ≠ "__name__" := by decide) (hd:(x == ("__debug__" : Str))=false:=by decide):PE X (.Name x pos) (tC v) :=
  fun _ _ _ H _ I h=>ld_blt I hg hm hv ⟨v,H,I,r,h⟩ hn hd

variable {a b:Expr} {ta tb:TE} {pos:Pos}
theorem RelV.none_iff {x:V} {v:Value} (r:RelV x v):(v == Value.none)=decide (x = .non):=by
  cases x with
  | non=>cases r; rfl
  | bl _=>cases r; rfl
  | int _=>obtain ⟨t,rfl⟩:=r; rfl
  | str _=>obtain ⟨t,rfl⟩:=r; rfl
  | byt _=>obtain ⟨t,rfl⟩:=r; rfl
  | flt _=>obtain ⟨t,rfl⟩:=r; rfl
  | ref _=>cases r; rfl
  | ty _=>cases r; rfl
noncomputable def tB (t:TE):TT:=fun σ H Q=>t σ H fun x H1=>∃ c,x = .bl c∧Q c H1
theorem pt_val {e:Expr} {t:TE} (h:PE X e t) (he:∀ whole,isTrue e X.env whole=(do let v ← whole; standAt e.pos; holding [v] (truthy v)):=by intro _; rfl):PT X e (tB t):=by
  intro pins s σ H Q I hw
  refine isTrue_plain (thn (h pins s σ H _ I hw) fun v s1 ⟨x,H1,I1,r1,q1⟩=>?_) (he _)
  obtain ⟨d,rfl,q⟩:=q1
  cases r1
  exact wpAny_truthy_bool ⟨H1,I1,q⟩

variable {tA tB':TT} {rest:List Expr}
noncomputable def tAnd (t u:TT):TT:=fun σ H Q=>t σ H fun c H1=>if c=true then u σ H1 Q else Q false H1
noncomputable def tOr (t u:TT):TT:=fun σ H Q=>t σ H fun c H1=>if c=true then Q true H1 else u σ H1 Q
noncomputable def tNot (t:TT):TT:=fun σ H Q=>t σ H fun c H1=>Q (!c) H1
theorem pw_and1 (ha:PT X a tA):PW X (.BoolOp .And [a] pos) tA:=by
  intro wh pins s σ H Q I h
  refine isTrue_and (thn (ha pins s σ H Q I h) fun c s1 e=>?_)
  cases c with
  | true=>exact isTrue_and_nil e
  | false=>exact e
theorem pw_or1 (ha:PT X a tA):PW X (.BoolOp .Or [a] pos) tA:=by
  intro wh pins s σ H Q I h
  refine isTrue_or (thn (ha pins s σ H Q I h) fun c s1 e=>?_)
  cases c with
  | false=>exact isTrue_or_nil e
  | true=>exact e
theorem pw_and (ha:PT X a tA) (hb:PW X (.BoolOp .And (b :: rest) pos) tB'):PW X (.BoolOp .And (a :: b :: rest) pos) (tAnd tA tB'):=by
  intro wh pins s σ H Q I h
  refine isTrue_and (thn (ha pins s σ H _ I h) fun c s1 zz=>?_)
  obtain ⟨H1,I1,q1⟩:=zz
  cases c with
  | true=>exact hb wh pins s1 σ H1 Q I1 q1
  | false=>exact ⟨H1,I1,q1⟩
theorem pw_or (ha:PT X a tA) (hb:PW X (.BoolOp .Or (b :: rest) pos) tB'):PW X (.BoolOp .Or (a :: b :: rest) pos) (tOr tA tB'):=by
  intro wh pins s σ H Q I h
  refine isTrue_or (thn (ha pins s σ H _ I h) fun c s1 zz=>?_)
  obtain ⟨H1,I1,q1⟩:=zz
  cases c with
  | true=>exact ⟨H1,I1,q1⟩
  | false=>exact hb wh pins s1 σ H1 Q I1 q1
theorem pt_not (ha:PT X a tA):PT X (.UnaryOp .Not a pos) (tNot tA):=by
  intro pins s σ H Q I h
  exact isTrue_not (ha pins s σ H (fun c H1=>Q (!c) H1) I h)
noncomputable def tAndV (ta tb:TE):TE:=fun σ H Q=>ta σ H fun x H1=>∃ c,x = .bl c∧if c=true then tb σ H1 Q else Q (.bl false) H1
noncomputable def tOrV (ta tb:TE):TE:=fun σ H Q=>ta σ H fun x H1=>∃ c,x = .bl c∧if c=true then Q (.bl true) H1 else tb σ H1 Q
noncomputable def tNotV (ta:TE):TE:=fun σ H Q=>ta σ H fun x H1=>∃ c,x = .bl c∧Q (.bl (!c)) H1
theorem pe_one {op} {t:TE} (h:PE X a t):PE X (.BoolOp op [a] pos) t:=fun pins s σ H Q I hw=>BoolOp_one (h pins s σ H Q I hw)
theorem pe_and (ha:PE X a ta) (hb:PE X (.BoolOp .And (b :: rest) pos) tb):PE X (.BoolOp .And (a :: b :: rest) pos) (tAndV ta tb):=by
  intro pins s σ H Q I h
  refine BoolOp_and (thn (ha pins s σ H _ I h) fun v s1 zz=>?_)
  obtain ⟨x,H1,I1,r1,q1⟩:=zz
  obtain ⟨c,rfl,q1⟩:=q1
  cases r1
  refine wpAny_truthy_bool ?_
  cases c with
  | true=>exact hb pins s1 σ H1 Q I1 q1
  | false=>exact ⟨.bl false,H1,I1,rfl,q1⟩
theorem pe_or (ha:PE X a ta) (hb:PE X (.BoolOp .Or (b :: rest) pos) tb):PE X (.BoolOp .Or (a :: b :: rest) pos) (tOrV ta tb):=by
  intro pins s σ H Q I h
  refine BoolOp_or (thn (ha pins s σ H _ I h) fun v s1 zz=>?_)
  obtain ⟨x,H1,I1,r1,q1⟩:=zz
  obtain ⟨c,rfl,q1⟩:=q1
  cases r1
  refine wpAny_truthy_bool ?_
  cases c with
  | false=>exact hb pins s1 σ H1 Q I1 q1
  | true=>exact ⟨.bl true,H1,I1,rfl,q1⟩
theorem pe_not (ha:PE X a ta):PE X (.UnaryOp .Not a pos) (tNotV ta):=by
  intro pins s σ H Q I h
  refine UnaryOp_ (thn (ha pins s σ H _ I h) fun v s1 zz=>?_)
  obtain ⟨x,H1,I1,r1,q1⟩:=zz
  obtain ⟨c,rfl,q1⟩:=q1
  cases r1
  exact not_of (wpAny_truthy_bool ⟨.bl (!c),H1,I1,rfl,q1⟩)
noncomputable def tIf (t:TT) (ta tb:TE):TE:=fun σ H Q=>t σ H fun c H1=>if c=true then ta σ H1 Q else tb σ H1 Q
theorem pe_ifExp {c:Expr} (hc:PT X c tA) (ha:PE X a ta) (hb:PE X b tb):PE X (.IfExp c a b pos) (tIf tA ta tb):=by
  intro pins s σ H Q I h
  refine wpAny_IfExp (thn (hc pins s σ H _ I h) fun d s1 zz=>?_)
  obtain ⟨H1,I1,q1⟩:=zz
  cases d with
  | true=>exact ha pins s1 σ H1 Q I1 q1
  | false=>exact hb pins s1 σ H1 Q I1 q1
end
end L2

namespace L2
open PySem PySem.Spec PyProof.Rows

noncomputable def SqL (K:PySem.W.Frag) (H:Hp) (a:Addr) (xs:List V):Prop :=
  Rd H a (.lst xs) ∨
    ∃ (o:Obj) (its:Array Value) (n:Nat),K.lookup a=some o∧o.cls = .type "list" ∧ o.dict=none∧o.data = .seq its n∧its.size≤sizeLine∧Vals xs its.toList
noncomputable def SqT (K:PySem.W.Frag) (H:Hp) (a:Addr) (xs:List V):Prop :=
  Rd H a (.tup xs) ∨
    ∃ (o:Obj) (its:Array Value) (n:Nat),K.lookup a=some o∧o.cls = .type "tuple" ∧ o.data = .seq its n∧its.size≤sizeLine∧Vals xs its.toList
noncomputable def absV:Value→Option V
  | .none=>some .non
  | .bool b=>some (.bl b)
  | .int i _=>some (.int i)
  | .str x _=>some (.str x)
  | .bytes b _=>some (.byt b)
  | .float b _=>some (.flt b)
  | .ref a=>some (.ref a)
  | .type n=>some (.ty n)
  | _=>none
theorem RelV.abs {x:V} {u:Value} (r:RelV x u):absV u=some x:=by
  cases x with
  | non=>cases r; rfl
  | bl _=>cases r; rfl
  | int _=>obtain ⟨t,rfl⟩:=r; rfl
  | str _=>obtain ⟨t,rfl⟩:=r; rfl
  | byt _=>obtain ⟨t,rfl⟩:=r; rfl
  | flt _=>obtain ⟨t,rfl⟩:=r; rfl
  | ref _=>cases r; rfl
  | ty _=>cases r; rfl
theorem RelV.inj {x y:V} {u:Value} (r:RelV x u) (q:RelV y u):x=y:=Option.some.inj (r.abs.symm.trans q.abs)
theorem Vals.inj:∀ {xs ys:List V} {us:List Value},Vals xs us→Vals ys us→xs=ys
  | _,_,_,.nil,.nil=>rfl
  | _,_,_,.cons r t,.cons r' t'=>by rw [r.inj r',Vals.inj t t']
section
variable {X:Cx} {pins:List (Addr × Obj)} {σ:St} {H:Hp} {s:Shared} {a:Addr} {xs ys:List V}
theorem SqL.of {K:PySem.W.Frag} (h:H a=some (.lst xs)):SqL K H a xs:=.inl (.inl h)
theorem SqT.of {K:PySem.W.Frag} (h:H a=some (.tup xs)):SqT K H a xs:=.inl (.inl h)
theorem Inv.list (I:Inv X pins σ H s) (h:SqL X.K H a xs):∃ its:List Value,Vals xs its∧PlainL s.heap a its.toArray∧xs.length≤sizeLine:=by
  rcases h with h | ⟨o,its,n,hk,hc,hd,hs,hz,r⟩
  · obtain ⟨z,its,n,r,e⟩:=h.ok I.hok
    exact ⟨its,r,⟨_,n,e,rfl,rfl,rfl⟩,z⟩
  · refine ⟨its.toList,r,⟨o,n,I.kIn a o hk,hc,hd,by simpa using hs⟩,?_⟩
    have e:=r.length
    simp only [Array.length_toList] at e
    omega
theorem Inv.tuple (I:Inv X pins σ H s) (h:SqT X.K H a xs):∃ its:List Value,Vals xs its∧IsTup s.heap a its.toArray∧xs.length≤sizeLine:=by
  rcases h with h | ⟨o,its,n,hk,hc,hs,hz,r⟩
  · obtain ⟨z,its,r,p⟩:=h.ok I.hok
    exact ⟨its,r,p,z⟩
  · refine ⟨its.toList,r,⟨o,I.kIn a o hk,hc,n,by simpa using hs⟩,?_⟩
    have e:=r.length
    simp only [Array.length_toList] at e
    omega
theorem Inv.list_inj (I:Inv X pins σ H s) (h:SqL X.K H a xs) (h':SqL X.K H a ys):xs=ys:=by
  obtain ⟨its,r,⟨o,n,e,_,_,d⟩,_⟩:=I.list h
  obtain ⟨its',r',⟨o',n',e',_,_,d'⟩,_⟩:=I.list h'
  rw [e] at e'; cases e'
  rw [d] at d'
  injection d' with d1 _
  have:its=its':=by simpa using congrArg Array.toList d1
  subst this
  exact r.inj r'
theorem Inv.tuple_inj (I:Inv X pins σ H s) (h:SqT X.K H a xs) (h':SqT X.K H a ys):xs=ys:=by
  obtain ⟨its,r,⟨o,e,_,n,d⟩,_⟩:=I.tuple h
  obtain ⟨its',r',⟨o',e',_,n',d'⟩,_⟩:=I.tuple h'
  rw [e] at e'; cases e'
  rw [d] at d'
  injection d' with d1 _
  have:its=its':=by simpa using congrArg Array.toList d1
  subst this
  exact r.inj r'
end

noncomputable abbrev Cx.wish (X:Cx) (E:Value→Shared→Prop):Cx:={ X with xe:=E }
noncomputable abbrev Cx.nox (X:Cx):Cx:=X.wish fun _ _=>False
theorem Cx.Ok.wish {X:Cx} (ok:X.Ok) (E:Value→Shared→Prop):(X.wish E).Ok :=
  ⟨ok.mod,ok.kind,ok.glob,ok.blt,ok.above,ok.inj,ok.has,ok.cab,ok.hd,ok.frames,ok.stk,ok.exf,ok.bs,ok.bsz,ok.noex,ok.exfs,ok.funs,ok.frf⟩
theorem Cx.Ok.unwish {X:Cx} {E:Value→Shared→Prop} (ok:(X.wish E).Ok):X.Ok :=
  ⟨ok.mod,ok.kind,ok.glob,ok.blt,ok.above,ok.inj,ok.has,ok.cab,ok.hd,ok.frames,ok.stk,ok.exf,ok.bs,ok.bsz,ok.noex,ok.exfs,ok.funs,ok.frf⟩
section
variable {X:Cx} {pins:List (Addr × Obj)} {σ:St} {H:Hp} {s:Shared} {E:Value→Shared→Prop}
theorem Inv.wish (I:Inv X pins σ H s) (E:Value→Shared→Prop):Inv (X.wish E) pins σ H s:=⟨I.ok.wish E,I.os,I.bare,I.base,I.loc,I.cell,I.free,I.freeC,I.pin,I.hok,I.len⟩
theorem Inv.unwish (I:Inv (X.wish E) pins σ H s):Inv X pins σ H s:=⟨I.ok.unwish,I.os,I.bare,I.base,I.loc,I.cell,I.free,I.freeC,I.pin,I.hok,I.len⟩
theorem SP.unwish {D:Ends} {f:Flow} {s':Shared} (h:SP (X.wish E) pins D f s'):SP X pins D f s':=by
  cases f with
  | next=>obtain ⟨σ',H',I,q⟩:=h; exact ⟨σ',H',I.unwish,q⟩
  | brk=>obtain ⟨σ',H',I,q⟩:=h; exact ⟨σ',H',I.unwish,q⟩
  | cont=>obtain ⟨σ',H',I,q⟩:=h; exact ⟨σ',H',I.unwish,q⟩
  | ret u=>obtain ⟨v,σ',H',I,r,q⟩:=h; exact ⟨v,σ',H',I.unwish,r,q⟩
theorem PE.nox {e:Expr} {t:TE} (h:PE X.nox e t):PE X e t:=fun pins s σ H Q I hw =>
  wpAny_mono (h pins s σ H Q (I.wish _) hw) (fun _ _ ⟨v,H',I',r,q⟩=>⟨v,H',I'.unwish,r,q⟩) fun _ _ z=>False.elim z
theorem PT.nox {e:Expr} {t:TT} (h:PT X.nox e t):PT X e t:=fun pins s σ H Q I hw =>
  wpAny_mono (h pins s σ H Q (I.wish _) hw) (fun _ _ ⟨H',I',q⟩=>⟨H',I'.unwish,q⟩) fun _ _ z=>False.elim z
theorem PSs.nox {st:List Stmt} {t:TS} (h:PSs X.nox st t):PSs X st t:=fun pins s σ H D I hw =>
  wpAny_mono (h pins s σ H D (I.wish _) hw) (fun _ _ q=>q.unwish) fun _ _ z=>False.elim z
end

section
variable {X:Cx} {st:Stmt} {rest:List Stmt} {t u:TS} {e:Expr} {te:TE} {pos:Pos}
noncomputable def tNext:TS:=fun D σ H=>D.nx σ H
noncomputable def tSeq (t u:TS):TS:=fun D σ H=>t { D with nx:=u D } σ H
theorem pss_nil:PSs X [] tNext:=fun _ _ σ H _ I h=>wpAny_execs_nil ⟨σ,H,I,h⟩
theorem pss_cons (h1:PS X st t) (h2:PSs X rest u):PSs X (st :: rest) (tSeq t u):=by
  intro pins s σ H D I h
  refine wpAny_execs_cons (thn (h1 pins s σ H { D with nx:=u D } I h) fun f s1 q=>?_)
  cases f with
  | next =>
    obtain ⟨σ',H',I',q⟩:=q
    exact h2 pins s1 σ' H' D I' q
  | ret v=>exact q
  | brk=>exact q
  | cont=>exact q
theorem pss_one (h1:PS X st t):PSs X [st] t:=by
  intro pins s σ H D I h
  refine wpAny_execs_cons (thn (h1 pins s σ H D I h) fun f s1 q=>?_)
  cases f with
  | next=>exact wpAny_execs_nil q
  | ret v=>exact q
  | brk=>exact q
  | cont=>exact q
theorem Inv.quiet {pins:List (Addr × Obj)} {σ:St} {H:Hp} {s:Shared} (I:Inv X pins σ H s):interactive X.env=false:=by simp [interactive,I.ok.kind]
noncomputable def tDrop (te:TE):TS:=fun D σ H=>te σ H fun _ H1=>D.nx σ H1
theorem ps_expr (he:PE X e te) (hs:swapsWith e none pos.line X.env=pure false:=by rfl):PS X (.Expr e pos) (tDrop te):=by
  intro pins s σ H D I h
  exact wpAny_Expr_any (thn (he pins s σ H _ I h) fun v s1 ⟨x,H1,I1,r1,q1⟩=>⟨σ,H1,I1,q1⟩) I.quiet hs
noncomputable def tRet (te:TE):TS:=fun D σ H=>te σ H D.rt
theorem ps_ret (he:PE X e te):PS X (.Return (some e) pos) (tRet te):=by
  intro pins s σ H D I h
  exact wpAny_Return_some (thn (he pins s σ H _ I h) fun v s1 ⟨x,H1,I1,r1,q1⟩=>⟨x,σ,H1,I1,r1,q1⟩)
noncomputable def tIfS (c:TT) (t u:TS):TS:=fun D σ H=>c σ H fun b H1=>if b=true then t D σ H1 else u D σ H1
theorem ps_if {c:Expr} {a b:List Stmt} {tc:TT} (hc:PT X c tc) (ha:PSs X a t) (hb:PSs X b u):PS X (.If c a b pos) (tIfS tc t u):=by
  intro pins s σ H D I h
  refine wpAny_If (thn (hc pins s σ H _ I h) fun d s1 zz=>?_)
  obtain ⟨H1,I1,q1⟩:=zz
  cases d with
  | true=>exact ha pins s1 σ H1 D I1 q1
  | false=>exact hb pins s1 σ H1 D I1 q1
noncomputable def tNever:TS:=fun _ _ _=>False
theorem ps_never:PS X st tNever:=fun _ _ _ _ _ _ h=>h.elim
end

noncomputable abbrev TG:=V→St→Hp→(St→Hp→Prop)→Prop
noncomputable abbrev TGs:=List V→St→Hp→(St→Hp→Prop)→Prop
noncomputable def PG (X:Cx) (target:Expr) (t:TG):Prop :=
  ∀ (pins:List (Addr × Obj)) (s:Shared) (σ:St) (H:Hp) (v:V) (u:Value) (Q:St→Hp→Prop),Inv X pins σ H s→RelV v u→t v σ H Q →
    wpAny (model X.prog X.w) X.A (assign target X.env u) (fun _ s'=>∃ σ' H',Inv X pins σ' H' s'∧Q σ' H') X.xe s
noncomputable def PGs (X:Cx) (ts:List Expr) (t:TGs):Prop :=
  ∀ (pins:List (Addr × Obj)) (s:Shared) (σ:St) (H:Hp) (vs:List V) (us:List Value) (Q:St→Hp→Prop),Inv X pins σ H s→Vals vs us→t vs σ H Q →
    wpAny (model X.prog X.w) X.A (assignInOrder ((assignEach ts X.env).map (·.2)) us) (fun _ s'=>∃ σ' H',Inv X pins σ' H' s'∧Q σ' H') X.xe s
noncomputable abbrev TSet:=V→V→V→Hp→(Hp→Prop)→Prop
noncomputable def PSet (X:Cx) (t:TSet):Prop :=
  ∀ (pins:List (Addr × Obj)) (s:Shared) (σ:St) (H:Hp) (o i v:V) (ov iv u:Value) (Q:Hp→Prop),Inv X pins σ H s→RelV o ov→RelV i iv→RelV v u→t o i v H Q →
    wpAny (model X.prog X.w) X.A (setItem ov iv u) (fun _ s'=>∃ H',Inv X pins σ H' s'∧Q H') X.xe s
section
variable {X:Cx} {pos:Pos}
noncomputable def gName (i:Nat):TG:=fun v σ H Q=>Q (σ.set i (some v)) H
theorem pg_name {i:Nat} {x:Str} (hN:X.N.Nodup) (hi:X.N[i]? = some x) (hx:Loc X.env.scope x) (hf:X.fn x=true∨X.env.scope.names.lookup x=some .local:=by first | exact .inl rfl | exact .inr rfl | assumption):PG X (.Name x pos) (gName i):=by
  intro pins s σ H v u Q I r h
  exact wpAny_assign_Name (store_ok I hN hi hx r (fun s' I'=>⟨_,H,I',h⟩) hf)
noncomputable def gNil:TGs:=fun vs σ H Q=>vs=[]∧Q σ H
noncomputable def gCons (t:TG) (u:TGs):TGs:=fun vs σ H Q=>∃ v r,vs=v :: r∧t v σ H fun σ' H'=>u r σ' H' Q
theorem pgs_nil:PGs X [] gNil:=by
  intro pins s σ H vs us Q I r h
  obtain ⟨e,h⟩:=h
  subst e
  cases r
  exact assignInOrder_nil ⟨σ,H,I,h⟩
theorem pgs_cons {e:Expr} {es:List Expr} {t:TG} {u:TGs} (h1:PG X e t) (h2:PGs X es u)
    (hs:(assignEach (e :: es) X.env).map (·.2)=assign e X.env :: (assignEach es X.env).map (·.2):=by rfl):PGs X (e :: es) (gCons t u):=by
  intro pins s σ H vs us Q I r h
  obtain ⟨v,vr,e1,h⟩:=h
  subst e1
  cases r with
  | cons r rr =>
    rw [hs]
    refine assignInOrder_cons (thn (h1 pins s σ H _ _ _ I r h) fun _ s1 zz=>?_)
    obtain ⟨σ1,H1,I1,q1⟩:=zz
    exact h2 pins s1 σ1 H1 _ _ Q I1 rr q1
noncomputable def gTup (K:PySem.W.Frag) (n:Nat) (t:TGs):TG:=fun v σ H Q=>∃ a xs,v = .ref a∧SqT K H a xs∧xs.length=n∧t xs σ H Q
theorem pg_tup {es:List Expr} {k:Nat} {t:TGs} {n:Nat} (hc:X.calm=true) (h:PGs X es t)
    (hn:(assignEach es X.env).length=n:=by rfl) (hst:(assignEach es X.env).findIdx? (·.1)=none:=by rfl):PG X (.Tuple es k pos) (gTup X.K n t):=by
  intro pins s σ H v u Q I r hw
  obtain ⟨a,xs,e1,hq,hl,hw⟩:=hw
  subst e1
  cases r
  obtain ⟨its,rv,ht,hz⟩:=I.tuple hq
  refine assign_Tuple_tuple (I.ok.hd hc) ht (by simp [hn,← hl,rv.length]) hst fun h' hx=>?_
  have I1:Inv X pins σ H { s with heap:=h' }:=I.kept (t':=s.toks) fun b o e=>hx b o (Nat.ne_of_lt (Heap.lt_size e)) e
  exact h pins _ σ H xs _ Q I1 (by simpa using rv) hw
noncomputable def gSub (to ti:TE) (t:TSet):TG:=fun v σ H Q=>to σ H fun o H1=>ti σ H1 fun i H2=>t o i v H2 fun H3=>Q σ H3
theorem pg_sub {o i:Expr} {to ti:TE} {t:TSet} (ho:PE X o to) (hi:PE X i ti) (hs:PSet X t)
    (ha:∀ v,assign (.Subscript o i pos) X.env v=(do
      let ov ← holding [v] (eval o X.env)
      let iv ← holding [v,ov] (eval i X.env)
      standAt pos
      holding [v,ov,iv] (setItem ov iv v)
      release [v,ov,iv] []):=by intro _; rfl):PG X (.Subscript o i pos) (gSub to ti t):=by
  intro pins s σ H v u Q I r h
  rw [ha]
  refine wpAny_bind (wpAny_holding (thn (ho pins s σ H _ I h) fun ov s1 zz=>?_))
  obtain ⟨x,H1,I1,r1,q1⟩:=zz
  refine wpAny_bind (wpAny_holding (thn (hi pins s1 σ H1 _ I1 q1) fun iv s2 zz=>?_))
  obtain ⟨y,H2,I2,r2,q2⟩:=zz
  refine wpAny_bind (wpAny_standAt (wpAny_bind (wpAny_holding (thn (hs pins s2 σ H2 x y v ov iv u _ I2 r1 r2 r q2) fun _ s3 zz=>?_))))
  obtain ⟨H3,I3,q3⟩:=zz
  exact wpAny_release ⟨σ,H3,I3,q3⟩
noncomputable def tAsg (te:TE) (g:TG):TS:=fun D σ H=>te σ H fun x H1=>g x σ H1 D.nx
theorem ps_asg {tg e:Expr} {te:TE} {g:TG} (he:PE X e te) (hg:PG X tg g) (hs:swapsWithSole [tg] e pos.line X.env=pure false:=by rfl) (hw:swappedStores [tg] e X.env=pure none:=by rfl)
    (h1:(assignEach [tg] X.env).map (·.2)=[assign tg X.env]:=by rfl):PS X (.Assign [tg] e pos) (tAsg te g):=by
  intro pins s σ H D I h
  refine wpAny_Assign_stores (thn (he pins s σ H _ I h) fun v s1 ⟨x,H1,I1,r1,q1⟩=>?_) hs hw
  rw [h1]
  exact thn (hg pins s1 σ H1 x v _ I1 r1 q1) fun _ s2 q=>q
theorem ps_set {i:Nat} {x:Str} {e:Expr} {te:TE} {pos':Pos} (hN:X.N.Nodup) (hi:X.N[i]? = some x) (hx:Loc X.env.scope x) (he:PE X e te) (hs:swapsWith e (some (.Name x pos')) pos.line X.env=pure false:=by rfl) (hf:X.fn x=true∨X.env.scope.names.lookup x=some .local:=by first | exact .inl rfl | exact .inr rfl | assumption) :
    PS X (.Assign [.Name x pos'] e pos) (tAsg te (gName i)):=by
  intro pins s σ H D I h
  refine wpAny_Assign_Name (thn (he pins s σ H _ I h) fun v s1 ⟨y,H1,I1,r1,q1⟩=>?_) hs
  exact store_ok I1 hN hi hx r1 (fun s2 I2=>⟨_,H1,I2,q1⟩) hf
noncomputable def tPar (i j:Nat) (ta:TA):TS:=fun D σ H=>ta σ H fun vs H1=>∃ v w,vs=[v,w]∧D.nx ((σ.set i (some v)).set j (some w)) H1
theorem ps_par {i j:Nat} {x y:Str} {a b:Expr} {ta:TA} {px py pt:Pos} {kt k2 pt2} (hc:X.calm=true) (hN:X.N.Nodup) (hi:X.N[i]? = some x) (hj:X.N[j]? = some y) (hij:i≠j)
    (hx:X.env.scope.names.lookup x=some .local) (hy:X.env.scope.names.lookup y=some .local) (ha:PA X [a,b] ta)
    (hw:swappedStores [.Tuple [.Name x px,.Name y py] kt pt] (.Tuple [a,b] k2 pt2) X.env=pure (some [x,y]))
    (hs:swapsWithSole [.Tuple [.Name x px,.Name y py] kt pt] (.Tuple [a,b] k2 pt2) pos.line X.env=pure false:=by rfl) :
    PS X (.Assign [.Tuple [.Name x px,.Name y py] kt pt] (.Tuple [a,b] k2 pt2) pos) (tPar i j ta):=by
  intro pins s σ H D I h
  rw [exec_Assign_arm]
  refine wpAny_bind (wpAny_standAt ?_)
  rw [hs]
  refine wpAny_bind (wpAny_pure ?_)
  rw [if_neg (by decide)]
  refine wpAny_bind (Tuple_ (thn (ha _ pins s σ H _ I h) fun us s1 zz=>?_))
  obtain ⟨vs,H1,I1,r1,q1⟩:=zz
  obtain ⟨v,w,e1,q1⟩:=q1
  subst e1
  obtain ⟨u1,u2,rfl,rv,rw'⟩:∃ u1 u2,us=[u1,u2]∧RelV v u1∧RelV w u2:=by
    cases r1 with
    | cons p q =>
      cases q with
      | cons p' q' =>
        cases q'
        exact ⟨_,_,rfl,p,p'⟩
  refine wpAny_newObj_type ?_ (by show 2≤sizeLine; decide)
  have I2:Inv X pins σ H1 { s1 with heap:=s1.heap.push { cls:=.type "tuple",data:=.seq [u1,u2].toArray } }:=I1.kept (t':=s1.toks) fun b o e=>Heap.get?_push_of_some _ e
  rw [hw]
  refine wpAny_bind (wpAny_pure ?_)
  show wpAny (model X.prog X.w) X.A (do rule "assign.swapped-stores"; let items ← unpackItems (.ref s1.heap.objs.size) 2 none; assignInOrder [fun v=>bindName X.env y v,fun v=>bindName X.env x v] items.reverse; pure Flow.next) _ _ _
  refine wpAny_bind (wpAny_rule (wpAny_bind (unpackItems_tuple (items:=#[u1,u2]) (I.ok.hd hc) (IsTup.new s1.heap _) fun h' hx'=>?_)))
  have I3:=I2.kept (h':=h') (t':=s1.toks) fun b o e=>hx' b o (Nat.ne_of_lt (Heap.lt_size e)) e
  show wpAny _ _ (assignInOrder [fun v=>bindName X.env y v,fun v=>bindName X.env x v] [u2,u1] >>= fun _=>pure Flow.next) _ _ _
  refine wpAny_bind (assignInOrder_cons (wpAny_bindName (store_ok I3 hN hj (.inl hy) rw' (fun s2 I4=>?_) (.inr hy))))
  refine assignInOrder_cons (wpAny_bindName (store_ok I4 hN hi (.inl hx) rv (fun s3 I5=>assignInOrder_nil (wpAny_pure ?_)) (.inr hx)))
  rw [List.set_comm _ _ (Ne.symm hij)] at I5
  exact ⟨_,H1,I5,q1⟩
end

section
variable {X:Cx} {pos:Pos}
noncomputable def tWhile (c:TT) (tb:TS):TS:=fun D σ H=>∃ W:Nat→St→Hp→Prop,(∃ m,W m σ H)∧∀ m σ H,W m σ H →
  c σ H fun b H1=>if b=true then ∃ N:St→Hp→Prop,(∀ σ' H',N σ' H'→∃ m',m'<m∧W m' σ' H')∧tb { D with nx:=N,ct:=N,bk:=D.nx } σ H1 else D.nx σ H1
theorem ps_while {c:Expr} {body:List Stmt} {tc:TT} {tb:TS} (hp:PassesOwn (model X.prog X.w) X.A X.env X.xe) (hc:PT X c tc) (hb:PSs X body tb):PS X (.While c body [] pos) (tWhile tc tb):=by
  intro pins s σ H D I h
  obtain ⟨W,⟨m0,w0⟩,turn⟩:=h
  refine wpAny_While (codeAny_whileLoop (fun n s'=>∃ σ' H',Inv X pins σ' H' s'∧W n σ' H') ?_ m0 ⟨σ,H,I,w0⟩)
  rintro n s1 ⟨σ1,H1,I1,w1⟩
  refine wpAny_passesOwn hp (thn (hc pins s1 σ1 H1 _ I1 (turn n σ1 H1 w1)) fun b s2 zz=>?_)
  obtain ⟨H2,I2,q2⟩:=zz
  cases b with
  | true =>
    obtain ⟨N,hN,q2⟩:=q2
    rw [if_pos rfl]
    refine wpAny_passesOwn hp (thn (hb pins s2 σ1 H2 _ I2 q2) fun f s3 q3=>?_)
    cases f with
    | next =>
      obtain ⟨σ3,H3,I3,n3⟩:=q3
      obtain ⟨m',hm,w3⟩:=hN σ3 H3 n3
      exact ⟨m',hm,σ3,H3,I3,w3⟩
    | cont =>
      obtain ⟨σ3,H3,I3,n3⟩:=q3
      obtain ⟨m',hm,w3⟩:=hN σ3 H3 n3
      exact ⟨m',hm,σ3,H3,I3,w3⟩
    | brk=>exact q3
    | ret v=>exact q3
  | false =>
    rw [if_neg Bool.false_ne_true]
    exact wpAny_execs_nil ⟨σ1,H2,I2,q2⟩
end

structure It where
  go:Nat→Hp→Prop
  yld:Nat→Hp→V→Hp→Prop
  stop:Nat→Hp→Prop
noncomputable def FpOk (X:Cx) (pins:List (Addr × Obj)) (H:Hp) (b:Addr):Prop :=
  H b=none∧b≠X.env.locals∧b∉X.fs∧(b∈X.ex∨X.s₀.heap.objs.size≤b)∧(∀ x c,X.env.cells.lookup x=some c→c≠b)∧∀ p∈X.pn++pins,p.1≠b
theorem Inv.fpOk {X:Cx} {pins:List (Addr × Obj)} {σ:St} {H H':Hp} {s:Shared} {b:Addr} (I:Inv X pins σ H s) (hb:s.heap.objs.size≤b) (hn:H' b=none):FpOk X pins H' b:=by
  refine ⟨hn,Nat.ne_of_gt (Nat.lt_of_lt_of_le I.lt hb),I.nofs hb,.inr (Nat.le_trans I.sz hb),fun x c e z=>?_,fun p hp z=>?_⟩
  · obtain ⟨v,q⟩:=I.cell x c e
    exact absurd (Nat.lt_of_lt_of_le q.lt (by rw [z]; exact hb)) (Nat.lt_irrefl _)
  · exact absurd (Nat.lt_of_lt_of_le (Heap.lt_size (I.pin p hp).1) (by rw [z]; exact hb)) (Nat.lt_irrefl _)
structure Turn (P:Program) (w:World) (K:PySem.W.Frag) (tg:Expr) (J:It) (fp:List Addr) (it:Addr) (tn:Nat→Heap→Prop):Prop where
  mem:it∈fp
  obj:∀ i h,tn i h→∀ b∈fp,∃ o,h.get? b=some o∧∀ v,o.data ≠ .cell v
  keep:∀ i h h',tn i h→(∀ b∈fp,∀ o,h.get? b=some o→h'.get? b=some o)→tn i h'
  item:∀ (X:Cx),X.prog=P→X.w=w→X.K=K→X.calm=true→∀ (i:Nat) (pins:List (Addr × Obj)) (s:Shared) (σ:St) (H:Hp) (E:Value→Shared→Prop),Inv X pins σ H s→(∀ b∈fp,FpOk X pins H b)→tn i s.heap→J.go i H →
    wpAny (model P w) X.A (pyNext (.ref it)) (fun r s1=>∃ u,r=some u ∧
      wpAny (model P w) X.A (letOwnedTupleGo tg (.ref it) u) (fun _ s2=>∃ x H',Inv X pins σ H' s2∧RelV x u∧J.yld i H x H'∧tn (i+1) s2.heap∧∀ b∈fp,H' b=none) E s1) E s
  done:∀ (X:Cx),X.prog=P→X.w=w→X.K=K→X.calm=true→∀ (i:Nat) (pins:List (Addr × Obj)) (s:Shared) (σ:St) (H:Hp) (E:Value→Shared→Prop),Inv X pins σ H s→(∀ b∈fp,FpOk X pins H b)→tn i s.heap→J.stop i H →
    wpAny (model P w) X.A (pyNext (.ref it)) (fun r s1=>r=none∧Inv X pins σ H s1) E s
  self:∀ (A:Around) (i:Nat) (s:Shared) (Q:Value→Shared→Prop) (E:Value→Shared→Prop),tn i s.heap→Q (.ref it) s→wpAny (model P w) A (pyIter (.ref it)) Q E s
noncomputable abbrev TI:=St→Hp→(It→Hp→Prop)→Prop
noncomputable def PIE (X:Cx) (pins:List (Addr × Obj)) (σ:St) (tg:Expr) (R:It→Hp→Prop) (itv:Value) (s2:Shared):Prop :=
  ∃ (it:Addr) (fp:List Addr) (tn:Nat→Heap→Prop) (J:It) (H':Hp),itv = .ref it∧Inv X pins σ H' s2∧Turn X.prog X.w X.K tg J fp it tn∧tn 0 s2.heap∧(∀ b∈fp,FpOk X pins H' b)∧R J H'
noncomputable def PI (X:Cx) (tg iter:Expr) (wi:TI):Prop :=
  ∀ (pins:List (Addr × Obj)) (s:Shared) (σ:St) (H:Hp) (R:It→Hp→Prop),Inv X pins σ H s→wi σ H R →
    wpAny (model X.prog X.w) X.A (eval iter X.env) (fun v s1=>wpAny (model X.prog X.w) X.A (pyIter v) (PIE X pins σ tg R) X.xe s1) X.xe s

theorem go_of {M:Model} {A:Around} {E:Value→Shared→Prop} {s:Shared} {tg:Expr} {it:Addr} {u:Value} {o:Obj} {n:String} {vs:Array Value} {Q:Unit→Shared→Prop} (ho:s.heap.get? it=some o) (hc:o.cls = .type n) (hd:o.data = .fields vs)
    (hn:["enumerate", "zip", "dict_itemiterator", "dict_reverseitemiterator", "odict_iterator", "itertools.zip_longest", "itertools.pairwise"].contains n=false) (hQ:Q () s):wpAny M A (letOwnedTupleGo tg (.ref it) u) Q E s:=by
  unfold letOwnedTupleGo
  cases tg <;> first
    | exact wpAny_pure hQ
    | (cases u <;> first
        | exact wpAny_pure hQ
        | (refine wpAny_bind (wpAny_load ho ?_)
           rw [hc,hd]
           show wpAny M A (if (["enumerate", "zip", "dict_itemiterator", "dict_reverseitemiterator", "odict_iterator", "itertools.zip_longest", "itertools.pairwise"].contains n && vs[0]? == some (rawInt _))=true then _ else _) Q E s
           rw [if_neg (by intro h; rw [hn,Bool.false_and] at h; cases h)]
           exact wpAny_pure hQ))

noncomputable def Itl (K:PySem.W.Frag) (a:Addr):It :=
  ⟨fun i H=>∃ xs x,SqL K H a xs∧xs[i]? = some x,fun i H x H'=>H'=H∧∀ xs,SqL K H a xs→xs[i]? = some x,fun i H=>∃ xs,SqL K H a xs∧xs.length≤i⟩
noncomputable def Itt (K:PySem.W.Frag) (a:Addr):It :=
  ⟨fun i H=>∃ xs x,SqT K H a xs∧xs[i]? = some x,fun i H x H'=>H'=H∧∀ xs,SqT K H a xs→xs[i]? = some x,fun i H=>∃ xs,SqT K H a xs∧xs.length≤i⟩
noncomputable def Itr (lo:Int) (n:Nat):It:=⟨fun i _=>i<n,fun i H x H'=>H'=H∧x = .int (lo+i),fun i _=>n≤i⟩
theorem turn_list {P:Program} {w:World} {K:PySem.W.Frag} {tg:Expr} (a it:Addr):Turn P w K tg (Itl K a) [it] it (fun i h=>h.IsListIter it a i) where
  mem:=by simp
  obj:=fun i h st b hb=>by
    have e:b=it:=by simpa using hb
    subst e
    obtain ⟨o,e,c,d⟩:=st
    exact ⟨o,e,fun v z=>by rw [d] at z; cases z⟩
  keep:=fun i h h' st k=>st.at fun o e=>k it (by simp) o e
  item:=by
    intro X hP hw hK hc i pins s σ H E I hf st hg
    subst hP hw hK
    obtain ⟨xs,x,hq,hx⟩:=hg
    obtain ⟨its,rv,p,hz⟩:=I.list hq
    obtain ⟨u,hu,ru⟩:=rv.get hx
    obtain ⟨f0,f1,f2,f3,f4,f5⟩:=hf it (by simp)
    refine wpAny_pyNext_list_item st p.isList (x:=u) (by simpa using hu) fun h' st' sb=>?_
    have I1:Inv X pins σ H { s with heap:=h' }:=I.turned (t':=s.toks) (fun b o hb e=>(sb.2 b hb).trans e) f0 f1 f3 f4 f5
    obtain ⟨o,e,c,d⟩:=id st'
    exact ⟨u,rfl,go_of (s:={ s with heap:=h' }) e c d (by decide) ⟨x,H,I1,ru,⟨rfl,fun ys hy=>by rw [I.list_inj hy hq]; exact hx⟩,st',fun b hb=>(hf b hb).1⟩⟩
  done:=by
    intro X hP hw hK hc i pins s σ H E I hf st hg
    subst hP hw hK
    obtain ⟨xs,hq,hx⟩:=hg
    obtain ⟨its,rv,p,hz⟩:=I.list hq
    obtain ⟨f0,f1,f2,f3,f4,f5⟩:=hf it (by simp)
    have hl:=rv.length
    exact wpAny_pyNext_list_end (I.ok.hd hc) st p.isList (by simp; omega) fun h' eb=>⟨rfl,I.turned (t':=s.toks) (fun b o hb e=>eb b o hb e) f0 f1 f3 f4 f5⟩
  self:=fun _ _ _ _ _ st h=>wpAny_pyIter_listiter st h
theorem turn_tuple {P:Program} {w:World} {K:PySem.W.Frag} {tg:Expr} (a it:Addr):Turn P w K tg (Itt K a) [it] it (fun i h=>h.IsTupleIter it a i) where
  mem:=by simp
  obj:=fun i h st b hb=>by
    have e:b=it:=by simpa using hb
    subst e
    obtain ⟨o,e,c,d⟩:=st
    exact ⟨o,e,fun v z=>by rw [d] at z; cases z⟩
  keep:=fun i h h' st k=>st.at fun o e=>k it (by simp) o e
  item:=by
    intro X hP hw hK hc i pins s σ H E I hf st hg
    subst hP hw hK
    obtain ⟨xs,x,hq,hx⟩:=hg
    obtain ⟨its,rv,p,hz⟩:=I.tuple hq
    obtain ⟨u,hu,ru⟩:=rv.get hx
    obtain ⟨f0,f1,f2,f3,f4,f5⟩:=hf it (by simp)
    refine wpAny_pyNext_tuple_item st (show s.heap.IsTuple a its.toArray from p) (x:=u) (by simpa using hu) fun h' st' sb=>?_
    have I1:Inv X pins σ H { s with heap:=h' }:=I.turned (t':=s.toks) (fun b o hb e=>(sb.2 b hb).trans e) f0 f1 f3 f4 f5
    obtain ⟨o,e,c,d⟩:=id st'
    exact ⟨u,rfl,go_of (s:={ s with heap:=h' }) e c d (by decide) ⟨x,H,I1,ru,⟨rfl,fun ys hy=>by rw [I.tuple_inj hy hq]; exact hx⟩,st',fun b hb=>(hf b hb).1⟩⟩
  done:=by
    intro X hP hw hK hc i pins s σ H E I hf st hg
    subst hP hw hK
    obtain ⟨xs,hq,hx⟩:=hg
    obtain ⟨its,rv,p,hz⟩:=I.tuple hq
    obtain ⟨f0,f1,f2,f3,f4,f5⟩:=hf it (by simp)
    have hl:=rv.length
    exact wpAny_pyNext_tuple_end (I.ok.hd hc) st (show s.heap.IsTuple a its.toArray from p) (by simp; omega) fun h' eb=>⟨rfl,I.turned (t':=s.toks) (fun b o hb e=>eb b o hb e) f0 f1 f3 f4 f5⟩
  self:=fun _ _ _ _ _ st h=>wpAny_pyIter_tupleiter st h
theorem turn_range {P:Program} {w:World} {K:PySem.W.Frag} {tg:Expr} (it:Addr) (lo:Int) (n:Nat):Turn P w K tg (Itr lo n) [it] it (fun i h=>IsRangeIter h it (lo+(i:Nat)*1) ((n:Int) - (i:Nat)) 1) where
  mem:=by simp
  obj:=fun i h st b hb=>by
    have e:b=it:=by simpa using hb
    subst e
    exact ⟨_,st,fun v z=>by
      have z':Data.fields _=Data.cell v:=z
      cases z'⟩
  keep:=fun i h h' st k=>k it (by simp) _ st
  item:=by
    intro X hP hw hK hc i pins s σ H E I hf st hg
    subst hP hw hK
    obtain ⟨f0,f1,f2,f3,f4,f5⟩:=hf it (by simp)
    have W:=Walks.range (prog:=X.prog) (w:=X.w) (I.ok.hd hc) it lo 1 n
    refine W.item i s _ _ hg st fun v h' tk hv st' kk=>?_
    obtain ⟨t,rfl⟩:=hv
    have I1:Inv X pins σ H { s with heap:=h',toks:=tk }:=I.turned (fun b o hb e=>kk b o (by simpa using hb) e) f0 f1 f3 f4 f5
    refine ⟨_,rfl,go_of (s:={ s with heap:=h',toks:=tk }) (n := "range_iterator") st' rfl rfl (by decide) ⟨.int (lo+i),H,I1,⟨t,?_⟩,⟨rfl,rfl⟩,st',fun b hb=>(hf b hb).1⟩⟩
    rw [Int.mul_one]
  done:=by
    intro X hP hw hK hc i pins s σ H E I hf st hg
    subst hP hw hK
    obtain ⟨f0,f1,f2,f3,f4,f5⟩:=hf it (by simp)
    exact wpAny_pyNext_range_end (I.ok.hd hc) st (by have:n≤i:=hg; omega) fun h' eb=>⟨rfl,I.turned (t':=s.toks) (fun b o hb e=>eb b o hb e) f0 f1 f3 f4 f5⟩
  self:=fun _ _ _ _ _ st h=>wpAny_pyIter_rangeiter st h
end L2

namespace L2
open PySem PySem.Spec PyProof.Rows
section
variable {X:Cx} {tg:Expr}
theorem range_it {pins:List (Addr × Obj)} {σ:St} {H:Hp} {s:Shared} {R:It→Hp→Prop} {E:Value→Shared→Prop} {lo hi:Int} {t u v:Tok} {tk:Nat} (I:Inv X pins σ H s) (h1:-(2 ^ 62)≤lo) (h2:lo<2 ^ 62) (h3:-(2 ^ 62)≤hi) (h4:hi<2 ^ 62)
    (q:R (Itr lo (hi - lo).toNat) H):wpAny (model X.prog X.w) X.A (pyIter (.ref s.heap.objs.size)) (PIE X pins σ tg R) E { s with heap:=s.heap.push { cls:=.type "range",data:=.fields #[.int lo t,.int hi u,.int 1 v] },toks:=tk }:=by
  refine wpAny_pyIter_range (IsRange.new ..) (small_one h1 h2 h3 h4) ?_
  have I1:Inv X pins σ H { s with heap:=s.heap.push { cls:=.type "range",data:=.fields #[.int lo t,.int hi u,.int 1 v] },toks:=tk }:=I.kept fun b o e=>Heap.get?_push_of_some _ e
  refine ⟨(s.heap.push { cls:=.type "range",data:=.fields #[.int lo t,.int hi u,.int 1 v] }).objs.size,[(s.heap.push { cls:=.type "range",data:=.fields #[.int lo t,.int hi u,.int 1 v] }).objs.size],_,_,H,rfl,
    I1.kept (t':=tk) fun b o e=>Heap.get?_push_of_some _ e,turn_range _ lo (hi - lo).toNat,?_,fun b hb=>?_,q⟩
  · have e1:lo+((0:Nat):Int)*1=lo:=by simp
    have e2:(((hi - lo).toNat:Nat):Int) - ((0:Nat):Int)=Builtin.Range.rangeSize lo hi 1:=by rw [rangeSize_one]; split <;> omega
    show IsRangeIter _ _ (lo+((0:Nat):Int)*1) ((((hi - lo).toNat:Nat):Int) - ((0:Nat):Int)) 1
    rw [e1,e2]
    exact Heap.get?_push_size _ rfl
  · have e:b=(s.heap.push { cls:=.type "range",data:=.fields #[.int lo t,.int hi u,.int 1 v] }).objs.size:=by simpa using hb
    subst e
    exact I1.fpOk (Nat.le_refl _) (I1.hok.fresh (Nat.le_refl _))
noncomputable def iRng1 (ta:TA):TI:=fun σ H R=>ta σ H fun vs H1=>∃ j:Int,vs=[.int j]∧-(2 ^ 62)≤j∧j<2 ^ 62∧R (Itr 0 j.toNat) H1
noncomputable def iRng2 (ta:TA):TI:=fun σ H R=>ta σ H fun vs H1=>∃ i j:Int,vs=[.int i,.int j]∧(-(2 ^ 62)≤i∧i<2 ^ 62∧-(2 ^ 62)≤j∧j<2 ^ 62)∧R (Itr i (j - i).toNat) H1
theorem pi_range1 {a:Expr} {ta:TA} {p pos:Pos} (hg:Gl X "range") (hm:X.mg "range" = none) (ha:PA X [a] ta) (hs:starEach [a] X.env=[(false,eval a X.env)]:=by rfl):PI X tg (.Call (.Name "range" p) [a] [] pos) (iRng1 ta):=by
  intro pins s σ H R I h
  refine Call_ (ld_blt I hg hm boot_range (PyProof.Rows.callWith_type1 (thn (ha pos pins s σ H _ I h) fun us s1 ⟨vs,H1,I1,r1,q1⟩=>?_) hs rfl))
  obtain ⟨j,e,q1,q2,q⟩:=q1
  subst e
  cases r1 with
  | cons r rr =>
    cases rr
    obtain ⟨t,rfl⟩:=r
    exact call_range_1 (range_it I1 (by omega) (by omega) q1 q2 (by simpa using q))
theorem pi_range2 {a b:Expr} {ta:TA} {p pos:Pos} (hg:Gl X "range") (hm:X.mg "range" = none) (ha:PA X [a,b] ta) (hs:starEach [a,b] X.env=[(false,eval a X.env),(false,eval b X.env)]:=by rfl) (hs2:starEach [b] X.env=[(false,eval b X.env)]:=by rfl) :
    PI X tg (.Call (.Name "range" p) [a,b] [] pos) (iRng2 ta):=by
  intro pins s σ H R I h
  refine Call_ (ld_blt I hg hm boot_range (PyProof.Rows.callWith_type1 (thn (ha pos pins s σ H _ I h) fun us s1 ⟨vs,H1,I1,r1,q1⟩=>?_) (by rw [hs,hs2]) (by rw [hs2]; rfl)))
  obtain ⟨i,j,e,⟨q1,q2,q3,q4⟩,q⟩:=q1
  subst e
  cases r1 with
  | cons r rr =>
    cases rr with
    | cons r' rr =>
      cases rr
      obtain ⟨t,rfl⟩:=r
      obtain ⟨t',rfl⟩:=r'
      exact call_range_2 (range_it I1 q1 q2 q3 q4 q)

noncomputable def tFor (wi:TI) (g:TG) (tb:TS):TS:=fun D σ H=>wi σ H fun J H1=>∃ W:Nat→Nat→St→Hp→Prop,(∃ m,W 0 m σ H1)∧∀ i m σ H,W i m σ H →
  (J.stop i H∧D.nx σ H)∨(J.go i H∧∃ N:St→Hp→Prop,(∀ σ' H',N σ' H'→∃ m',m'<m∧W (i+1) m' σ' H')∧∀ x H',J.yld i H x H'→g x σ H' fun σ2 H2=>tb { D with nx:=N,ct:=N,bk:=D.nx } σ2 H2)
noncomputable def pinsAt (fp:List Addr) (h:Heap):List (Addr × Obj):=fp.filterMap fun b=>(h.get? b).map fun o=>(b,o)
theorem mem_pinsAt {fp:List Addr} {h:Heap} {b:Addr} {o:Obj} (hb:b∈fp) (e:h.get? b=some o):(b,o)∈pinsAt fp h:=List.mem_filterMap.mpr ⟨b,hb,by rw [e]; rfl⟩
theorem of_pinsAt {fp:List Addr} {h:Heap} {p:Addr × Obj} (hp:p∈pinsAt fp h):p.1∈fp∧h.get? p.1=some p.2:=by
  obtain ⟨b,hb,e⟩:=List.mem_filterMap.mp hp
  cases q:h.get? b with
  | none=>rw [q] at e; cases e
  | some o =>
    rw [q] at e
    have e':(b,o)=p:=Option.some.inj e
    subst e'
    exact ⟨hb,q⟩
theorem Inv.pinned {pins:List (Addr × Obj)} {σ:St} {H:Hp} {s:Shared} {fp:List Addr} (I:Inv X pins σ H s) (hf:∀ b∈fp,FpOk X pins H b) (ho:∀ b∈fp,∃ o,s.heap.get? b=some o∧∀ v,o.data ≠ .cell v):Inv X (pins++pinsAt fp s.heap) σ H s :=
  I.pins_of fun p hp=>(List.mem_append.mp hp).elim (fun z=>I.pin p (List.mem_append_right _ z)) fun z=>by
    obtain ⟨hb,e⟩:=of_pinsAt z
    obtain ⟨f0,f1,f2,_⟩:=hf p.1 hb
    obtain ⟨o,e',d⟩:=ho p.1 hb
    rw [e] at e'; cases e'
    exact ⟨e,f0,f1,f2,d⟩
theorem Inv.unpinned {pins pl:List (Addr × Obj)} {σ:St} {H:Hp} {s:Shared} (I:Inv X (pins++pl) σ H s):Inv X pins σ H s:=I.pins_of fun p hp=>I.pin p (List.mem_append_right _ (List.mem_append_left _ hp))
theorem ps_for {iter:Expr} {body:List Stmt} {wi:TI} {g:TG} {tb:TS} {pos:Pos} (hp:PassesOwn (model X.prog X.w) X.A X.env X.xe) (hc:X.calm=true) (hi:PI X tg iter wi) (hg:PG X tg g) (hb:PSs X body tb)
    (hs:∀ x,foldedSetIterable iter X.env x=pure x:=by intro _; rfl):PS X (.For tg iter body [] pos) (tFor wi g tb):=by
  intro pins s σ H D I h
  refine wpAny_For (thn (hi pins s σ H _ I h) fun v s1 h1=>thn h1 fun itv s2 h2=>?_) hs
  obtain ⟨it,fp,tn,J,H2,e,I2,T,st2,f2,W,⟨m0,w0⟩,turn⟩:=h2
  subst e
  -- what stays true of the iterator's objects through the loop
  have stat:∀ {H':Hp},(∀ b∈fp,H' b=none)→∀ b∈fp,FpOk X pins H' b:=fun hn b hb=>⟨hn b hb,(f2 b hb).2⟩
  refine codeAny_forLoop_any (fun n s'=>∃ i σ' H',Inv X pins σ' H' s'∧tn i s'.heap∧(∀ b∈fp,H' b=none)∧W i n σ' H') ?_ m0 ⟨0,σ,H2,I2,st2,fun b hb=>(f2 b hb).1,w0⟩
  rintro n s3 ⟨i,σ3,H3,I3,st3,fr3,w3⟩
  rcases turn i n σ3 H3 w3 with ⟨stop,qn⟩ | ⟨go,N,hN,step⟩
  · refine wpAny_passesOwn hp (thn (T.done X rfl rfl rfl hc i pins s3 σ3 H3 X.xe I3 (stat fr3) st3 stop) fun r s4 zz=>?_)
    obtain ⟨hr,I4⟩:=zz
    subst hr
    exact wpAny_execs_nil ⟨σ3,H3,I4,qn⟩
  · refine wpAny_passesOwn hp (thn (T.item X rfl rfl rfl hc i pins s3 σ3 H3 X.xe I3 (stat fr3) st3 go) fun r s4 zz=>?_)
    obtain ⟨u,hr,h4⟩:=zz
    subst hr
    refine wpAny_passesOwn hp (thn h4 fun _ s5 zz=>?_)
    obtain ⟨x,H5,I5,r5,y5,st5,fr5⟩:=zz
    have I5':=I5.pinned (stat fr5) (T.obj _ _ st5)
    refine wpAny_passesOwn hp (thn (hg _ s5 σ3 H5 x u _ I5' r5 (step x H5 y5)) fun _ s6 zz=>?_)
    obtain ⟨σ6,H6,I6,q6⟩:=zz
    refine wpAny_passesOwn hp (thn (hb _ s6 σ6 H6 _ I6 q6) fun f s7 q7=>?_)
    have again:∀ {σ7:St} {H7:Hp},Inv X (pins++pinsAt fp s5.heap) σ7 H7 s7→N σ7 H7→∃ m,m<n∧∃ i σ' H',Inv X pins σ' H' s7∧tn i s7.heap∧(∀ b∈fp,H' b=none)∧W i m σ' H':=fun {σ7 H7} I7 n7=>by
      obtain ⟨m',hm,w7⟩:=hN σ7 H7 n7
      refine ⟨m',hm,i+1,σ7,H7,I7.unpinned,T.keep _ _ _ st5 fun b hb o e=>(I7.pin (b,o) (List.mem_append_right _ (List.mem_append_right _ (mem_pinsAt hb e)))).1,fun b hb=>?_,w7⟩
      obtain ⟨o,e,d⟩:=T.obj _ _ st5 b hb
      exact (I7.pin (b,o) (List.mem_append_right _ (List.mem_append_right _ (mem_pinsAt hb e)))).2.1
    cases f with
    | next=>obtain ⟨σ7,H7,I7,n7⟩:=q7; exact again I7 n7
    | cont=>obtain ⟨σ7,H7,I7,n7⟩:=q7; exact again I7 n7
    | brk=>obtain ⟨σ7,H7,I7,q7⟩:=q7; exact ⟨σ7,H7,I7.unpinned,q7⟩
    | ret v=>obtain ⟨x7,σ7,H7,I7,r7,q7⟩:=q7; exact ⟨x7,σ7,H7,I7.unpinned,r7,q7⟩
end

end L2

namespace L2
open PySem PySem.Spec PyProof.Rows

noncomputable abbrev R2:=V→V→Hp→VK→Prop
noncomputable def OpR (X:Cx) (f:Value→Value→Sem Value) (r:R2):Prop :=
  ∀ (pins:List (Addr × Obj)) (s:Shared) (σ:St) (H:Hp) (x y:V) (v u:Value) (Q:VK),Inv X pins σ H s→RelV x v→RelV y u→r x y H Q →
    wpAny (model X.prog X.w) X.A (f v u) (EP X pins σ Q) X.xe s
noncomputable def UnR (X:Cx) (f:Value→Sem Value) (r:V→Hp→VK→Prop):Prop :=
  ∀ (pins:List (Addr × Obj)) (s:Shared) (σ:St) (H:Hp) (x:V) (v:Value) (Q:VK),Inv X pins σ H s→RelV x v→r x H Q →
    wpAny (model X.prog X.w) X.A (f v) (EP X pins σ Q) X.xe s
noncomputable def CallR (X:Cx) (f:Value) (r:List V→Hp→VK→Prop):Prop :=
  ∀ (pins:List (Addr × Obj)) (s:Shared) (σ:St) (H:Hp) (xs:List V) (us:List Value) (Q:VK),Inv X pins σ H s→Vals xs us→r xs H Q →
    wpAny (model X.prog X.w) X.A (call f us) (EP X pins σ Q) X.xe s
noncomputable def tOp (r:R2) (ta tb:TE):TE:=fun σ H Q=>ta σ H fun x H1=>tb σ H1 fun y H2=>r x y H2 Q
noncomputable def tUn (r:V→Hp→VK→Prop) (ta:TE):TE:=fun σ H Q=>ta σ H fun x H1=>r x H1 Q
noncomputable def rI (C:Int→Int→Prop) (g:Int→Int→V):R2:=fun x y H Q=>∃ i j,x = .int i∧y = .int j∧C i j∧Q (g i j) H
noncomputable def rI0 (g:Int→Int→V):R2:=fun x y H Q=>∃ i j,x = .int i∧y = .int j∧Q (g i j) H
noncomputable def rU (g:Int→V):V→Hp→VK→Prop:=fun x H Q=>∃ i,x = .int i∧Q (g i) H

section
variable {X:Cx} {a b c:Expr} {ta tb tc:TE} {pos:Pos}

theorem binT (ha:PE X a ta) (hb:PE X b tb) {pins:List (Addr × Obj)} {s:Shared} {σ:St} {H:Hp} {R:V→V→Hp→Prop} (I:Inv X pins σ H s)
    (h:ta σ H fun x H1=>tb σ H1 fun y H2=>R x y H2) {Q:Value→Shared→Prop} {f:Value→Value→Sem Value}
    (hf:∀ v u s2 x y H2,Inv X pins σ H2 s2→RelV x v→RelV y u→R x y H2→wpAny (model X.prog X.w) X.A (f v u) Q X.xe s2) :
    wpAny (model X.prog X.w) X.A (eval a X.env) (fun v s₁=>wpAny (model X.prog X.w) X.A (eval b X.env) (fun u s₂=>wpAny (model X.prog X.w) X.A (f v u) Q X.xe s₂) X.xe s₁) X.xe s:=by
  refine thn (ha pins s σ H _ I h) fun v s1 zz=>?_
  obtain ⟨x,H1,I1,r1,q1⟩:=zz
  refine thn (hb pins s1 σ H1 _ I1 q1) fun u s2 zz=>?_
  obtain ⟨y,H2,I2,r2,q2⟩:=zz
  exact hf v u s2 x y H2 I2 r1 r2 q2

theorem pe_op {op:Operator} {r:R2} (ho:OpR X (binaryOp op) r) (ha:PE X a ta) (hb:PE X b tb):PE X (.BinOp a op b pos) (tOp r ta tb):=by
  intro pins s σ H Q I h
  exact wpAny_BinOp (binT ha hb I h fun v u s2 x y H2 I2 rx ry q=>ho pins s2 σ H2 x y v u Q I2 rx ry q)
theorem pe_un {op:UnaryOp} {r:V→Hp→VK→Prop} (ho:UnR X (unaryOp op) r) (ha:PE X a ta):PE X (.UnaryOp op a pos) (tUn r ta):=by
  intro pins s σ H Q I h
  exact UnaryOp_ (thn (ha pins s σ H _ I h) fun v s1 ⟨x,H1,I1,r1,q1⟩=>ho pins s1 σ H1 x v Q I1 r1 q1)
theorem opI {f:Value→Value→Sem Value} {C:Int→Int→Prop} {g:Int→Int→Int}
    (rule:∀ (i j:Int) (t u:Tok) (s:Shared) (Q:Value→Shared→Prop) (E:Value→Shared→Prop),C i j→Q (.int (g i j) s.toks) { s with toks:=s.toks+1 }→wpAny (model X.prog X.w) X.A (f (.int i t) (.int j u)) Q E s) :
    OpR X f (rI C fun i j=>.int (g i j)):=by
  intro pins s σ H x y v u Q I rx ry h
  obtain ⟨i,j,rfl,rfl,hc,q⟩:=h
  obtain ⟨t,rfl⟩:=rx
  obtain ⟨t',rfl⟩:=ry
  exact rule i j t t' s _ _ hc ⟨.int (g i j),H,I.tok _,⟨_,rfl⟩,q⟩
theorem opI0 {f:Value→Value→Sem Value} {g:Int→Int→Int}
    (rule:∀ (i j:Int) (t u:Tok) (s:Shared) (Q:Value→Shared→Prop) (E:Value→Shared→Prop),Q (.int (g i j) s.toks) { s with toks:=s.toks+1 }→wpAny (model X.prog X.w) X.A (f (.int i t) (.int j u)) Q E s) :
    OpR X f (rI0 fun i j=>.int (g i j)):=by
  intro pins s σ H x y v u Q I rx ry h
  obtain ⟨i,j,rfl,rfl,q⟩:=h
  obtain ⟨t,rfl⟩:=rx
  obtain ⟨t',rfl⟩:=ry
  exact rule i j t t' s _ _ ⟨.int (g i j),H,I.tok _,⟨_,rfl⟩,q⟩
theorem opB0 {f:Value→Value→Sem Value} {g:Int→Int→Bool}
    (rule:∀ (i j:Int) (t u:Tok) (s:Shared) (Q:Value→Shared→Prop) (E:Value→Shared→Prop),Q (.bool (g i j)) s→wpAny (model X.prog X.w) X.A (f (.int i t) (.int j u)) Q E s) :
    OpR X f (rI0 fun i j=>.bl (g i j)):=by
  intro pins s σ H x y v u Q I rx ry h
  obtain ⟨i,j,rfl,rfl,q⟩:=h
  obtain ⟨t,rfl⟩:=rx
  obtain ⟨t',rfl⟩:=ry
  exact rule i j t t' s _ _ ⟨.bl (g i j),H,I,rfl,q⟩

noncomputable def CPow (i j:Int):Prop:=0≤j∧j≤1000000∧i.natAbs<2 ^ 64
theorem op_add:OpR X (binaryOp .Add) (rI0 fun i j=>.int (i+j)):=opI0 fun _ _ _ _ _ _ _ q=>add_int q
theorem op_sub:OpR X (binaryOp .Sub) (rI0 fun i j=>.int (i - j)):=opI0 fun _ _ _ _ _ _ _ q=>sub_int q
theorem op_mod:OpR X (binaryOp .Mod) (rI (fun _ j=>0<j) fun i j=>.int (i % j)):=opI fun i j _ _ _ _ _ hc q=>by
  have h1:(0:Int)<j:=hc
  exact mod_int' (by omega) (by rw [Int.fmod_eq_emod_of_nonneg i (by omega)]; exact q)
theorem op_pow:OpR X (binaryOp .Pow) (rI CPow fun i j=>.int (i ^ j.toNat)):=opI fun _ _ _ _ _ _ _ hc q=>pow_int_small hc.1 hc.2.1 hc.2.2 q
theorem unI {f:Value→Sem Value} {g:Int→Int}
    (rule:∀ (i:Int) (t:Tok) (s:Shared) (Q:Value→Shared→Prop) (E:Value→Shared→Prop),Q (.int (g i) s.toks) { s with toks:=s.toks+1 }→wpAny (model X.prog X.w) X.A (f (.int i t)) Q E s) :
    UnR X f (rU fun i=>.int (g i)):=by
  intro pins s σ H x v Q I rx h
  obtain ⟨i,rfl,q⟩:=h
  obtain ⟨t,rfl⟩:=rx
  exact rule i t s _ _ ⟨.int (g i),H,I.tok _,⟨_,rfl⟩,q⟩
theorem un_neg:UnR X (unaryOp .USub) (rU fun i=>.int (-i)):=unI fun _ _ _ _ _ q=>neg_int q
end

noncomputable def scal:V→V→Bool
  | .non,.non=>true | .non,.int _=>true | .int _,.non=>true | .non,.bl _=>true | .bl _,.non=>true | .non,.str _=>true | .str _,.non=>true
  | .int _,.int _=>true | .bl _,.bl _=>true | .str _,.str _=>true | .byt _,.byt _=>true
  | .int _,.str _=>true | .str _,.int _=>true | .bl _,.str _=>true | .str _,.bl _=>true
  | _,_=>false
noncomputable def rEq:R2:=fun x y H Q=>scal x y=true∧Q (.bl (decide (x=y))) H
noncomputable def rNe:R2:=fun x y H Q=>scal x y=true∧Q (.bl (!decide (x=y))) H

theorem dec_int {i j:Int}:decide (V.int i=V.int j)=(i == j):=by
  rw [Bool.eq_iff_iff]
  simp
theorem dec_bl {i j:Bool}:decide (V.bl i=V.bl j)=(i == j):=by
  rw [Bool.eq_iff_iff]
  simp
theorem dec_str {i j:Str}:decide (V.str i=V.str j)=(i == j):=by
  rw [Bool.eq_iff_iff]
  simp
theorem dec_byt {i j:Array UInt8}:decide (V.byt i=V.byt j)=(i.toList == j.toList):=by
  rw [Bool.eq_iff_iff]
  cases i
  cases j
  simp

section
variable {X:Cx} {a b c:Expr} {ta tb tc:TE} {pos:Pos}
theorem fin_bl {pins:List (Addr × Obj)} {σ:St} {H:Hp} {s:Shared} {Q:VK} {k k':Bool} (I:Inv X pins σ H s) (q:Q (.bl k) H) (e:k=k'):EP X pins σ Q (.bool k') s:=by
  subst e
  exact ⟨.bl k,H,I,rfl,q⟩
theorem op_eq:OpR X (compareOp .Eq) rEq:=by
  intro pins s σ H x y v u Q I rx ry h
  obtain ⟨hs,q⟩:=h
  cases x with
  | non =>
    cases rx
    cases y with
    | non=>cases ry; exact PySem.EqNone.eq_none_none (fin_bl I q (by simp))
    | bl j=>cases ry; exact PySem.EqNone.eq_none_bool (fin_bl I q (by simp))
    | int j=>obtain ⟨t',rfl⟩:=ry; exact PySem.EqNone.eq_none_int (fin_bl I q (by simp))
    | str j=>obtain ⟨t',rfl⟩:=ry; exact PySem.EqNone.eq_none_str (fin_bl I q (by simp))
    | _=>exact absurd (show false=true from hs) Bool.false_ne_true
  | bl i =>
    cases rx
    cases y with
    | non=>cases ry; exact PySem.EqNone.eq_bool_none (fin_bl I q (by simp))
    | bl j=>cases ry; exact eq_bool (fin_bl I q dec_bl)
    | str j=>obtain ⟨t',rfl⟩:=ry; exact PySem.EqMixed.eq_bool_str (fin_bl I q (by simp))
    | _=>exact absurd (show false=true from hs) Bool.false_ne_true
  | int i =>
    obtain ⟨t,rfl⟩:=rx
    cases y with
    | non=>cases ry; exact PySem.EqNone.eq_int_none (fin_bl I q (by simp))
    | int j=>obtain ⟨t',rfl⟩:=ry; exact eq_int (fin_bl I q dec_int)
    | str j=>obtain ⟨t',rfl⟩:=ry; exact PySem.EqMixed.eq_int_str (fin_bl I q (by simp))
    | _=>exact absurd (show false=true from hs) Bool.false_ne_true
  | str i =>
    obtain ⟨t,rfl⟩:=rx
    cases y with
    | non=>cases ry; exact PySem.EqNone.eq_str_none (fin_bl I q (by simp))
    | bl j=>cases ry; exact PySem.EqMixed.eq_str_bool (fin_bl I q (by simp))
    | int j=>obtain ⟨t',rfl⟩:=ry; exact PySem.EqMixed.eq_str_int (fin_bl I q (by simp))
    | str j=>obtain ⟨t',rfl⟩:=ry; exact eq_str (fin_bl I q dec_str)
    | _=>exact absurd (show false=true from hs) Bool.false_ne_true
  | byt i =>
    obtain ⟨t,rfl⟩:=rx
    cases y with
    | byt j=>obtain ⟨t',rfl⟩:=ry; exact PySem.W.eq_bytes (fin_bl I q dec_byt)
    | _=>exact absurd (show false=true from hs) Bool.false_ne_true
  | _=>cases y <;> exact absurd (show false=true from hs) Bool.false_ne_true
theorem op_ne:OpR X (compareOp .NotEq) rNe:=by
  intro pins s σ H x y v u Q I rx ry h
  obtain ⟨hs,q⟩:=h
  cases x with
  | non =>
    cases rx
    cases y with
    | non=>cases ry; exact PySem.EqNone.ne_none_none (fin_bl I q (by simp))
    | bl j=>cases ry; exact PySem.EqNone.ne_none_bool (fin_bl I q (by simp))
    | int j=>obtain ⟨t',rfl⟩:=ry; exact PySem.EqNone.ne_none_int (fin_bl I q (by simp))
    | str j=>obtain ⟨t',rfl⟩:=ry; exact PySem.EqNone.ne_none_str (fin_bl I q (by simp))
    | _=>exact absurd (show false=true from hs) Bool.false_ne_true
  | bl i =>
    cases rx
    cases y with
    | non=>cases ry; exact PySem.EqNone.ne_bool_none (fin_bl I q (by simp))
    | bl j=>cases ry; exact ne_bool (fin_bl I q (congrArg not dec_bl))
    | str j=>obtain ⟨t',rfl⟩:=ry; exact PySem.EqMixed.ne_bool_str (fin_bl I q (by simp))
    | _=>exact absurd (show false=true from hs) Bool.false_ne_true
  | int i =>
    obtain ⟨t,rfl⟩:=rx
    cases y with
    | non=>cases ry; exact PySem.EqNone.ne_int_none (fin_bl I q (by simp))
    | int j=>obtain ⟨t',rfl⟩:=ry; exact ne_int (fin_bl I q (congrArg not dec_int))
    | str j=>obtain ⟨t',rfl⟩:=ry; exact PySem.EqMixed.ne_int_str (fin_bl I q (by simp))
    | _=>exact absurd (show false=true from hs) Bool.false_ne_true
  | str i =>
    obtain ⟨t,rfl⟩:=rx
    cases y with
    | non=>cases ry; exact PySem.EqNone.ne_str_none (fin_bl I q (by simp))
    | bl j=>cases ry; exact PySem.EqMixed.ne_str_bool (fin_bl I q (by simp))
    | int j=>obtain ⟨t',rfl⟩:=ry; exact PySem.EqMixed.ne_str_int (fin_bl I q (by simp))
    | str j=>obtain ⟨t',rfl⟩:=ry; exact ne_str (fin_bl I q (congrArg not dec_str))
    | _=>exact absurd (show false=true from hs) Bool.false_ne_true
  | byt i =>
    obtain ⟨t,rfl⟩:=rx
    cases y with
    | byt j=>obtain ⟨t',rfl⟩:=ry; exact PySem.W.ne_bytes (fin_bl I q (congrArg not dec_byt))
    | _=>exact absurd (show false=true from hs) Bool.false_ne_true
  | _=>cases y <;> exact absurd (show false=true from hs) Bool.false_ne_true

theorem op_lt:OpR X (compareOp .Lt) (rI0 fun i j=>.bl (decide (i<j))):=opB0 fun _ _ _ _ _ _ _ q=>lt_int q
theorem op_le:OpR X (compareOp .LtE) (rI0 fun i j=>.bl (decide (i≤j))):=opB0 fun _ _ _ _ _ _ _ q=>le_int q
theorem op_gt:OpR X (compareOp .Gt) (rI0 fun i j=>.bl (decide (j<i))):=opB0 fun _ _ _ _ _ _ _ q=>gt_int q
theorem op_ge:OpR X (compareOp .GtE) (rI0 fun i j=>.bl (decide (j≤i))):=opB0 fun _ _ _ _ _ _ _ q=>ge_int q
theorem OpR.or {f:Value→Value→Sem Value} {r r':R2} (h:OpR X f r) (h':OpR X f r'):OpR X f (fun x y H Q=>r x y H Q∨r' x y H Q):=by
  intro pins s σ H x y v u Q I rx ry q
  rcases q with q | q
  · exact h pins s σ H x y v u Q I rx ry q
  · exact h' pins s σ H x y v u Q I rx ry q

theorem nomark (b:Expr) {op:CmpOp} (h:op ≠ .In:=by decide) (h2:op ≠ .NotIn:=by decide):behindInMarks op b=false:=by
  have e1:(op == CmpOp.In)=false:=by cases op <;> first | rfl | exact absurd rfl h
  have e2:(op == CmpOp.NotIn)=false:=by cases op <;> first | rfl | exact absurd rfl h2
  cases b <;> simp [behindInMarks,e1,e2]
theorem pe_cmpR {op:CmpOp} {r:R2} (ho:OpR X (compareOp op) r) (ha:PE X a ta) (hb:PE X b tb) (hm:behindInMarks op b=false):PE X (.Compare a [op] [b] pos) (tOp r ta tb):=by
  intro pins s σ H Q I h
  exact wpAny_Compare1 (binT ha hb I h fun v u s2 x y H2 I2 rx ry q=>ho pins s2 σ H2 x y v u Q I2 rx ry q) hm
noncomputable def tTest (t:TE):TT:=fun σ H Q=>t σ H fun x H'=>∃ k,x = .bl k∧Q k H'
theorem pt_cmpR {op:CmpOp} {r:R2} (ho:OpR X (compareOp op) r) (ha:PE X a ta) (hb:PE X b tb) (hm:behindInMarks op b=false):PT X (.Compare a [op] [b] pos) (tTest (tOp r ta tb)):=by
  intro pins s σ H Q I h
  refine wpAny_isTrue_Compare1 (thn (ha pins s σ H _ I h) fun v s1 ⟨x,H1,I1,r1,q1⟩=>thn (hb pins s1 σ H1 _ I1 q1) fun u s2 ⟨y,H2,I2,r2,q2⟩ =>
    thn (ho pins s2 σ H2 x y v u _ I2 r1 r2 q2) fun c s3 ⟨z,H3,I3,r3,k,e,q3⟩=>?_) hm
  subst e
  cases r3
  exact wpAny_truthy_bool ⟨H3,I3,q3⟩
theorem line63:(sizeLine:Nat)<2 ^ 63:=by rw [sizeLine_eq]; decide
theorem vals1 {x:V} {us:List Value} (r:Vals [x] us):∃ u,us=[u]∧RelV x u:=by
  cases r with
  | cons r1 r2=>cases r2; exact ⟨_,rfl,r1⟩
theorem vals2 {x y:V} {us:List Value} (r:Vals [x,y] us):∃ u w',us=[u,w']∧RelV x u∧RelV y w':=by
  cases r with
  | cons r1 r2 =>
    cases r2 with
    | cons r3 r4=>cases r4; exact ⟨_,_,rfl,r1,r3⟩
theorem call_abs:CallR X (.builtin "abs") (fun xs H Q=>∃ i,xs=[.int i]∧Q (.int (if i<0 then -i else i)) H):=by
  intro pins s σ H xs us Q I r h
  obtain ⟨i,rfl,q⟩:=h
  obtain ⟨u,rfl,t,rfl⟩:=vals1 r
  exact call_abs_int fun u tk=>⟨.int (if i<0 then -i else i),H,I.tok _,⟨_,rfl⟩,q⟩
theorem call_max2 (hc:X.calm=true):CallR X (.builtin "max") (fun xs H Q=>∃ i j,xs=[.int i,.int j]∧Q (.int (if j > i then j else i)) H):=by
  intro pins s σ H xs us Q I r h
  obtain ⟨i,j,rfl,q⟩:=h
  obtain ⟨u,w',rfl,⟨t,rfl⟩,⟨t',rfl⟩⟩:=vals2 r
  refine max_two_ints (I.ok.hd hc) fun h' tk k=>⟨_,H,I.kept k,?_,q⟩
  by_cases hj:j > i
  · rw [if_pos hj,if_pos hj]; exact ⟨_,rfl⟩
  · rw [if_neg hj,if_neg hj]; exact ⟨_,rfl⟩
end
end L2

namespace L2
open PySem PySem.Spec PyProof.Rows

structure ObjM (h:Heap) (x dx C:Addr) (mA:Str→Option Value):Prop where
  obj:h.get? x=some (PySem.W.instObj C dx)
  ns:h.Ns1 dx mA
  ne:dx≠x

theorem lookIn_ns {h:Heap} {dx:Addr} {mA:Str→Option Value} (n:h.Ns1 dx mA):∃ od,h.get? dx=some od∧∀ name,PySem.W.lookIn name od=some (mA name):=by
  obtain ⟨o,es,ep,ho,hd,hk,_,hm⟩:=n
  refine ⟨o,ho,fun name=>?_⟩
  have e:=hm name
  unfold nsFind findBy at e
  rw [← Array.find?_toList] at e
  unfold PySem.W.lookIn
  rw [hd]
  dsimp only
  split
  · rename_i y q
    rw [q] at e
    exact congrArg some e
  · rename_i q
    rw [q] at e
    have a:es.toList.any (·.refKey)=false:=by
      rw [List.any_eq_false]
      intro y hy
      obtain ⟨z,t,hkey⟩:=hk y (Array.mem_toList_iff.mp hy)
      simp [DictEntry.refKey,hkey]
    have a':¬ es.toList.any (·.refKey)=true:=by rw [a]; exact Bool.false_ne_true
    rw [if_neg a']
    exact congrArg some e

theorem ObjM.look {h:Heap} {x dx C:Addr} {mA:Str→Option Value} (I:ObjM h x dx C mA):∃ od,PySem.W.InstAt h x (PySem.W.instObj C dx) C (some od)∧∀ name,PySem.W.lookIn name od=some (mA name) :=
  let ⟨od,ho,hl⟩:=lookIn_ns I.ns
  ⟨od,⟨I.obj,rfl,rfl,ho⟩,hl⟩

section
variable {prog:Program} {w:World} {A:Around} {E:Value→Shared→Prop} {s:Shared} {K:PySem.W.Frag} {x dx C f:Addr} {mA:Str→Option Value} {name:Str} {v:Value}

end

section
variable {P:Program} {w:World} {H H':Hp} {h h':Heap} {a C dx:Addr} {fs fs':List (Str × V)}
theorem ins_get (hok:HOk P w H h) (e:H a=some (.ins C dx fs)):∃ mA,ObjM h a dx C mA∧(∀ f,RelO (fs.lookup f) (mA f))∧PySem.Within mA (fs.map (·.1))∧fs.length≤1000∧H dx=some (.own a):=by
  obtain ⟨d,z,ne,ob,mA,n,r,q⟩:=(show ObjOk P w H h a (.ins C dx fs) from hok a _ e)
  exact ⟨mA,⟨ob,n,ne⟩,r,q,z,d⟩
end

structure Cls (K:PySem.W.Frag) (C:Addr):Prop where
  pg:PySem.W.plainGet K C Str.empty=true
  hd:PySem.W.hasDictIn K C=true
  po:PySem.W.plainOver K C=true
  sa:PySem.W.findIn K (.ref C) "__setattr__" = some (some (.builtin "object.__setattr__"))
theorem Cls.get {K:PySem.W.Frag} {C:Addr} (c:Cls K C) (f:Str):PySem.W.plainGet K C f=true:=c.pg
section
variable {X:Cx} {pins:List (Addr × Obj)} {σ:St} {H:Hp} {s:Shared} {a C dx:Addr} {fs:List (Str × V)} {f:Str} {v:V} {A:Around} {E:Value→Shared→Prop}

end

section
variable {X:Cx} {o e value:Expr} {f:Str} {pos pos' tpos:Pos} {ta tv:TE}
end

section
variable {X:Cx} {pins:List (Addr × Obj)} {σ:St} {H:Hp} {s:Shared} {A:Around} {E:Value→Shared→Prop} {Q:Value→Shared→Prop} {c:Value} {b:Bool}
inductive TyOf (K:PySem.W.Frag) (H:Hp):V→Value→Prop where
  | non:TyOf K H .non (.type "NoneType")
  | bl (x:Bool):TyOf K H (.bl x) (.type "bool")
  | int (i:Int):TyOf K H (.int i) (.type "int")
  | str (x:Str):TyOf K H (.str x) (.type "str")
  | flt (x:UInt64):TyOf K H (.flt x) (.type "float")
  | lst {a:Addr} {xs:List V} (e:H a=some (.lst xs)):TyOf K H (.ref a) (.type "list")
  | frz {a:Addr} {o:Obj} {xs:List V} (e:H a=some (.frz o (.lst xs))):TyOf K H (.ref a) (.type "list")
  | tup {a:Addr} {xs:List V} (e:H a=some (.tup xs)):TyOf K H (.ref a) (.type "tuple")
  | dK {a:Addr} {kvs:List (Key × V)} (e:H a=some (.dK kvs)):TyOf K H (.ref a) (.type "dict")
  | dT {a:Addr} {kvs:List (List Key × V)} (e:H a=some (.dT kvs)):TyOf K H (.ref a) (.type "dict")
  | ins {a C dx:Addr} {fs:List (Str × V)} (e:H a=some (.ins C dx fs)) (cl:Cls K C) (ha:PySem.W.findIn K (.ref C) "__class__" = some (some (.builtin "object.__class__")))
      (hn:PySem.W.specialIn K (.builtin "object.__class__") "__get__" = some (some (.builtin "getset_descriptor.__get__"))) (htk:PySem.W.takesIn K (.builtin "object.__class__")=some true)
      (hm:PySem.W.mroIn K C (.type "object")=some true):TyOf K H (.ref a) (.ref C)
theorem isinst_ok {x:V} {u t:Value} (I:Inv X pins σ H s) (rx:RelV x u) (ty:TyOf X.K H x t) (e:PySem.W.kitOne X.K t c=some b) (h:∀ tk,Q (.bool b) { s with toks:=tk }) :
    wpAny (model X.prog X.w) A (call (.builtin "isinstance") [u,c]) Q E s:=by
  cases ty with
  | non=>cases (show u=Value.none from rx); exact PySem.W.kia_one PySem.W.kitx_none I.kIn True.intro e (fun z=>nomatch z) h
  | bl y=>cases (show u=Value.bool y from rx); exact PySem.W.kia_one PySem.W.kitx_bool I.kIn True.intro e (fun z=>nomatch z) h
  | int i=>obtain ⟨t,q⟩:=(show ∃ t,u=Value.int i t from rx); cases q; exact PySem.W.kia_one PySem.W.kitx_int I.kIn True.intro e (fun z=>nomatch z) h
  | str y=>obtain ⟨t,q⟩:=(show ∃ t,u=Value.str y t from rx); cases q; exact PySem.W.kia_one PySem.W.kitx_str I.kIn True.intro e (fun z=>nomatch z) h
  | flt y=>obtain ⟨t,q⟩:=(show ∃ t,u=Value.float y t from rx); cases q; exact PySem.W.kia_one PySem.W.kitx_float I.kIn True.intro e (fun z=>nomatch z) h
  | @lst a xs ea =>
    cases (show u=Value.ref a from rx)
    obtain ⟨_,_,n,_,h1⟩:=(show ObjOk X.prog X.w H s.heap a (.lst xs) from I.hok a _ ea)
    exact PySem.W.kia_one PySem.W.kitx_list I.kIn ⟨_,h1,rfl⟩ e (fun z=>nomatch z) h
  | @frz a ob xs ea =>
    cases (show u=Value.ref a from rx)
    obtain ⟨_,_,_,n,_,h1⟩:=(show ObjOk X.prog X.w H s.heap a (.frz ob (.lst xs)) from I.hok a _ ea)
    exact PySem.W.kia_one PySem.W.kitx_list I.kIn ⟨_,h1,rfl⟩ e (fun z=>nomatch z) h
  | @tup a xs ea =>
    cases (show u=Value.ref a from rx)
    obtain ⟨_,_,_,p⟩:=(show ObjOk X.prog X.w H s.heap a (.tup xs) from I.hok a _ ea)
    obtain ⟨o,h1,h2,_⟩:=p
    exact PySem.W.kia_one PySem.W.kitx_tuple I.kIn ⟨o,h1,h2⟩ e (fun z=>nomatch z) h
  | @dK a kvs ea =>
    cases (show u=Value.ref a from rx)
    obtain ⟨_,_,vs,_,p⟩:=(show ObjOk X.prog X.w H s.heap a (.dK kvs) from I.hok a _ ea)
    obtain ⟨o,es,ep,h1,h2,_⟩:=p
    exact PySem.W.kia_one PySem.W.kitx_dict I.kIn ⟨o,h1,h2.1⟩ e (fun z=>nomatch z) h
  | @dT a kvs ea =>
    cases (show u=Value.ref a from rx)
    obtain ⟨_,_,xs,_,o,es,ep,h1,h2,_⟩:=(show ObjOk X.prog X.w H s.heap a (.dT kvs) from I.hok a _ ea)
    exact PySem.W.kia_one PySem.W.kitx_dict I.kIn ⟨o,h1,h2.1⟩ e (fun z=>nomatch z) h
  | @ins a C dx fs ea cl ha hn htk hm =>
    cases (show u=Value.ref a from rx)
    obtain ⟨mA,O,_⟩:=ins_get I.hok ea
    obtain ⟨od,J,_⟩:=O.look
    exact PySem.W.kia_one (PySem.W.kitx_own (cl.get _) cl.hd ha hn htk hm) I.kIn J e (fun z=>nomatch z) h
end
end L2

namespace L2
open PySem PySem.Spec PyProof.Rows

structure Room (k:Nat) (A:Around):Prop where
  hd:A.handled=none
  dp:A.depth+3*k+5<recursionLimit
  un:A.units+16*k+200<cLine
theorem Room.mono {j k:Nat} {A:Around} (r:Room k A) (h:j≤k):Room j A:=⟨r.hd,by have:=r.dp; omega,by have:=r.un; omega⟩
theorem Room.deeper {k:Nat} {A:Around} (r:Room (k+1) A) (env:Env):Room k (A.deeper env) :=
  ⟨r.hd,by have:=r.dp; show A.depth+1+3*k+5<_; omega,by have:=r.un; show A.units+3+16*k+200<_; omega⟩
theorem Room.in1 {k:Nat} {A:Around} (r:Room (k+1) A):Room k A.in1 :=
  ⟨r.hd,by have:=r.dp; show A.depth+3*k+5<_; omega,by have:=r.un; show A.units+1+16*k+200<_; omega⟩
theorem Room.depth {k:Nat} {A:Around} (r:Room k A):A.depth<recursionLimit:=by have:=r.dp; omega
theorem Room.units {k:Nat} {A:Around} (r:Room k A):A.units+64<cLine:=by have:=r.un; omega
noncomputable def tNil:TA:=fun _ H Q=>Q [] H
noncomputable def tCons (ta:TE) (tr:TA):TA:=fun σ H Q=>ta σ H fun x H1=>tr σ H1 fun xs H2=>Q (x :: xs) H2
section
variable {X:Cx} {e:Expr} {es:List Expr} {te:TE} {t:TA} {pos:Pos}
theorem pa_nil:PA X [] tNil:=fun _ _ _ _ H Q I h=>Calls.spliced_nil ⟨[],H,I,.nil,h⟩
theorem pa_cons (ha:PE X e te) (hr:PA X es t) (hs:starEach (e :: es) X.env=(false,eval e X.env) :: starEach es X.env:=by rfl):PA X (e :: es) (tCons te t):=by
  intro pos pins s σ H Q I h
  rw [hs]
  show wpAny _ _ (spliced ((false,eval e X.env) :: backTo pos (starEach es X.env))) _ _ s
  refine Calls.spliced_cons (thn (ha pins s σ H _ I h) fun u s1 zz=>?_)
  obtain ⟨x,H1,I1,r1,q1⟩:=zz
  exact thn (hr pos pins s1 σ H1 _ I1 q1) fun us s2 ⟨xs,H2,I2,r2,q2⟩=>⟨x :: xs,H2,I2,.cons r1 r2,q2⟩

noncomputable def tTup (t:TA):TE:=fun σ H Q=>t σ H fun xs H1=>xs.length≤sizeLine∧∀ p,H1 p=none→Q (.ref p) (upd H1 p (.tup xs))
noncomputable def tLst (t:TA):TE:=fun σ H Q=>t σ H fun xs H1=>xs.length≤sizeLine∧∀ p,H1 p=none→Q (.ref p) (upd H1 p (.lst xs))
theorem pe_tup {x1} (h:PA X es t):PE X (.Tuple es x1 pos) (tTup t):=by
  intro pins s σ H Q I hq
  refine wpAny_Tuple_spliced (thn (h pos pins s σ H _ I hq) fun us s1 ⟨xs,H1,I1,r,z,q⟩=>⟨by rw [← r.length]; exact z,?_⟩)
  have hf:H1 s1.heap.objs.size=none:=I1.hok.fresh (Nat.le_refl _)
  refine ⟨.ref s1.heap.objs.size,upd H1 s1.heap.objs.size (.tup xs),I1.laid (t':=s1.toks) (fun b u e=>Heap.get?_push_of_some _ e) (Nat.le_refl _) ?_,rfl,q _ hf⟩
  exact ⟨z,us,r,⟨_,Heap.get?_push_size _ rfl,rfl,_,rfl⟩⟩
theorem pe_lst (h:PA X es t):PE X (.List es pos) (tLst t):=by
  intro pins s σ H Q I hq
  refine wpAny_List_spliced (thn (h pos pins s σ H _ I hq) fun us s1 ⟨xs,H1,I1,r,z,q⟩=>⟨by rw [← r.length]; exact z,?_⟩)
  have hf:H1 s1.heap.objs.size=none:=I1.hok.fresh (Nat.le_refl _)
  refine ⟨.ref s1.heap.objs.size,upd H1 s1.heap.objs.size (.lst xs),I1.laid (t':=s1.toks) (fun b u e=>Heap.get?_push_of_some _ e) (Nat.le_refl _) ?_,rfl,q _ hf⟩
  exact ⟨z,us,0,r,Heap.get?_push_size _ rfl⟩
end

noncomputable abbrev Sp:=List V→Hp→VK→XK→Prop
noncomputable abbrev CXT:=List Env→Hp→Shared→XK→Value→Shared→Prop

structure Env0 (P:Program) (w:World) (K:PySem.W.Frag) (mg:Str→Option Value) (base:Heap) (A:Around) (outer:List Env) (s:Shared) (H:Hp):Prop where
  frames:A.frames=some outer
  mod:Mod K mg base
  bs:∀ b o,base.get? b=some o→s.heap.get? b=some o∧H b=none
  bsz:base.objs.size≤s.heap.objs.size
  funs:s.heap.FunFrames base outer
  frf:∀ b∈frs outer,H b=none
  hok:HOk P w H s.heap
  bare:AllBare s.gens
noncomputable def CE (outer:List Env) (P:Program) (w:World) (H:Hp) (s:Shared) (Q:VK) (u:Value) (s':Shared):Prop :=
  ∃ v H',s'.os=s.os∧AllBare s'.gens∧Un (frs outer) [] H H' s.heap s'.heap∧HOk P w H' s'.heap∧RelV v u∧Q v H'
noncomputable def CR (CX:CXT) (outer:List Env) (P:Program) (w:World) (H:Hp) (s:Shared) (Q:VK) (E:XK) (r:Result) (s':Shared):Prop :=
  match r with
  | .ok (.ret u)=>CE outer P w H s Q u s'
  | .ok _=>False
  | .error e=>CX outer H s E e s'
structure FnOk (P:Program) (w:World) (K:PySem.W.Frag) (mg:Str→Option Value) (base:Heap) (CX:CXT) (k:Nat) (f:Addr) (fd:FuncData) (ps:List Str) (sp:Sp):Prop where
  len:∀ vs H Q E,sp vs H Q E→vs.length=ps.length
  run:∀ (A:Around) (outer:List Env) (s:Shared) (H:Hp) (args:Args) (us:List Value) (vs:List V) (Q:VK) (E:XK),Room k A→Env0 P w K mg base A outer s H→BindsTo s fd args (ps.zip us)→Vals vs us→sp vs H Q E →
    codeAny (model P w) A (.call (.ref f) args) (CR CX outer P w H s Q E) s
theorem FnOk.mono {P:Program} {w:World} {K:PySem.W.Frag} {mg:Str→Option Value} {base:Heap} {CX:CXT} {j k:Nat} {f:Addr} {fd:FuncData} {ps:List Str} {sp:Sp} (F:FnOk P w K mg base CX j f fd ps sp) (h:j≤k) :
    FnOk P w K mg base CX k f fd ps sp:=⟨F.len,fun A outer s H args us vs Q E hr=>F.run A outer s H args us vs Q E (hr.mono h)⟩
theorem FnOk.imp {P:Program} {w:World} {K:PySem.W.Frag} {mg:Str→Option Value} {base:Heap} {CX:CXT} {k:Nat} {f:Addr} {fd:FuncData} {ps:List Str} {sp sp':Sp} (F:FnOk P w K mg base CX k f fd ps sp)
    (h:∀ vs H Q E,sp' vs H Q E→sp vs H Q E):FnOk P w K mg base CX k f fd ps sp' :=
  ⟨fun vs H Q E q=>F.len vs H Q E (h _ _ _ _ q),fun A outer s H args us vs Q E hr he hb hv hs=>F.run A outer s H args us vs Q E hr he hb hv (h _ _ _ _ hs)⟩

theorem Env0.in1 {P:Program} {w:World} {K:PySem.W.Frag} {mg:Str→Option Value} {base:Heap} {A:Around} {outer:List Env} {s:Shared} {H:Hp} (e:Env0 P w K mg base A outer s H) :
    Env0 P w K mg base A.in1 outer s H:=⟨e.frames,e.mod,e.bs,e.bsz,e.funs,e.frf,e.hok,e.bare⟩

section
variable {X:Cx} {pins:List (Addr × Obj)} {σ:St} {H:Hp} {s s':Shared}
theorem Inv.env0 (I:Inv X pins σ H s):Env0 X.prog X.w X.K X.mg X.base X.A X.stack s H :=
  ⟨I.ok.frames,I.ok.mod,I.bs,Nat.le_trans I.ok.bsz I.sz,I.stack,I.stkFree,I.hok,I.bare⟩
theorem Inv.after {Q:VK} {u:Value} (I:Inv X pins σ H s) (h:CE X.stack X.prog X.w H s Q u s'):EP X pins σ Q u s':=by
  obtain ⟨v,H',os,bare,un,hok,r,q⟩:=h
  obtain ⟨hh,g,d,t,os'⟩:=s'
  obtain rfl:os'=s.os:=os
  exact ⟨v,H',I.call (h':=hh) (g':=g) (d':=d) (t':=t) (ch:=[]) un hok bare (fun b z=>absurd z (by simp)),r,q⟩
end

noncomputable def tCall (sp:Sp) (dvs:List V) (E:XK) (t:TA):TE:=fun σ H Q=>t σ H fun vs H1=>sp (vs++dvs) H1 Q E
noncomputable def Binds (K:PySem.W.Frag) (fd:FuncData) (ps:List Str) (ds:List Value):Prop :=
  ∀ (s:Shared) (us:List Value),K.In s.heap→(us++ds).length=ps.length→BindsTo s fd ⟨us,[]⟩ (ps.zip (us++ds))
theorem Binds.all {K:PySem.W.Frag} {fd:FuncData} {ps:List Str} (h:∀ us:List Value,us.length=ps.length→bindArgs fd ⟨us,[]⟩=pure (ps.zip us)):Binds K fd ps []:=fun s us _ hl=>by
  rw [List.append_nil] at hl ⊢
  exact .of_eq (h us hl)

noncomputable def Passes (CX:CXT) (X:Cx) (E:XK):Prop:=∀ (pins:List (Addr × Obj)) (σ:St) (H:Hp) (s:Shared) (e:Value) (s':Shared),Inv X pins σ H s→CX X.stack H s E e s'→X.xe e s'

section
variable {X:Cx} {CX:CXT} {k:Nat} {f C:Addr} {fd:FuncData} {ps:List Str} {sp:Sp} {dvs:List V} {ds:List Value} {E:XK} {x m:Str} {p pos apos:Pos} {e o:Expr} {es:List Expr} {ta:TE} {t:TA}

theorem run_fn {pins:List (Addr × Obj)} {σ:St} {H:Hp} {s:Shared} {Q:VK} {us:List Value} {vs:List V} (F:FnOk X.prog X.w X.K X.mg X.base CX k f fd ps sp) (hr:Room k X.A) (hb:Binds X.K fd ps ds) (hd:Vals dvs ds) (hx:Passes CX X E)
    (I:Inv X pins σ H s) (r:Vals vs us) (h:sp (vs++dvs) H Q E):wpAny (model X.prog X.w) X.A (call (.ref f) us) (EP X pins σ Q) X.xe s:=by
  have r2:Vals (vs++dvs) (us++ds):=r.append hd
  have hl:(us++ds).length=ps.length:=by rw [← r2.length]; exact F.len _ _ _ _ h
  refine wpAny_call (codeAny_mono (F.run X.A X.stack s H ⟨us,[]⟩ (us++ds) (vs++dvs) Q E hr I.env0 (hb s us I.kIn hl) r2 h) fun r s' hq=>?_)
  cases r with
  | error e=>exact hx pins σ H s e s' I hq
  | ok fl =>
    cases fl with
    | ret u=>exact I.after hq
    | next=>exact False.elim hq
    | brk=>exact False.elim hq
    | cont=>exact False.elim hq

theorem pe_call (F:FnOk X.prog X.w X.K X.mg X.base CX k f fd ps sp) (hr:Room k X.A) (hg:Gl X x) (hm:X.mg x=some (.ref f)) (hk:PySem.W.keepIn X.K (.ref f)=true) (hb:Binds X.K fd ps ds) (hd:Vals dvs ds) (hx:Passes CX X E)
    (ha:PA X (e :: es) t) (hdb:(x == ("__debug__" : Str))=false:=by decide) (he:starEach (e :: es) X.env=(false,eval e X.env) :: starEach es X.env:=by rfl) (hpl:(backTo pos (starEach es X.env)).any (·.1)=false:=by rfl) :
    PE X (.Call (.Name x p) (e :: es) [] pos) (tCall sp dvs E t):=by
  intro pins s σ H Q I h
  refine wpAny_Call_Name_kw (ld_glob I hg hm ?_ hdb)
  refine PySem.W.callWith_K (h₀:=X.base) I.ok.mod.kin hk (thn (ha pos pins s σ H _ I h) fun us s1 ⟨vs,H1,I1,r,q⟩=>⟨I1.kIn,?_⟩) he hpl
  exact run_fn F hr hb hd hx I1 r q
end

section
variable {X:Cx} {CX:CXT} {k:Nat} {f C:Addr} {fd:FuncData} {ps ks:List Str} {sp:Sp} {E:XK} {x m:Str} {p pos apos kpos:Pos} {e o:Expr} {es:List Expr} {kws:List Keyword} {te ta:TE} {t tk:TA} {nm:Option Str}
variable {g:List Value→List Value→List Value} {gV:List V→List V→List V}
end

structure FnScope (N P:List Str) (sc:Scope):Prop where
  kind:sc.kind = .function
  co:sc.isCoroutine=false
  gen:sc.isGenerator=false
  nd:N.Nodup
  pre:N.take P.length=P
  par:∀ x∈P,sc.names.lookup x=some .local∨sc.names.lookup x=some .cell
  nofree:∀ y∈sc.names,y.2 ≠ .free

theorem bindL_out {kindOf:Str→Option NameKind} {x:Str}:∀ {binds:List (Str × Value)} {m:Str→Option Value},(∀ v,(x,v)∉binds)→bindL kindOf binds m x=m x
  | [],_,_=>rfl
  | (n,v) :: r,m,h=>by
    unfold bindL
    rw [bindL_out fun w hw=>h w (List.mem_cons_of_mem _ hw)]
    split
    · have:x≠n:=by rintro rfl; exact h v List.mem_cons_self
      simp [this]
    · rfl
theorem bindC_out {kindOf:Str→Option NameKind} {x:Str}:∀ {binds:List (Str × Value)} {m:Str→Option Value},(∀ v,(x,v)∉binds)→bindC kindOf binds m x=m x
  | [],_,_=>rfl
  | (n,v) :: r,m,h=>by
    unfold bindC
    rw [bindC_out fun w hw=>h w (List.mem_cons_of_mem _ hw)]
    split
    · rfl
    · have:x≠n:=by rintro rfl; exact h v List.mem_cons_self
      simp [this]
theorem bindL_get {kindOf:Str→Option NameKind} {x:Str} {v:Value}:∀ {P:List Str} {vs:List Value} {i:Nat} {m:Str→Option Value},P.Nodup→P[i]? = some x→vs[i]? = some v→kindOf x=some .local →
    bindL kindOf (P.zip vs) m x=some v
  | [],_,_,_,_,h,_,_=>by simp at h
  | _ :: _,[],_,_,_,_,h,_=>by simp at h
  | p :: P,w :: vs,0,m,nd,h1,h2,hk=>by
    simp at h1 h2; subst h1; subst h2
    show bindL kindOf ((p,w) :: P.zip vs) m p=_
    unfold bindL
    rw [bindL_out fun v hv=>(List.nodup_cons.mp nd).1 (List.of_mem_zip hv).1,if_pos hk]
    simp
  | p :: P,w :: vs,i+1,m,nd,h1,h2,hk=>by
    show bindL kindOf ((p,w) :: P.zip vs) m x=_
    unfold bindL
    exact bindL_get (i:=i) (List.nodup_cons.mp nd).2 (by simpa using h1) (by simpa using h2) hk
theorem bindC_get {kindOf:Str→Option NameKind} {x:Str} {v:Value}:∀ {P:List Str} {vs:List Value} {i:Nat} {m:Str→Option Value},P.Nodup→P[i]? = some x→vs[i]? = some v→kindOf x≠some .local →
    bindC kindOf (P.zip vs) m x=some v
  | [],_,_,_,_,h,_,_=>by simp at h
  | _ :: _,[],_,_,_,_,h,_=>by simp at h
  | p :: P,w :: vs,0,m,nd,h1,h2,hk=>by
    simp at h1 h2; subst h1; subst h2
    show bindC kindOf ((p,w) :: P.zip vs) m p=_
    unfold bindC
    rw [bindC_out fun v hv=>(List.nodup_cons.mp nd).1 (List.of_mem_zip hv).1,if_neg hk]
    simp
  | p :: P,w :: vs,i+1,m,nd,h1,h2,hk=>by
    show bindC kindOf ((p,w) :: P.zip vs) m x=_
    unfold bindC
    exact bindC_get (i:=i) (List.nodup_cons.mp nd).2 (by simpa using h1) (by simpa using h2) hk

noncomputable def start (N:List Str) (vs:List V):St:=vs.map some++List.replicate (N.length - vs.length) none

noncomputable def cxOf (CX:CXT) (P:Program) (w:World) (K:PySem.W.Frag) (mg:Str→Option Value) (base:Heap) (N:List Str) (qual:Str) (scope:Scope) (f:Addr) (cd:Value) (A:Around) (outer:List Env) (s:Shared) (H:Hp) (E:XK):Cx where
  prog:=P
  w:=w
  K:=K
  mg:=mg
  base:=base
  A:=A.deeper (envOfC qual scope s.heap.objs.size f cd)
  N:=N
  s₀:=s
  H₀:=H
  env:=envOfC qual scope s.heap.objs.size f cd
  outer:=outer
  stack:=envOfC qual scope s.heap.objs.size f cd :: outer
  ex:=[]
  calm:=true
  fn:=fun _=>true
  pn:=[]
  xe:=fun e s'=>wpAny (model P w) (A.deeper (envOfC qual scope s.heap.objs.size f cd)) (leaving (envOfC qual scope s.heap.objs.size f cd) e) (fun _ s''=>CX outer H s E e s'') (fun e' s''=>CX outer H s E e' s'') s'

theorem cell_has {sc:Scope} {n:Nat} {x:Str} (h:sc.names.lookup x=some .cell):∃ c,(cellsFrom n sc.names []).lookup x=some c:=by
  have q:=PySem.W.cellsFrom_some sc.names n [] (.inl h)
  exact Option.isSome_iff_exists.mp q

theorem inv_start {CX:CXT} {P:Program} {w:World} {K:PySem.W.Frag} {mg:Str→Option Value} {base:Heap} {N ps:List Str} {qual:Str} {scope:Scope} {f:Addr} {cd:Value} {A:Around} {outer:List Env} {s s1:Shared} {H:Hp} {E:XK} {us:List Value} {vs:List V}
    (S:FnScope N ps scope) (hd:A.handled=none) (e0:Env0 P w K mg base A outer s H) (hl:vs.length=ps.length) (r:Vals vs us)
    (x:InCallC s s.heap.objs.size (bindL (envOfC qual scope s.heap.objs.size f cd).kindOf (ps.zip us) fun _=>none) (cellsFrom (s.heap.objs.size+1) scope.names []) (bindC (envOfC qual scope s.heap.objs.size f cd).kindOf (ps.zip us) fun _=>none) s1) :
    Inv (cxOf CX P w K mg base N qual scope f cd A outer s H E) [] (start N vs) H s1:=by
  have hpl:ps.length≤N.length:=by have:=congrArg List.length S.pre; rw [List.length_take] at this; omega
  obtain ⟨h1,tk,rfl,hk⟩:=x.done
  have noA:∀ b:Addr,b∉(cxOf CX P w K mg base N qual scope f cd A outer s H E).ex:=fun b z=>absurd (show b∈([]:List Addr) from z) (by simp)
  refine ⟨⟨e0.mod,S.kind,rfl,rfl,Nat.le_refl _,fun y z c h1 h2=>?_,fun y hy=>?_,fun y c _ h=>?_,fun _=>hd,Around.frames_deeper e0.frames,.inr ⟨rfl,rfl⟩,fun b z=>absurd z (noA b),e0.bs,e0.bsz,fun b _ _=>noA b,fun b z=>absurd z (noA b),e0.funs,e0.frf⟩,
    rfl,e0.bare,Un.kept hk,⟨_,x.toInCall.ns,fun i y v h1 h2 h3=>?_⟩,fun y c h=>⟨_,x.cell y c h⟩,e0.hok.fresh (Nat.le_refl _),fun y c h=>?_,fun p hp=>absurd (show p∈([]:List (Addr × Obj)) from hp) (by simp),e0.hok.kept hk,?_⟩
  · exact name_of_addr x.apart (PySem.mem_of_lookup h1) (PySem.mem_of_lookup h2)
  · have hy:scope.names.lookup y=some .cell∨scope.names.lookup y=some .free:=hy
    rcases hy with hy | hy
    · exact cell_has hy
    · exact absurd rfl (S.nofree _ (PySem.mem_of_lookup hy))
  · exact Nat.le_of_lt (x.above y c (PySem.mem_of_lookup h))
  · have hi:i<vs.length:=by
      unfold start at h2
      by_cases hi:i<vs.length
      · exact hi
      · rw [List.getElem?_append_right (by simpa using hi)] at h2
        rw [List.getElem?_replicate] at h2
        split at h2 <;> cases h2
    have ha:vs[i]? = some v:=by
      unfold start at h2
      rw [List.getElem?_append_left (by simpa using hi),List.getElem?_map] at h2
      cases e:vs[i]? with
      | none=>rw [e] at h2; cases h2
      | some a=>rw [e] at h2; cases h2; rfl
    obtain ⟨u,hu,rv⟩:=r.get ha
    have hp:ps[i]? = some y:=by
      rw [← S.pre,List.getElem?_take_of_lt (by omega)]; exact h1
    have ndP:ps.Nodup:=by rw [← S.pre]; exact S.nd.sublist (List.take_sublist _ _)
    refine ⟨u,rv,?_⟩
    rcases S.par y (List.mem_of_getElem? hp) with k | k
    · exact .inl ⟨k,bindL_get ndP hp hu k⟩
    · obtain ⟨c,e⟩:=cell_has (n:=s.heap.objs.size+1) k
      refine .inr ⟨.inl k,c,e,?_⟩
      have q:=x.cell y c e
      rw [bindC_get ndP hp hu (by show scope.names.lookup y≠_; rw [k]; decide)] at q
      exact q
  · exact e0.hok.fresh (Nat.le_of_lt (x.above y c (PySem.mem_of_lookup h)))
  · unfold start
    show _=N.length
    rw [List.length_append,List.length_map,List.length_replicate]
    omega

theorem fn_of {CX:CXT} {P:Program} {w:World} {K:PySem.W.Frag} {mg:Str→Option Value} {base:Heap} {k:Nat} {f:Addr} {name qual:Str} {params:Arguments} {body:List Stmt} {scope:Scope} {dV kV doc pm cdv ct oc:Value} {an od:Option Addr}
    {osl:Array (Option Value)} {N ps:List Str} {sp:Sp} (lk:K.lookup f=some ⟨oc,od,.func (PySem.W.fnOf name qual params body scope dV kV doc pm an cdv ct),osl⟩) (hcd:PySem.W.codeIn K cdv qual=true) (S:FnScope N ps scope)
    (len:∀ vs H Q E,sp vs H Q E→vs.length=ps.length)
    (hbody:∀ (A:Around) (outer:List Env) (s:Shared) (H:Hp) (vs:List V) (Q:VK) (E:XK),Room k (A.deeper (envOfC qual scope s.heap.objs.size f cdv))→sp vs H Q E →
      ∃ t,PSs (cxOf CX P w K mg base N qual scope f cdv A outer s H E) body t∧t { nx:=fun _ H'=>Q .non H',rt:=Q } (start N vs) H) :
    FnOk P w K mg base CX (k+1) f (PySem.W.fnOf name qual params body scope dV kV doc pm an cdv ct) ps sp:=by
  refine ⟨len,fun A outer s H args us vs Q E hr e0 hb r hsp=>?_⟩
  have hl:=len _ _ _ _ hsp
  have KX:K.In s.heap:=e0.mod.kin.keeps fun b o e=>(e0.bs b o e).1
  have lim:s.heap.NoLimit:=e0.mod.nolimit.keeps fun b o e=>(e0.bs b o e).1
  have hkind:∀ y∈ps.zip us,scope.names.lookup y.1=some .local∨(scope.names.lookup y.1=some .cell∧((cellsFrom (s.heap.objs.size+1) scope.names []).lookup y.1).isSome=true):=fun ⟨n,v⟩ hy=>by
    rcases S.par n (List.of_mem_zip hy).1 with q | q
    · exact .inl q
    · exact .inr ⟨q,PySem.W.cellsFrom_some _ _ _ (.inl q)⟩
  refine codeAny_call_function hr.depth (KX _ _ lk) rfl S.co S.gen rfl (PySem.W.codeRec_of KX hcd) (hb _ _ _ _ ?_)
  refine wpAny_newFunctionEnv_cells S.kind hkind fun env he s1 x=>?_
  subst he
  refine ⟨lim.keeps x.toInCall.keep,codeAny_func ?_⟩
  obtain ⟨t,ht,hq⟩:=hbody A outer s H vs Q E (hr.deeper _) hsp
  have I:Inv (cxOf CX P w K mg base N qual scope f cdv A outer s H E) [] (start N vs) H s1:=inv_start S hr.hd e0 hl r x
  refine wpAny_mono (ht [] s1 (start N vs) H _ I hq) (fun fl s' hs=>?_) fun e s' hs=>hs
  have fin:∀ {σ':St} {H':Hp} {v:V} {u:Value},Inv (cxOf CX P w K mg base N qual scope f cdv A outer s H E) [] σ' H' s'→RelV v u→Q v H'→CE outer P w H s Q u s' :=
    fun {σ' H' v u} J rv q=>⟨v,H',J.os,J.bare,J.base,J.hok,rv,q⟩
  cases fl with
  | ret u =>
    obtain ⟨v,σ',H',J,rv,q⟩:=hs
    exact fin J rv q
  | next =>
    obtain ⟨σ',H',J,q⟩:=hs
    exact fin (v:=V.non) (u:=Value.none) J rfl q
  | brk =>
    obtain ⟨_,_,_,q⟩:=hs
    exact False.elim q
  | cont =>
    obtain ⟨_,_,_,q⟩:=hs
    exact False.elim q
end L2

namespace L2
open PySem PySem.Spec PyProof.Rows
section
variable {X:Cx} {x:Str} {p pos:Pos} {e:Expr} {es:List Expr} {t:TA} {id T:String} {r:List V→Hp→VK→Prop}

noncomputable def tCB (r:List V→Hp→VK→Prop) (t:TA):TE:=fun σ H Q=>t σ H fun vs H1=>r vs H1 Q
theorem pe_callB (hc:CallR X (.builtin id) r) (hg:Gl X x) (hm:X.mg x=none) (hv:bootBuiltins x=some (.builtin id)) (ha:PA X (e :: es) t) (hn:x ≠ "__name__" := by decide) (hdb:(x == ("__debug__" : Str))=false:=by decide)
    (he:starEach (e :: es) X.env=(false,eval e X.env) :: starEach es X.env:=by rfl) (hpl:(backTo pos (starEach es X.env)).any (·.1)=false:=by rfl):PE X (.Call (.Name x p) (e :: es) [] pos) (tCB r t):=by
  intro pins s σ H Q I h
  refine wpAny_Call_Name_kw (ld_blt I hg hm hv ?_ hn hdb)
  exact PyProof.Rows.callWith_builtin1 (thn (ha pos pins s σ H _ I h) fun us s1 ⟨vs,H1,I1,r1,q1⟩=>hc pins s1 σ H1 vs us Q I1 r1 q1) he hpl
theorem pe_callTy (hc:CallR X (.type T) r) (hg:Gl X x) (hm:X.mg x=none) (hv:bootBuiltins x=some (.type T)) (ha:PA X (e :: es) t) (hn:x ≠ "__name__" := by decide) (hdb:(x == ("__debug__" : Str))=false:=by decide)
    (he:starEach (e :: es) X.env=(false,eval e X.env) :: starEach es X.env:=by rfl) (hpl:(backTo pos (starEach es X.env)).any (·.1)=false:=by rfl):PE X (.Call (.Name x p) (e :: es) [] pos) (tCB r t):=by
  intro pins s σ H Q I h
  refine wpAny_Call_Name_kw (ld_blt I hg hm hv ?_ hn hdb)
  exact PyProof.Rows.callWith_type1 (thn (ha pos pins s σ H _ I h) fun us s1 ⟨vs,H1,I1,r1,q1⟩=>hc pins s1 σ H1 vs us Q I1 r1 q1) he hpl
end
end L2

namespace HT
open PySem PyProof.Rows

section
open PySem.SeqAt
open PySem.AutoSeq1 (wpAny_loadPart')
open PySem.MeetsSeq PySem.MeetsSeq2 PySem.MeetsSeq3

end

section
variable {prog:Program} {w:World} {A:Around} {E:Value→Shared→Prop} {s:Shared}

noncomputable def sIx (n d:Nat):Option Int→Nat
  | none=>d
  | some v=>if v<0 then (v+(n:Int)).toNat else min v.toNat n
theorem sIx_none (n d:Nat):sIx n d none=d:=rfl
theorem sIx_nat (n d k:Nat):sIx n d (some (k:Int))=min k n:=by
  show (if (k:Int)<0 then ((k:Int)+(n:Int)).toNat else min (k:Int).toNat n)=min k n
  rw [if_neg (by omega),Int.toNat_natCast]
theorem sIx_le (n d:Nat) (hd:d≤n) (o:Option Int):sIx n d o≤n:=by
  cases o with
  | none=>exact hd
  | some v =>
    show (if v<0 then (v+(n:Int)).toNat else min v.toNat n)≤n
    by_cases hv:v<0
    · rw [if_pos hv]; omega
    · rw [if_neg hv]; exact Nat.min_le_right _ _
theorem clip_eq (v:Int) (n d:Nat):(if v<0 then max (v+(n:Int)) 0 else min v (n:Int))=((sIx n d (some v):Nat):Int):=by
  show (if v<0 then max (v+(n:Int)) 0 else min v (n:Int))=(((if v<0 then (v+(n:Int)).toNat else min v.toNat n):Nat):Int)
  by_cases hv:v<0
  · simp only [if_pos hv]; omega
  · simp only [if_neg hv]; omega
theorem adjust_gen (lo hi:Option Int) (n:Nat):Builtin.Slice.sliceAdjust lo hi 1 (n:Int)=(((sIx n 0 lo:Nat):Int),((sIx n n hi:Nat):Int)):=by
  have h1:¬ ((1:Int)<0):=by omega
  unfold Builtin.Slice.sliceAdjust
  simp only [h1,if_false]
  refine Prod.ext ?_ ?_
  · cases lo with
    | none=>rfl
    | some v=>exact clip_eq v n 0
  · cases hi with
    | none=>rfl
    | some v=>exact clip_eq v n n
theorem places_gen (i j:Nat):Builtin.Slice.slicePlaces (i:Int) (j:Int) 1=j - i:=by
  unfold Builtin.Slice.slicePlaces
  have h1:(1:Int) > 0:=by omega
  simp only [h1,if_true,Int.ediv_one]
  split <;> omega
theorem slicePart_ {v:Value} {o:Option Int} {Q:Option Int→Shared→Prop} (p:IsPart v o) (h:Q o s):wpAny (model prog w) A (Builtin.Slice.slicePartIndex v) Q E s:=by
  cases p with
  | none=>exact slicePart_none h
  | int i t=>exact slicePart_int h
theorem sliceApplied_gen {sl:Addr} {vl vu:Value} {lo hi:Option Int} {n:Nat} {Q:Int × Int × Nat→Shared→Prop} (hs:s.heap.IsSliceOf sl vl vu .none) (pl:IsPart vl lo) (pu:IsPart vu hi)
    (h:Q (((sIx n 0 lo:Nat):Int),1,sIx n n hi - sIx n 0 lo) s):wpAny (model prog w) A (Builtin.Slice.sliceApplied (.ref sl) (pure (n:Int))) Q E s:=by
  obtain ⟨os,hos,hcs,hds⟩:=id hs
  unfold Builtin.Slice.sliceApplied Builtin.Slice.sliceFields
  refine wpAny_bind (wpAny_bind (wpAny_field hos hds (x:=vl) rfl (wpAny_bind (wpAny_field hos hds (x:=vu) rfl (wpAny_bind (wpAny_field hos hds (x:=.none) rfl (wpAny_pure ?_)))))))
  refine wpAny_bind (slicePart_none ?_)
  show wpAny _ _ (if ((1:Int) == 0)=true then _ else _) _ _ s
  rw [if_neg (by decide)]
  refine wpAny_bind (slicePart_ pl (wpAny_bind (slicePart_ pu (wpAny_bind (wpAny_pure ?_)))))
  show wpAny _ _ (match Builtin.Slice.sliceAdjust lo hi 1 (n:Int) with | (lo,hi)=>pure (lo,(1:Int),Builtin.Slice.slicePlaces lo hi 1)) _ _ s
  rw [adjust_gen lo hi n]
  show wpAny _ _ (pure (((sIx n 0 lo:Nat):Int),(1:Int),Builtin.Slice.slicePlaces ((sIx n 0 lo:Nat):Int) ((sIx n n hi:Nat):Int) 1)) _ _ s
  rw [places_gen]
  exact wpAny_pure h
theorem pick_gen (xs:Array Value) (i k:Nat):((List.range k).filterMap fun (m:Nat)=>xs[((i:Int)+(m:Int)*1).toNat]?).toArray=((xs.toList.drop i).take k).toArray:=by
  have e:(fun (m:Nat)=>xs[((i:Int)+(m:Int)*1).toNat]?)=fun m=>xs[i+m]?:=by
    funext m
    have:((i:Int)+(m:Int)*1).toNat=i+m:=by omega
    rw [this]
  rw [e]
  have:=pick_run xs i k
  rw [List.filterMap_map] at this
  have e2:((fun x=>xs[x]?) ∘ fun x=>i+x)=fun m=>xs[i+m]?:=rfl
  rw [e2] at this
  rw [this]

theorem getItem_tuple_cut {t sl:Addr} {items:Array Value} {vl vu:Value} {lo hi:Option Int} {Q:Value→Shared→Prop} (ht:IsTup s.heap t items) (hs:s.heap.IsSliceOf sl vl vu .none) (pl:IsPart vl lo) (pu:IsPart vu hi)
    (hw:¬ (sIx items.size 0 lo=0∧sIx items.size items.size hi=items.size))
    (h:Q (.ref s.heap.objs.size) { s with heap:=s.heap.push { cls:=.type "tuple",data:=.seq ((items.toList.drop (sIx items.size 0 lo)).take (sIx items.size items.size hi - sIx items.size 0 lo)).toArray } })
    (hsz:items.size≤sizeLine):wpAny (model prog w) A (getItem (.ref t) (.ref sl)) Q E s:=by
  have htake:sizeOk (.seq ((items.toList.drop (sIx items.size 0 lo)).take (sIx items.size items.size hi - sIx items.size 0 lo)).toArray):=by
    show ((items.toList.drop (sIx items.size 0 lo)).take (sIx items.size items.size hi - sIx items.size 0 lo)).toArray.size≤sizeLine
    rw [List.size_toArray,List.length_take,List.length_drop,Array.length_toList]
    omega
  have hj:sIx items.size items.size hi≤items.size:=sIx_le _ _ (Nat.le_refl _) hi
  obtain ⟨os,hos,hcs,hds⟩:=id hs
  have hTs:s.TypeIs (.ref sl) "slice" := ⟨os,hos,hcs⟩
  unfold getItem
  try with_reducible refine wpAny_holding ?_
  first | refine wpAny_bind (wpAny_pure ?_) | skip
  refine wpAny_bind (wpAny_sequenceKey ht.typeIs (by decide) ?_)
  refine wpAny_bind (wpAny_callSpecial?_slot (name:=Str.ofString "__getitem__") ht.typeIs PyProof.Rows.slot_tuple_getitem
    (wpAny_call_entry PyProof.Rows.slot_tuple_getitem ht.typeIs entry_tuple_getitem ?_ (args_tuple_getitem _ _)))
  show wpAny _ _ (Builtin.Tuple.tupleItemsOf (.ref t) >>= _) _ _ s
  refine wpAny_bind (tupleItemsOf_ ht ?_)
  refine wpAny_bind (wpAny_typeOf hTs ?_)
  rw [if_pos (by decide)]
  refine wpAny_bind (sliceApplied_gen hs pl pu ?_)
  have hno:¬ ((((sIx items.size 0 lo:Nat):Int) == 0 && (1:Int) == 1 && (sIx items.size items.size hi - sIx items.size 0 lo) == items.size)=true):=by
    intro q
    rw [Bool.and_eq_true,Bool.and_eq_true] at q
    have q1:((sIx items.size 0 lo:Nat):Int)=0:=eq_of_beq q.1.1
    have q2:sIx items.size items.size hi - sIx items.size 0 lo=items.size:=eq_of_beq q.2
    exact hw ⟨by omega,by omega⟩
  show wpAny _ _ (if (((sIx items.size 0 lo:Nat):Int) == 0 && (1:Int) == 1 && (sIx items.size items.size hi - sIx items.size 0 lo) == items.size)=true then _ else _) _ _ s
  rw [if_neg hno,pick_gen]
  first
    | exact wpAny_bind (m:=Builtin.Tuple.tupleExact _) (wpAny_newObj_type (wpAny_pure ⟨_,rfl,wpAny_pure h⟩) htake)
    | exact wpAny_bind (m:=Builtin.Tuple.tupleExact _) (wpAny_newObj_type (wpAny_bind (wpAny_pure (wpAny_pure ⟨_,rfl,wpAny_pure h⟩))) htake)
    | exact wpAny_bind (wpAny_bind (m:=Builtin.Tuple.tupleExact _) (wpAny_newObj_type (wpAny_pure (wpAny_pure ⟨_,rfl,wpAny_pure h⟩)) htake))
    | exact wpAny_bind (wpAny_bind (m:=Builtin.Tuple.tupleExact _) (wpAny_newObj_type (wpAny_pure ⟨_,rfl,wpAny_pure h⟩) htake))
end
end HT

namespace L2
open PySem PySem.Spec PyProof.Rows

noncomputable abbrev TO:=St→Hp→(Option Int→Hp→Prop)→Prop
noncomputable def PO (X:Cx) (e:Option Expr) (t:TO):Prop :=
  ∀ (pins:List (Addr × Obj)) (s:Shared) (σ:St) (H:Hp) (Q:Option Int→Hp→Prop),Inv X pins σ H s→t σ H Q →
    wpAny (model X.prog X.w) X.A (evalPart e X.env) (fun u s'=>∃ o H',Inv X pins σ H' s'∧IsPart u o∧Q o H') X.xe s
noncomputable def tNoPart:TO:=fun _ H Q=>Q none H
noncomputable def tPart (t:TE):TO:=fun σ H Q=>t σ H fun x H1=>∃ i,x = .int i∧Q (some i) H1

section
variable {X:Cx} {e:Expr} {te:TE} {lo hi:Option Expr} {tl th:TO} {pos p2:Pos}

theorem po_none:PO X none tNoPart:=by
  intro pins s σ H Q I h
  rw [evalPart_none]
  exact wpAny_pure ⟨none,H,I,.none,h⟩
theorem po_some (h:PE X e te):PO X (some e) (tPart te):=by
  intro pins s σ H Q I hw
  rw [evalPart_some]
  refine thn (h pins s σ H _ I hw) fun u s1 zz=>?_
  obtain ⟨x,H1,I1,r1,q1⟩:=zz
  obtain ⟨i,rfl,q⟩:=q1
  obtain ⟨t,rfl⟩:=r1
  exact ⟨some i,H1,I1,.int i t,q⟩

noncomputable def SlR (X:Cx) (r:V→Option Int→Option Int→Hp→VK→Prop):Prop :=
  ∀ (pins:List (Addr × Obj)) (s:Shared) (σ:St) (H:Hp) (x:V) (v vl vu:Value) (lo hi:Option Int) (sl:Addr) (Q:VK),Inv X pins σ H s→RelV x v→s.heap.IsSliceOf sl vl vu .none→IsPart vl lo→IsPart vu hi→r x lo hi H Q →
    ∃ T id,typeLookup (.type T) "__getitem__" = pure (some (.builtin id))∧s.TypeIs v T∧wpAny (model X.prog X.w) X.A (getItem v (.ref sl)) (EP X pins σ Q) X.xe s
theorem SlR.or {r r':V→Option Int→Option Int→Hp→VK→Prop} (h:SlR X r) (h':SlR X r'):SlR X (fun x lo hi H Q=>r x lo hi H Q∨r' x lo hi H Q):=by
  intro pins s σ H x v vl vu lo hi sl Q I rx hs pl pu q
  rcases q with q | q
  · exact h pins s σ H x v vl vu lo hi sl Q I rx hs pl pu q
  · exact h' pins s σ H x v vl vu lo hi sl Q I rx hs pl pu q
noncomputable def tSl (r:V→Option Int→Option Int→Hp→VK→Prop) (te:TE) (tl th:TO):TE:=fun σ H Q=>te σ H fun x H1=>tl σ H1 fun l H2=>th σ H2 fun u H3=>r x l u H3 Q
theorem pe_slice {r:V→Option Int→Option Int→Hp→VK→Prop} (hr:SlR X r) (he:PE X e te) (hl:PO X lo tl) (hu:PO X hi th):PE X (.Subscript e (.Slice lo hi none p2) pos) (tSl r te tl th):=by
  intro pins s σ H Q I h
  refine Subscript_ (thn (he pins s σ H _ I h) fun v s1 zz=>?_)
  obtain ⟨x,H1,I1,r1,q1⟩:=zz
  refine wpAny_Slice (thn (hl pins s1 σ H1 _ I1 q1) fun vl s2 ⟨l,H2,I2,pl,q2⟩=>thn (hu pins s2 σ H2 _ I2 q2) fun vu s3 zz=>?_)
  obtain ⟨u,H3,I3,pu,q3⟩:=zz
  rw [evalPart_none]
  refine wpAny_pure ?_
  have I4:Inv X pins σ H3 { s3 with heap:=s3.heap.push { cls:=.type "slice",data:=.fields #[vl,vu,.none] } }:=I3.kept (t':=s3.toks) fun b ob q=>Heap.get?_push_of_some _ q
  obtain ⟨T,id,hT,ht,hg⟩:=hr pins { s3 with heap:=s3.heap.push { cls:=.type "slice",data:=.fields #[vl,vu,.none] } } σ H3 x v vl vu l u s3.heap.objs.size Q I4 r1 (Heap.IsSliceOf.new ..) pl pu q3
  show wpAny (model X.prog X.w) X.A (subscriptTail e (.Slice lo hi none p2) v (.ref s3.heap.objs.size)) (EP X pins σ Q) X.xe { s3 with heap:=s3.heap.push { cls:=.type "slice",data:=.fields #[vl,vu,.none] } }
  exact tail_any (ops:=[.ref s3.heap.objs.size,v]) ht hT hg (by with_unfolding_all rfl)

noncomputable def cutV (xs:List V) (lo hi:Option Int):List V:=(xs.drop (HT.sIx xs.length 0 lo)).take (HT.sIx xs.length xs.length hi - HT.sIx xs.length 0 lo)
theorem cutV_length (xs:List V) (lo hi:Option Int):(cutV xs lo hi).length≤xs.length:=by
  unfold cutV
  rw [List.length_take,List.length_drop]
  omega
noncomputable def rSlT (K:PySem.W.Frag):V→Option Int→Option Int→Hp→VK→Prop:=fun x lo hi H Q=>∃ a xs,x = .ref a∧SqT K H a xs ∧
  ¬ (HT.sIx xs.length 0 lo=0∧HT.sIx xs.length xs.length hi=xs.length)∧∀ p,H p=none→Q (.ref p) (upd H p (.tup (cutV xs lo hi)))
theorem sl_tup:SlR X (rSlT X.K):=by
  intro pins s σ H x v vl vu lo hi sl Q I rx hs pl pu h
  obtain ⟨a,xs,rfl,hx,hw,q⟩:=h
  cases rx
  obtain ⟨its,r,ht,hz⟩:=I.tuple hx
  have hlen:its.toArray.size=xs.length:=by rw [List.size_toArray]; exact r.length.symm
  refine ⟨"tuple",_,PyProof.Rows.slot_tuple_getitem.lookup,ht.typeIs,?_⟩
  refine HT.getItem_tuple_cut ht hs pl pu (by rw [hlen]; exact hw) ?_ (by rw [hlen]; exact hz)
  rw [hlen]
  refine ⟨.ref s.heap.objs.size,_,I.laid (t':=s.toks) (o:=.tup (cutV xs lo hi)) (fun b ob q=>Heap.get?_push_of_some _ q) (Nat.le_refl _) ?_,rfl,q _ (I.hok.fresh (Nat.le_refl _))⟩
  exact ⟨Nat.le_trans (cutV_length xs lo hi) hz,_,(r.drop (HT.sIx xs.length 0 lo)).take (HT.sIx xs.length xs.length hi - HT.sIx xs.length 0 lo),IsTup.new _ _⟩

end
end L2

namespace L2
open PySem PySem.Spec PyProof.Rows

noncomputable def ixN (n:Nat) (i:Int):Option Nat:=if 0≤i then (if i<n then some i.toNat else none) else if -(n:Int)≤i then some (i+n).toNat else none
noncomputable def atI {α:Type} (xs:List α) (i:Int):Option α:=(ixN xs.length i).bind fun j=>xs[j]?
theorem ixN_seq {n:Nat} {i:Int} {j:Nat} (h:ixN n i=some j):seqIndex? i n=some j∧j<n∧-(n:Int)≤i∧i<n:=by
  unfold ixN at h
  by_cases h0:0≤i
  · rw [if_pos h0] at h
    by_cases h1:i<n
    · rw [if_pos h1] at h
      have e:i.toNat=j:=Option.some.inj h
      exact ⟨by rw [seqIndex_of h0 h1,e],by omega,by omega,h1⟩
    · rw [if_neg h1] at h; cases h
  · rw [if_neg h0] at h
    by_cases h1:-(n:Int)≤i
    · rw [if_pos h1] at h
      have e:(i+n).toNat=j:=Option.some.inj h
      exact ⟨by rw [seqIndex_neg (by omega) h1,e],by omega,h1,by omega⟩
    · rw [if_neg h1] at h; cases h
theorem atI_get {α:Type} {xs:List α} {i:Int} {v:α} (h:atI xs i=some v):∃ j,seqIndex? i xs.length=some j∧xs[j]? = some v∧j<xs.length∧-(xs.length:Int)≤i∧i<xs.length:=by
  unfold atI at h
  cases e:ixN xs.length i with
  | none=>rw [e] at h; cases h
  | some j =>
    rw [e] at h
    obtain ⟨h1,h2,h3,h4⟩:=ixN_seq e
    exact ⟨j,h1,h,h2,h3,h4⟩
noncomputable def PlainIx (b:Expr):Prop:=∀ o i,subscripted b false o i=operate [o,i] (getItem o i)
noncomputable def IxR (X:Cx) (r:R2):Prop :=
  ∀ (value slice:Expr) (pins:List (Addr × Obj)) (s:Shared) (σ:St) (H:Hp) (x y:V) (v u:Value) (Q:VK),Inv X pins σ H s→RelV x v→RelV y u→r x y H Q →
    subscripted slice false v u=operate [v,u] (getItem v u)→wpAny (model X.prog X.w) X.A (subscriptTail value slice v u) (EP X pins σ Q) X.xe s
noncomputable def MtR (X:Cx) (id:String) (r:V→List V→Hp→VK→Prop):Prop :=
  ∀ (pins:List (Addr × Obj)) (s:Shared) (σ:St) (H:Hp) (x:V) (xs:List V) (v:Value) (us:List Value) (Q:VK),Inv X pins σ H s→RelV x v→Vals xs us→r x xs H Q →
    wpAny (model X.prog X.w) X.A (call (.builtin id) (v :: us)) (EP X pins σ Q) X.xe s
section
variable {X:Cx} {a b:Expr} {ta tb:TE} {pos:Pos}
theorem IxR.or {r r':R2} (h:IxR X r) (h':IxR X r'):IxR X (fun x y H Q=>r x y H Q∨r' x y H Q):=by
  intro value slice pins s σ H x y v u Q I rx ry q hs
  rcases q with q | q
  · exact h value slice pins s σ H x y v u Q I rx ry q hs
  · exact h' value slice pins s σ H x y v u Q I rx ry q hs
theorem MtR.or {id:String} {r r':V→List V→Hp→VK→Prop} (h:MtR X id r) (h':MtR X id r'):MtR X id (fun x xs H Q=>r x xs H Q∨r' x xs H Q):=by
  intro pins s σ H x xs v us Q I rx rs q
  rcases q with q | q
  · exact h pins s σ H x xs v us Q I rx rs q
  · exact h' pins s σ H x xs v us Q I rx rs q
theorem pe_ix {r:R2} (hr:IxR X r) (ha:PE X a ta) (hb:PE X b tb) (hs:PlainIx b):PE X (.Subscript a b pos) (tOp r ta tb):=by
  intro pins s σ H Q I h
  exact Subscript_ (binT ha hb I h fun v u s2 x y H2 I2 rx ry q=>hr a b pins s2 σ H2 x y v u Q I2 rx ry q (hs _ _))

noncomputable def rIxL (K:PySem.W.Frag):R2:=fun x y H Q=>∃ p xs i v,x = .ref p∧y = .int i∧SqL K H p xs∧atI xs i=some v∧Q v H
noncomputable def rIxT (K:PySem.W.Frag):R2:=fun x y H Q=>∃ p xs i v,x = .ref p∧y = .int i∧SqT K H p xs∧atI xs i=some v∧Q v H
theorem ix_list:IxR X (rIxL X.K):=by
  intro value slice pins s σ H x y v u Q I rx ry h hs
  obtain ⟨p,xs,i,z,rfl,rfl,hq,he,q⟩:=h
  cases rx
  obtain ⟨t,rfl⟩:=ry
  obtain ⟨its,r,pl,hz⟩:=I.list hq
  obtain ⟨j,h1,h2,h3,h4,h5⟩:=atI_get he
  obtain ⟨w,ew,rw'⟩:=r.get h2
  have hl:=r.length
  have hn:=line63
  have fin:EP X pins σ Q w s:=⟨z,H,I,rw',q⟩
  by_cases h0:0≤i
  · have hj:i.toNat=j:=by
      rw [seqIndex_of h0 h5] at h1
      exact Option.some.inj h1
    exact item_listR pl.isList h0 (by omega) (by rw [hj]; simpa using ew) fin hs
  · have hj:(i+(its.toArray.size:Int)).toNat=j:=by
      rw [seqIndex_neg (by omega) h4] at h1
      rw [List.size_toArray,← hl]
      exact Option.some.inj h1
    exact subscriptTail_builtinR (x:=w) pl.isList.typeIs slot_list_getitem.lookup
      (wpAny_getItem_list_neg (Q:=fun r s'=>r=w∧EP X pins σ Q r s') pl.isList (by omega) (by rw [List.size_toArray] <;> omega) (by omega) (by rw [hj]; simpa using ew) ⟨rfl,fin⟩) hs
theorem ix_tup:IxR X (rIxT X.K):=by
  intro value slice pins s σ H x y v u Q I rx ry h hs
  obtain ⟨p,xs,i,z,rfl,rfl,hq,he,q⟩:=h
  cases rx
  obtain ⟨t,rfl⟩:=ry
  obtain ⟨its,r,pl,hz⟩:=I.tuple hq
  obtain ⟨j,h1,h2,h3,h4,h5⟩:=atI_get he
  obtain ⟨w,ew,rw'⟩:=r.get h2
  have hl:=r.length
  have hn:=line63
  have fin:EP X pins σ Q w s:=⟨z,H,I,rw',q⟩
  exact subscriptTail_builtinR (x:=w) pl.typeIs slot_tuple_getitem.lookup
    (getItem_tuple (j:=j) (Q:=fun r s'=>r=w∧EP X pins σ Q r s') pl (by omega) (by omega) (by rw [List.size_toArray,← hl]; exact h1) (by simpa using ew) ⟨rfl,fin⟩) hs
theorem mapSeq_set (its:List Value) (n j:Nat) (u:Value):Obj.mapSeq (·.setIfInBounds j u) { cls:=.type "list",data:=.seq its.toArray n } = { cls:=.type "list",data:=.seq (its.set j u).toArray n }:=by
  simp [Obj.mapSeq]
theorem Inv.lst {pins:List (Addr × Obj)} {σ:St} {H:Hp} {s:Shared} {p:Addr} {xs:List V} (I:Inv X pins σ H s) (h:H p=some (.lst xs)) :
    ∃ (its:List Value) (n:Nat),Vals xs its∧s.heap.get? p=some { cls:=.type "list",data:=.seq its.toArray n }∧xs.length≤sizeLine:=by
  obtain ⟨z,its,n,r,e⟩:=I.hok p _ h
  exact ⟨its,n,r,e,z⟩
theorem Inv.lstUpd {pins:List (Addr × Obj)} {σ:St} {H:Hp} {s:Shared} {p:Addr} {xs ys:List V} {its its':List Value} {n n':Nat} {f:Obj→Obj} (I:Inv X pins σ H s) (h:H p=some (.lst xs))
    (ho:s.heap.get? p=some { cls:=.type "list",data:=.seq its.toArray n }) (hf:f { cls:=.type "list",data:=.seq its.toArray n } = { cls:=.type "list",data:=.seq its'.toArray n' }) (r:Vals ys its') (hz:ys.length≤sizeLine) (t:Nat) :
    Inv X pins σ (upd H p (.lst ys)) { s with heap:=s.heap.update p f,toks:=t }:=by
  have e:(s.heap.update p f).get? p=some { cls:=.type "list",data:=.seq its'.toArray n' }:=by
    rw [Heap.get?_update_self f ho (by rw [hf] <;> rfl),hf]
  refine I.write (x:=p) (e:=p) (by rw [h]; trivial) (.inl rfl) (fun b u hb q=>(Heap.get?_update_other _ _ (Ne.symm hb)).trans q) ⟨_,e⟩ ?_
  exact ⟨hz,its',n',r,e⟩
noncomputable def rSetL:V→V→V→Hp→(Hp→Prop)→Prop:=fun o i v H Q=>∃ p xs k j,o = .ref p∧i = .int k∧H p=some (.lst xs)∧ixN xs.length k=some j∧Q (upd H p (.lst (xs.set j v)))
theorem set_list:PSet X rSetL:=by
  intro pins s σ H o i v ov iv u Q I ro ri rv h
  obtain ⟨p,xs,k,j,rfl,rfl,hp,hj,q⟩:=h
  cases ro
  obtain ⟨t,rfl⟩:=ri
  obtain ⟨its,n,r,ho,hz⟩:=I.lst hp
  obtain ⟨h1,h2,h3,h4⟩:=ixN_seq hj
  have hl:=r.length
  have hn:=line63
  have I':Inv X pins σ (upd H p (.lst (xs.set j v))) { s with heap:=s.heap.update p (Obj.mapSeq (·.setIfInBounds j u)) } :=
    I.lstUpd hp ho (mapSeq_set its n j u) (r.set rv j) (by rw [List.length_set]; exact hz) s.toks
  by_cases h0:0≤k
  · have hk:k.toNat=j:=by
      rw [seqIndex_of h0 h4] at h1
      exact Option.some.inj h1
    exact PySem.W.ki_setAt ho h0 (by omega) (by rw [List.size_toArray,← hl]; exact h4) (by rw [hk]; exact ⟨_,I',q⟩)
  · have hk:(k+(its.toArray.size:Int)).toNat=j:=by
      rw [seqIndex_neg (by omega) h3] at h1
      rw [List.size_toArray,← hl]
      exact Option.some.inj h1
    exact PySem.W.ki_setBack ho (by omega) (by rw [List.size_toArray,← hl]; exact h3) (by omega) (by rw [hk]; exact ⟨_,I',q⟩)

theorem slice_bounds (lo hi:Option Int) (n:Nat):(sliceBounds lo hi none n).1=((HT.sIx n 0 lo:Nat):Int)∧(sliceBounds lo hi none n).2.1=((HT.sIx n n hi:Nat):Int)∧(sliceBounds lo hi none n).2.2=1:=by
  refine ⟨?_,?_,rfl⟩
  · cases lo with
    | none=>simp [sliceBounds,HT.sIx]
    | some i =>
      simp only [sliceBounds,HT.sIx,Option.getD_none,show (1:Int) > 0 by decide,if_true]
      by_cases h:i<0
      · simp only [h,if_true] <;> omega
      · simp only [h,if_false] <;> omega
  · cases hi with
    | none=>simp [sliceBounds,HT.sIx]
    | some i =>
      simp only [sliceBounds,HT.sIx,Option.getD_none,show (1:Int) > 0 by decide,if_true]
      by_cases h:i<0
      · simp only [h,if_true] <;> omega
      · simp only [h,if_false] <;> omega
theorem slicePick_cut (its:List Value) (lo hi:Option Int):slicePick its.toArray lo hi none=((its.drop (HT.sIx its.length 0 lo)).take (HT.sIx its.length its.length hi - HT.sIx its.length 0 lo)).toArray:=by
  obtain ⟨h1,h2,h3⟩:=slice_bounds lo hi its.toArray.size
  unfold slicePick
  rw [h1,h2,h3]
  simp only [sliceRange_one,pick_run,List.size_toArray] <;> rfl
noncomputable def rSlL (K:PySem.W.Frag):V→Option Int→Option Int→Hp→VK→Prop:=fun x lo hi H Q=>∃ a xs,x = .ref a∧SqL K H a xs∧∀ p,H p=none→Q (.ref p) (upd H p (.lst (cutV xs lo hi)))
theorem sl_list:SlR X (rSlL X.K):=by
  intro pins s σ H x v vl vu lo hi sl Q I rx hs pl pu h
  obtain ⟨a,xs,rfl,hx,q⟩:=h
  cases rx
  obtain ⟨its,r,ht,hz⟩:=I.list hx
  have hlen:=r.length
  refine ⟨"list",_,slot_list_getitem.lookup,ht.isList.typeIs,?_⟩
  refine wpAny_getItem_list_slice ht.isList hs pl pu .none (by simp) ?_ (by rw [List.size_toArray] <;> omega)
  rw [slicePick_cut,← hlen]
  refine ⟨.ref s.heap.objs.size,_,I.laid (t':=s.toks) (o:=.lst (cutV xs lo hi)) (fun b ob q=>Heap.get?_push_of_some _ q) (Nat.le_refl _) ?_,rfl,q _ (I.hok.fresh (Nat.le_refl _))⟩
  exact ⟨Nat.le_trans (cutV_length xs lo hi) hz,_,0,(r.drop (HT.sIx xs.length 0 lo)).take (HT.sIx xs.length xs.length hi - HT.sIx xs.length 0 lo),Heap.get?_push_size _ rfl⟩

theorem call_len_seq:CallR X (.builtin "len") (fun xs H Q=>∃ p ys,xs=[.ref p]∧(SqL X.K H p ys∨SqT X.K H p ys)∧Q (.int ys.length) H):=by
  intro pins s σ H xs us Q I r h
  obtain ⟨p,ys,rfl,hq,q⟩:=h
  obtain ⟨u,rfl,rx⟩:=vals1 r
  cases rx
  have hn:=line63
  rcases hq with hq | hq
  · obtain ⟨its,r',pl,hz⟩:=I.list hq
    have hlen:=r'.length
    exact Calls.call_len_list pl.isList (by simp only [List.size_toArray] <;> omega) ⟨.int ys.length,H,I.tok _,⟨s.toks+1,by rw [List.size_toArray,hlen]⟩,q⟩
  · obtain ⟨its,r',pl,hz⟩:=I.tuple hq
    have hlen:=r'.length
    exact len_tuple pl (by simp only [List.size_toArray] <;> omega) ⟨.int ys.length,H,I.tok _,⟨s.toks+1,by rw [List.size_toArray,hlen]⟩,q⟩
theorem CallR.or {f:Value} {r r':List V→Hp→VK→Prop} (h:CallR X f r) (h':CallR X f r'):CallR X f (fun xs H Q=>r xs H Q∨r' xs H Q):=by
  intro pins s σ H xs us Q I rs q
  rcases q with q | q
  · exact h pins s σ H xs us Q I rs q
  · exact h' pins s σ H xs us Q I rs q
theorem call_list_of:CallR X (.type "list") (fun xs H Q=>∃ p ys,xs=[.ref p]∧(SqL X.K H p ys∨SqT X.K H p ys)∧∀ l,H l=none→Q (.ref l) (upd H l (.lst ys))):=by
  intro pins s σ H xs us Q I r h
  obtain ⟨p,ys,rfl,hq,q⟩:=h
  obtain ⟨u,rfl,rx⟩:=vals1 r
  cases rx
  have fin:∀ (its:List Value),Vals ys its→ys.length≤sizeLine→∀ (h':Heap) (c':Nat),(∀ b o',s.heap.get? b=some o'→h'.get? b=some o') →
      h'.get? s.heap.objs.size=some { cls:=.type "list",dict:=none,data:=.seq its.toArray c',slots:=#[] }→EP X pins σ Q (.ref s.heap.objs.size) { s with heap:=h' }:=fun its r' hz h' c' kp e =>
    ⟨.ref s.heap.objs.size,_,I.laid (t':=s.toks) kp (Nat.le_refl _) (show ObjOk X.prog X.w _ h' _ (.lst ys) from ⟨hz,its,c',r',e⟩),rfl,q _ (I.hok.fresh (Nat.le_refl _))⟩
  rcases hq with hq | hq
  · obtain ⟨its,r',pl,hz⟩:=I.list hq
    have hlen:=r'.length
    obtain ⟨o,ho,hc,n,hd⟩:=pl.isList
    exact call_list_seq p (.inl rfl) ho hc hd (fun h' c' kp e=>fin its r' hz h' c' kp e) (by simp only [List.size_toArray] <;> omega)
  · obtain ⟨its,r',pl,hz⟩:=I.tuple hq
    have hlen:=r'.length
    obtain ⟨o,ho,hc,n,hd⟩:=pl
    exact call_list_seq p (.inr rfl) ho hc hd (fun h' c' kp e=>fin its r' hz h' c' kp e) (by simp only [List.size_toArray] <;> omega)
theorem call_tuple_of:CallR X (.type "tuple") (fun xs H Q=>∃ p ys,xs=[.ref p]∧((SqL X.K H p ys∧∀ l,H l=none→Q (.ref l) (upd H l (.tup ys)))∨(SqT X.K H p ys∧Q (.ref p) H))):=by
  intro pins s σ H xs us Q I r h
  obtain ⟨p,ys,rfl,h⟩:=h
  obtain ⟨u,rfl,rx⟩:=vals1 r
  cases rx
  rcases h with ⟨hq,q⟩ | ⟨hq,q⟩
  · obtain ⟨its,r',pl,hz⟩:=I.list hq
    have hlen:=r'.length
    refine call_tuple_list pl.isList (fun h' kp=>?_) (by simp only [List.size_toArray] <;> omega)
    have I1:Inv X pins σ H { s with heap:=h' }:=I.kept (t':=s.toks) kp
    have I2:Inv X pins σ (upd H h'.objs.size (.tup ys)) { s with heap:=h'.push { cls:=.type "tuple",data:=.seq its.toArray } } :=
      I1.laid (t':=s.toks) (fun b o e=>Heap.get?_push_of_some _ e) (Nat.le_refl _) (show ObjOk X.prog X.w _ _ _ (.tup ys) from ⟨hz,its,r',IsTup.new _ _⟩)
    exact ⟨.ref h'.objs.size,_,I2,rfl,q _ (I1.hok.fresh (Nat.le_refl _))⟩
  · obtain ⟨its,r',pl,hz⟩:=I.tuple hq
    exact call_tuple_same pl ⟨.ref p,H,I,rfl,q⟩

noncomputable def tyV (K:PySem.W.Frag) (T:String) (x:V) (H:Hp):Prop:=match x with
  | .str _=>T = "str"
  | .int _=>T = "int"
  | .ref p=>(T = "list" ∧ ∃ xs,SqL K H p xs)∨(T = "tuple" ∧ ∃ o,K.lookup p=some o∧o.cls = .type "tuple" ∧ o.dict=none) ∨
      (T = "dict" ∧ ((∃ kvs,H p=some (.dK kvs)) ∨ ∃ kvs,H p=some (.dT kvs)))∨(T = "set" ∧ ∃ S n,H p=some (.set S n))
  | _=>False
theorem tyV_is {pins:List (Addr × Obj)} {σ:St} {H:Hp} {s:Shared} {T:String} {x:V} {v:Value} (I:Inv X pins σ H s) (r:RelV x v) (ty:tyV X.K T x H) :
    s.TypeIs v T∧∀ a,v = .ref a→∃ ob,s.heap.get? a=some ob∧ob.dict=none:=by
  cases x with
  | str z =>
    obtain ⟨t,rfl⟩:=r
    cases (show T = "str" from ty)
    exact ⟨typeIs_str s z t,fun _ e=>nomatch e⟩
  | int i =>
    obtain ⟨t,rfl⟩:=r
    cases (show T = "int" from ty)
    exact ⟨typeIs_int s i t,fun _ e=>nomatch e⟩
  | ref p =>
    cases r
    rcases ty with ⟨rfl,xs,hq⟩ | ⟨rfl,o,hk,hc,hd⟩ | ⟨rfl,hk⟩ | ⟨rfl,S,n,hk⟩
    · obtain ⟨its,_,pl,_⟩:=I.list hq
      refine ⟨pl.isList.typeIs,fun a e=>?_⟩
      cases e
      obtain ⟨o,n,e,c,hd,_⟩:=pl
      exact ⟨o,e,hd⟩
    · refine ⟨⟨o,I.kIn p o hk,hc⟩,fun a e=>?_⟩
      cases e
      exact ⟨o,I.kIn _ o hk,hd⟩
    · have z:∃ o,s.heap.get? p=some o∧o.ExactDict:=by
        rcases hk with ⟨kvs,hk⟩ | ⟨kvs,hk⟩
        · obtain ⟨_,_,_,_,o,_,_,e,ex,_⟩:=I.hok p _ hk
          exact ⟨o,e,ex⟩
        · obtain ⟨_,_,_,_,o,_,_,e,ex,_⟩:=I.hok p _ hk
          exact ⟨o,e,ex⟩
      obtain ⟨o,e,ex⟩:=z
      refine ⟨⟨o,e,ex.1⟩,fun a e2=>?_⟩
      cases e2
      exact ⟨o,e,ex.2.1⟩
    · obtain ⟨o,_,_,_,e,ex,_⟩:=I.hok p _ hk
      refine ⟨⟨o,e,ex.1⟩,fun a e2=>?_⟩
      cases e2
      exact ⟨o,e,ex.2.1⟩
  | _=>exact False.elim ty
noncomputable def tBM0 (K:PySem.W.Frag) (T:String) (r:V→List V→Hp→VK→Prop) (to:TE):TE:=fun σ H Q=>to σ H fun x H1=>tyV K T x H1∧r x [] H1 Q
noncomputable def tBM (K:PySem.W.Frag) (T:String) (r:V→List V→Hp→VK→Prop) (to:TE) (t:TA):TE:=fun σ H Q=>to σ H fun x H1=>tyV K T x H1∧t σ H1 fun xs H2=>r x xs H2 Q
variable {o e:Expr} {es:List Expr} {to:TE} {t:TA} {name:Str} {apos cpos:Pos} {T id:String} {r:V→List V→Hp→VK→Prop}
theorem pe_bm0 (pa:PlainAttrs T) (slot:Slot T name id) (hty:typeOf (.builtin id)=pure (.type "method_descriptor")) (hm:MtR X id r) (ho:PE X o to)
    (hbase:attributeBase o name X.env (eval o X.env)=eval o X.env:=by rfl) (hline:(apos.endLine == cpos.line)=true:=by rfl):PE X (.Call (.Attribute o name apos) [] [] cpos) (tBM0 X.K T r to):=by
  intro pins s σ H Q I h
  refine wpAny_Call_method0_late hbase hline (thn (ho pins s σ H _ I h) fun v s1 zz=>?_)
  obtain ⟨x,H1,I1,r1,ty,q1⟩:=zz
  obtain ⟨h1,h2⟩:=tyV_is I1 r1 ty
  exact ⟨T,id,pa,slot,hty,h1,h2,Calls.callWith_builtin rfl (PySem.evalArgs_none (hm pins s1 σ H1 x [] v [] Q I1 r1 .nil q1))⟩
theorem pe_bm (pa:PlainAttrs T) (slot:Slot T name id) (hty:typeOf (.builtin id)=pure (.type "method_descriptor")) (hm:MtR X id r) (ho:PE X o to) (ha:PA X (e :: es) t)
    (hbase:attributeBase o name X.env (eval o X.env)=eval o X.env:=by rfl)
    (hfew:((backTo cpos (starEach (e :: es) X.env)).all (fun x=>!x.1) && (backToKw cpos (keywordEach [] X.env)).all (fun x=>x.1.isSome)
      && decide ((e :: es).length+([]:List Keyword).length+(if ([]:List Keyword).isEmpty then 0 else 1)<30))=true:=by rfl)
    (hline:(apos.endLine == cpos.line)=true:=by rfl) (hs:starEach (e :: es) X.env=(false,eval e X.env) :: starEach es X.env:=by rfl) (hplain:(backTo cpos (starEach es X.env)).any (·.1)=false:=by rfl) :
    PE X (.Call (.Attribute o name apos) (e :: es) [] cpos) (tBM X.K T r to t):=by
  intro pins s σ H Q I h
  refine wpAny_Call_method_late hbase hfew hline rfl (thn (ho pins s σ H _ I h) fun v s1 zz=>?_)
  obtain ⟨x,H1,I1,r1,ty,q1⟩:=zz
  obtain ⟨h1,h2⟩:=tyV_is I1 r1 ty
  refine ⟨T,id,pa,slot,hty,h1,h2,?_⟩
  have hA:=ha cpos pins s1 σ H1 _ I1 q1
  rw [hs] at hA ⊢
  refine Calls.callWith_builtin (by show (false || (backTo cpos (starEach es X.env)).any (·.1))=false; rw [hplain] <;> rfl) (Calls.evalArgs_plain ?_)
  exact thn hA fun us s2 ⟨vs,H2,I2,r2,q2⟩=>hm pins s2 σ H2 x vs v us Q I2 r1 r2 q2
/- xs.append(e), list.index on a module's tuple .. are MtR facts of 06m -/
end
end L2

namespace L2
open PySem PySem.Spec PyProof.Rows

noncomputable def MtM (X:Cx) (id:String) (r:V→List V→Hp→VK→Prop):Prop :=
  ∀ (pins:List (Addr × Obj)) (s:Shared) (σ:St) (H:Hp) (x:V) (xs:List V) (v:Value) (us:List Value) (Q:VK),Inv X pins σ H s→RelV x v→Vals xs us→r x xs H Q →
    wpAny (model X.prog X.w) X.A (call (.builtin id) (v :: us)) (EP X pins σ Q) X.xe s

theorem Vals.one {x:V} {us:List Value} (h:Vals [x] us):∃ u,us=[u]∧RelV x u:=by
  cases h with | cons r t=>cases t; exact ⟨_,rfl,r⟩
theorem Vals.two {x y:V} {us:List Value} (h:Vals [x,y] us):∃ u v,us=[u,v]∧RelV x u∧RelV y v:=by
  cases h with | cons r t=>cases t with | cons q t2=>cases t2; exact ⟨_,_,rfl,r,q⟩
theorem Vals.reverse {xs:List V} {us:List Value} (h:Vals xs us):Vals xs.reverse us.reverse:=by
  induction h with
  | nil=>exact .nil
  | cons r t ih=>rw [List.reverse_cons,List.reverse_cons]; exact Vals.append ih (.cons r .nil)
section
variable {X:Cx} {pins:List (Addr × Obj)} {σ:St} {H:Hp} {s:Shared} {l b:Addr} {xs ys zs:List V}

theorem Inv.lset {its its':List Value} {n:Nat} {f:Array Value→Array Value} {t':Nat} (I:Inv X pins σ H s) (hH:H l=some (.lst xs))
    (e:s.heap.get? l=some { cls:=.type "list",data:=.seq its.toArray n }) (hf:f its.toArray=its'.toArray) (hv:Vals ys its') (hz:ys.length≤sizeLine) :
    Inv X pins σ (upd H l (.lst ys)) { s with heap:=s.heap.update l (Obj.mapSeq f),toks:=t' }:=by
  have q:=PySem.IsL.update e f
  rw [hf] at q
  refine I.write (x:=l) (e:=l) (by rw [hH]; exact trivial) (.inl rfl) (fun b' u hb hu=>(Heap.get?_update_other s.heap (Obj.mapSeq f) (Ne.symm hb)).trans hu) ⟨_,q⟩ ?_
  exact ⟨hz,its',_,hv,q⟩
theorem Inv.lnew {its:List Value} {t':Nat} (I:Inv X pins σ H s) (hv:Vals ys its) (hz:ys.length≤sizeLine) :
    Inv X pins σ (upd H s.heap.objs.size (.lst ys)) { s with heap:=s.heap.push { cls:=.type "list",data:=.seq its.toArray },toks:=t' } :=
  I.laid (fun _ _ q=>Heap.get?_push_of_some _ q) (Nat.le_refl _) ⟨hz,its,0,hv,Heap.get?_push_size _ rfl⟩
theorem Inv.fresh (I:Inv X pins σ H s):H s.heap.objs.size=none:=I.hok.fresh (Nat.le_refl _)
theorem Inv.lstM (I:Inv X pins σ H s) (hH:H l=some (.lst xs)):xs.length≤sizeLine∧∃ (its:List Value) (n:Nat),Vals xs its∧xs.length=its.length∧s.heap.get? l=some { cls:=.type "list",data:=.seq its.toArray n }:=by
  obtain ⟨z,its,n,r,e⟩:=I.hok l _ hH
  exact ⟨z,its,n,r,r.length,e⟩

theorem notLongL {n:Nat} (h:n≤sizeLine):Builtin.List.listTooLong n=false:=by
  unfold Builtin.List.listTooLong
  exact decide_eq_false (by omega)
end

section
variable {X:Cx}

noncomputable def rAppend:V→List V→Hp→VK→Prop:=fun x vs H Q=>∃ l xs y,x = .ref l∧vs=[y]∧H l=some (.lst xs)∧xs.length<sizeLine∧Q .non (upd H l (.lst (xs++[y])))
theorem mt_append:MtM X "list.append" rAppend:=by
  intro pins s σ H x vs v us Q I rx rv h
  obtain ⟨l,xs,y,rfl,rfl,hH,hz,q⟩:=h
  cases rx
  obtain ⟨u,rfl,ru⟩:=rv.one
  obtain ⟨z,its,n,r,hl,e⟩:=I.lstM hH
  refine call_meets F.slot_list_append ⟨_,e,rfl⟩ F.entry_list_append (F.args_list_append_2 _ _) (PySem.list_append l its.toArray n u (by rw [List.size_toArray]; omega)) ⟨e,?_⟩
  refine ⟨.non,_,I.lset (its':=its++[u]) hH e (by simp) (r.append (.cons ru .nil)) ?_,rfl,q⟩
  rw [List.length_append,List.length_singleton]
  omega

noncomputable def rExtend:V→List V→Hp→VK→Prop:=fun x vs H Q=>∃ l b xs zs,x = .ref l∧vs=[.ref b]∧H l=some (.lst xs)∧H b=some (.lst zs)∧xs.length+zs.length≤sizeLine∧Q .non (upd H l (.lst (xs++zs)))
theorem mt_extend:MtM X "list.extend" rExtend:=by
  intro pins s σ H x vs v us Q I rx rv h
  obtain ⟨l,b,xs,zs,rfl,rfl,hH,hB,hz,q⟩:=h
  cases rx
  obtain ⟨u,rfl,ru⟩:=rv.one
  cases ru
  obtain ⟨z,its,n,r,hl,e⟩:=I.lstM hH
  obtain ⟨z2,its2,n2,r2,hl2,e2⟩:=I.lstM hB
  have hsz:its.toArray.size+its2.toArray.size≤sizeLine:=by rw [List.size_toArray,List.size_toArray]; omega
  have hlong:¬ (!its.toArray.isEmpty && Builtin.List.listTooLong (its.toArray.size+its2.toArray.size))=true:=by
    rw [notLongL hsz,Bool.and_false]
    exact Bool.false_ne_true
  refine call_meets F.slot_list_extend ⟨_,e,rfl⟩ F.entry_list_extend (F.args_list_extend_2 _ _)
    (AutoSeq1.list_extend_list_list_0 l its.toArray n b its2.toArray n2 hlong (by rw [List.size_toArray]; omega) (by omega)) ⟨e,e2,?_⟩
  refine ⟨.non,_,I.lset (its':=its++its2) hH e (by simp) (r.append r2) ?_,rfl,q⟩
  rw [List.length_append]
  omega

end

section
variable {prog:Program} {w:World} {A:Around} {E:Value→Shared→Prop} {s:Shared}
end

section
variable {X:Cx}
end
end L2

namespace Att
open PySem PySem.W PySem.Calls PyProof.Rows

theorem ints_of_wellAll {P:Params} {h:Heap}:∀ (ns:List Int) (vs:List Value),WellAll P h vs (ns.map WData.int)→IntsAre vs ns:=by
  intro ns
  induction ns with
  | nil =>
    intro vs w
    rw [List.map_nil] at w
    cases w
    exact .nil
  | cons n ns ih =>
    intro vs w
    rw [List.map_cons] at w
    cases w with
    | cons a b =>
      cases a
      exact .cons _ _ (ih _ b)

theorem script_of {l:OpenLaw} {n:Nat} (hn:l.most=some n) {P:Params} {h:Heap} {args:List WData} {vals:List Value}
    (hpre:l.row.toRowW.claim.pre args=true) (hwl:WellAll P h vals args) :
    ∃ a vs ns,vals=[Value.ref a]∧args=[WData.list (ns.map WData.int)]∧h.get? a=some { cls:=.type "list",data:=.seq vs.toArray }∧IntsAre vs ns∧ns.length≤n:=by
  have hsh:WShape.hasAll [] args [.list .int]=true:=(pre_splitW hpre).1
  have hc:l.pre.holds [] { args:=args } = true:=(pre_splitW hpre).2
  obtain ⟨d,r,rfl,h1,h2⟩:=hasAllW_cons hsh
  obtain rfl:=hasAllW_nil h2
  obtain ⟨xs,rfl,h3⟩:=hasW_list h1
  obtain ⟨ns,rfl⟩:=items_int h3
  have hlen:ns.length≤n:=by
    unfold OpenLaw.pre at hc
    have h4:(WTm.not (.lt (.lit (.int (n:Int))) (.len (.arg 0)))).holds [] { args:=[.list (ns.map .int)] } = true:=by
      have h4:=(holds_andW hc).1
      rw [hn] at h4
      exact h4
    have h5:=condW_of h4 (w_not (w_lt w_lit (w_len_list (w_arg rfl))))
    rw [List.length_map] at h5
    refine Nat.le_of_not_lt fun q=>?_
    have q':(n:Int)<((ns.length:Nat):Int):=by omega
    first
      | (rw [decide_eq_true q'] at h5; exact absurd h5 (by decide))
      | (simp at h5; omega)
  cases hwl with
  | cons w1 w2 =>
    cases w2
    cases w1 with
    | list ho hall=>exact ⟨_,_,ns,rfl,rfl,ho,ints_of_wellAll ns _ hall,hlen⟩

theorem post_true (l:OpenLaw) (args:List WData):l.row.toRowW.claim.post args (.bool true) args=true :=
  postW_of (r:=l.row.toRowW) (X:=(true == true))
    (show WShape.has [] (.bool true) .bool=true by first | rfl | decide | simp [WShape.has,WShape.arms,WShape.armsAll])
    (show (WTm.eq .res (.lit (.bool true))).value [] { args:=args,res:=some (.bool true),after:=args } = some (.bool (true == true)) from w_eq_bool (w_res rfl) w_lit) rfl

theorem attach_call {l:OpenLaw} {n:Nat} {q:Program} {loose:List Str} {XP:(Str→Option Value)→Heap→Prop} {YP:World→Heap→Prop} {d:DefRec}
    (hn:l.most=some n) (hdf:d.params.defaults=[])
    (call:∀ (w:World) (s₀ s₁:Shared) (mg mb:Str→Option Value) (fa:Addr) (o:Obj) (pm cd doc:Value) (a:Addr) (vs:List Value) (ns:List Int),
      Ground q loose [] XP w s₀ mg mb s₁.heap→YP w s₁.heap →
      s₁.heap.get? fa=some o→o.data = .func (docDef d.name d.params d.body d.scope pm cd doc)→s₁.heap.CodeRec cd d.name→mg d.name=some (.ref fa) →
      s₁.heap.get? a=some { cls:=.type "list",data:=.seq vs.toArray }→IntsAre vs ns→ns.length≤n→s₁.gens = #[] →
      codeAny (model l.prog w) callerA (.call (.ref fa) ⟨[.ref a],[]⟩) (fun r s'=>r = .ok (.ret (.bool true))∧OldK s₁.heap s'.heap∧s'.os=s₁.os∧AllBare s'.gens) s₁) :
    WalkO q loose XP YP l.row.toRowW d [] (fun f vs=>PySem.call f vs):=by
  intro w s₀ s₁ mg mb G Y fa o pm cd doc dV kV ho hd hcd hD hmg hg args vals as hpre hlay hrd hwl hlo
  obtain rfl:dV = .none:=Dflts.none hD hdf
  obtain rfl:kV = .none:=Dflts.noKw hD
  obtain ⟨a,vs,ns,rfl,rfl,hobj,hints,hlen⟩:=script_of hn hpre hwl
  refine enter_call (codeAny_mono (call w s₀ s₁ mg mb fa o pm cd doc a vs ns G Y ho (fd_plain hd) hcd hmg hobj hints hlen hg) fun r s' hq=>?_)
  obtain ⟨rfl,h2,h3,h4⟩:=hq
  exact ⟨.inl ⟨.bool true,.bool true,[],rfl,fun _=>rfl,.bool true,post_true l _,fun _=>⟨List.Pairwise.nil,fun _ hm=>(nomatch hm)⟩⟩,h2,h3,h4⟩

section
variable {prog:Program} {w:World} {A:Around} {E:Value→Shared→Prop} {s:Shared} {K:Frag}

end
end Att

namespace L2
open PySem PySem.Spec PyProof.Rows

theorem vals_ints:∀ {vs:List Value} {ns:List Int},IntsAre vs ns→Vals (ns.map V.int) vs
  | _,_,.nil=>.nil
  | _,_,.cons n t h=>.cons ⟨t,rfl⟩ (vals_ints h)

noncomputable def Only (H:Hp):Prop:=∀ b,H b=none ∨ ∃ o xs,H b=some (.frz o (.lst xs))

theorem law_call {P:Program} {w:World} {K:PySem.W.Frag} {mg mb:Str→Option Value} {CX:CXT} {k:Nat} {fa a:Addr} {fd:FuncData} {x:Str} {sp:Sp} {s₁:Shared} {vs:List Value} {ns:List Int}
    (KX:K.In s₁.heap) (hns:s₁.heap.Ns mainGlobals mg) (hb:s₁.heap.Ns builtinsNs mb) (hbb:∀ x:Str,x ≠ "__name__" → mb x=bootBuiltins x) (hlim:s₁.heap.NoLimit) (hg:s₁.gens = #[])
    (ha:s₁.heap.get? a=some { cls:=.type "list",data:=.seq vs.toArray }) (hi:IntsAre vs ns) (hl:ns.length≤sizeLine) (hr:Room k callerA)
    (F:∀ base:Heap,K.In base→base.Ns mainGlobals mg→FnOk P w K mg base CX k fa fd [x] sp) (hbind:∀ (s:Shared) (u:Value),BindsTo s fd ⟨[u],[]⟩ [(x,u)])
    (hsp:∀ H:Hp,Only H→SqL K H a (ns.map V.int)→sp [.ref a] H (fun v _=>v = .bl true) fun _ _ _=>False)
    (hCX:∀ H e s',CX [] H s₁ (fun _ _ _=>False) e s'→False) :
    codeAny (model P w) callerA (.call (.ref fa) ⟨[.ref a],[]⟩) (fun r s'=>r = .ok (.ret (.bool true))∧OldK s₁.heap s'.heap∧s'.os=s₁.os∧AllBare s'.gens) s₁:=by
  have rv:=vals_ints hi
  have lenV:=hi.length
  -- from an abstract heap in which nothing but the script may be tracked
  have core:∀ H:Hp,Only H→SqL K H a (ns.map V.int)→HOk P w H s₁.heap→(∀ b,H b≠none→b=a)→(H a≠none→K.lookup a=none) →
      codeAny (model P w) callerA (.call (.ref fa) ⟨[.ref a],[]⟩) (fun r s'=>r = .ok (.ret (.bool true))∧OldK s₁.heap s'.heap∧s'.os=s₁.os∧AllBare s'.gens) s₁:=by
    intro H hO hS hok hA hK
    have base_of:∀ {b:Addr} {o:Obj},s₁.heap.get? b=some o→H b=none→(hidT s₁.heap H).get? b=some o:=fun e n=>hidT_get e n
    have noA:∀ {b:Addr} {o:Obj} {es:Array DictEntry} {ep:Nat},s₁.heap.get? b=some o→o.data = .dict es ep→H b=none:=fun {b o es ep} e d=>by
      cases q:H b with
      | none=>rfl
      | some u =>
        have e':b=a:=hA b (by rw [q]; simp)
        subst e'
        rw [ha] at e; cases e
        have d':Data.seq vs.toArray _=Data.dict es ep:=d
        cases d'
    have nsK:∀ {b:Addr} {m:Str→Option Value},s₁.heap.Ns b m→(hidT s₁.heap H).Ns b m:=fun {b m} ⟨o,es,ep,e,d,r⟩=>⟨o,es,ep,base_of e (noA e d),d,r⟩
    have hKb:K.In (hidT s₁.heap H):=fun b o e=>base_of (KX b o e) (by
      cases q:H b with
      | none=>rfl
      | some u =>
        have e':b=a:=hA b (by rw [q]; simp)
        subst e'
        rw [hK (by rw [q]; simp)] at e; cases e)
    have hM:Mod K mg (hidT s₁.heap H):=⟨hKb,nsK hns,⟨mb,nsK hb,hbb⟩,let ⟨mc,h1,h2⟩:=hlim; ⟨mc,nsK h1,h2⟩⟩
    have e0:Env0 P w K mg (hidT s₁.heap H) callerA [] s₁ H:=⟨rfl,hM,fun b o e=>of_hidT e,Nat.le_of_eq (hidT_size _ _),trivial,fun b hb=>absurd (show b∈([]:List Addr) from hb) (by simp),hok,.of_eq hg⟩
    refine codeAny_mono ((F _ hKb (nsK hns)).run callerA [] s₁ H ⟨[.ref a],[]⟩ [.ref a] [.ref a] _ _ hr e0 (hbind s₁ (.ref a)) (.cons rfl .nil) (hsp H hO hS)) fun r s' h=>?_
    cases r with
    | error e=>exact (hCX H e s' h).elim
    | ok fl =>
      cases fl with
      | next=>exact False.elim h
      | brk=>exact False.elim h
      | cont=>exact False.elim h
      | ret u =>
        obtain ⟨v,H',os,bare,un,hok',r',q⟩:=h
        have q':v = .bl true:=q
        subst q'
        obtain rfl:u=Value.bool true:=r'
        refine ⟨rfl,OldK.of_keep fun b o e=>?_,os,bare⟩
        cases q:H b with
        | none=>exact un.keep b o e q (by intro z; exact absurd (show b∈([]:List Addr) from z) (by simp)) (by simp)
        | some u =>
          rcases hO b with z | ⟨ob,xs,z⟩
          · rw [q] at z; cases z
          · have z2:=un.frzs b ob _ z
            obtain ⟨e1,_⟩:=hok b _ z
            obtain ⟨e2,_⟩:=hok' b _ z2
            rw [e] at e1; cases e1
            exact e2
  cases hk:K.lookup a with
  | some o =>
    -- the script is one of the module's own objects
    have e:=KX a o hk
    rw [ha] at e
    cases e
    refine core (fun _=>none) (fun _=>.inl rfl) (.inr ⟨_,vs.toArray,_,hk,rfl,rfl,rfl,by rw [List.size_toArray,lenV]; exact hl,by simpa using rv⟩) (fun b u z=>by have z':(none:Option HO)=some u:=z; cases z') (fun b z=>absurd rfl z) fun z=>absurd rfl z
  | none =>
    refine core (fun b=>if b=a then some (.frz { cls:=.type "list",data:=.seq vs.toArray } (.lst (ns.map V.int))) else none) (fun b=>?_) (.inl (.inr ⟨{ cls:=.type "list",data:=.seq vs.toArray },if_pos rfl⟩)) (fun b u z=>?_) (fun b z=>?_) fun _=>hk
    · by_cases hb:b=a
      · exact .inr ⟨_,_,if_pos hb⟩
      · exact .inl (if_neg hb)
    · by_cases hb:b=a
      · have z':=(if_pos hb).symm.trans z
        cases z'
        subst hb
        exact ⟨ha,by rw [List.length_map]; exact hl,vs,_,rv,ha⟩
      · have z':=(if_neg hb).symm.trans z
        cases z'
    · by_cases hb:b=a
      · exact hb
      · exact absurd (if_neg hb) z
end L2

namespace L2
open PySem PySem.Spec PyProof.Rows

theorem walk_of {l:PySem.W.OpenLaw} {n k:Nat} {q:Program} {loose:List Str} {XP:(Str→Option Value)→Heap→Prop} {YP:World→Heap→Prop} {d:DefRec} {K:Params→PySem.W.Frag} {CX:World→CXT} {sp:World→Sp} {x:Str}
    (hn:l.most=some n) (hn2:n≤sizeLine) (hdf:d.params.defaults=[]) (hr:Room k callerA)
    (hY:∀ (w:World) (h:Heap),YP w h→(K w.params).In h)
    (F:∀ (w:World) (mg:Str→Option Value) (fa:Addr) (h:Heap),(K w.params).In h→h.Ns mainGlobals mg→mg d.name=some (.ref fa) →
      ∃ fd:FuncData,(∀ (s:Shared) (u:Value),BindsTo s fd ⟨[u],[]⟩ [(x,u)]) ∧
        ∀ base:Heap,(K w.params).In base→base.Ns mainGlobals mg→FnOk l.prog w (K w.params) mg base (CX w) k fa fd [x] (sp w))
    (hsp:∀ (w:World) (H:Hp) (a:Addr) (ns:List Int),ns.length≤n→Only H→SqL (K w.params) H a (ns.map V.int)→sp w [.ref a] H (fun v _=>v = .bl true) fun _ _ _=>False)
    (hCX:∀ (w:World) (H:Hp) (s:Shared) (e:Value) (s':Shared),CX w [] H s (fun _ _ _=>False) e s'→False) :
    PySem.W.WalkO q loose XP YP l.row.toRowW d [] (fun f vs=>PySem.call f vs):=by
  refine Att.attach_call hn hdf fun w s₀ s₁ mg mb fa o pm cd doc a vs ns G Y ho hd hcd hmg hobj hints hlen hg=>?_
  have KX:=hY w _ Y
  obtain ⟨fd,hb,hF⟩:=F w mg fa _ KX G.T.g hmg
  exact law_call KX G.T.g G.T.b G.T.builtins G.T.nolimit hg hobj hints (Nat.le_trans hlen hn2) hr hF hb (fun H hO hS=>hsp w H a ns hlen hO hS) fun H e s'=>hCX w H s₁ e s'
theorem walk_ofK {l:PySem.W.OpenLaw} {n k:Nat} {q:Program} {loose:List Str} {XP:(Str→Option Value)→Heap→Prop} {YP:World→Heap→Prop} {d:DefRec} {K:Params→PySem.W.Frag} {CX:CXT} {sp:PySem.W.Frag→Sp} {x:Str}
    (hn:l.most=some n) (hn2:n≤sizeLine) (hdf:d.params.defaults=[]) (hr:Room k callerA)
    (hY:∀ (w:World) (h:Heap),YP w h→(K w.params).In h)
    (F:∀ (w:World) (mg:Str→Option Value) (fa:Addr) (h:Heap),(K w.params).In h→h.Ns mainGlobals mg→mg d.name=some (.ref fa) →
      ∃ fd:FuncData,(∀ (s:Shared) (u:Value),BindsTo s fd ⟨[u],[]⟩ [(x,u)]) ∧
        ∀ base:Heap,(K w.params).In base→base.Ns mainGlobals mg→FnOk l.prog w (K w.params) mg base CX k fa fd [x] (sp (K w.params)))
    (hsp:∀ (K:PySem.W.Frag) (H:Hp) (a:Addr) (ns:List Int),ns.length≤n→Only H→SqL K H a (ns.map V.int)→sp K [.ref a] H (fun v _=>v = .bl true) fun _ _ _=>False)
    (hCX:∀ (H:Hp) (s:Shared) (e:Value) (s':Shared),CX [] H s (fun _ _ _=>False) e s'→False) :
    PySem.W.WalkO q loose XP YP l.row.toRowW d [] (fun f vs=>PySem.call f vs) :=
  walk_of (K:=K) (CX:=fun _=>CX) (sp:=fun w=>sp (K w.params)) hn hn2 hdf hr hY F (fun w H a ns h1 h2 h3=>hsp (K w.params) H a ns h1 h2 h3) fun _ H s e s'=>hCX H s e s'
end L2


namespace L2
open PySem PySem.Spec PyProof.Rows

noncomputable def defArgs (s:Stmt):Arguments:=match s with
  | .FunctionDef _ a _ _ _ _ _ _ _ _=>a
  | _=>{ posonlyargs:=[],args:=[],vararg:=none,kwonlyargs:=[],kw_defaults:=[],kwarg:=none,defaults:=[] }
noncomputable def defBody (s:Stmt):List Stmt:=match s with
  | .FunctionDef _ _ b _ _ _ _ _ _ _=>b
  | _=>[]
noncomputable def defScope (s:Stmt):Scope:=match s with
  | .FunctionDef _ _ _ _ _ _ sc _ _ _=>sc
  | _=>{ kind:=.function,names:=[],isGenerator:=false,isCoroutine:=false }

noncomputable abbrev CX0:CXT:=fun _ _ _ _ _ _=>False
noncomputable abbrev E0:XK:=fun _ _ _=>False
theorem pass0 {X:Cx}:Passes CX0 X E0:=fun _ _ _ _ _ _ _ h=>h.elim

section
variable {P:Program} {w:World} {K:PySem.W.Frag} {mg:Str→Option Value} {base:Heap}
end
section
variable {X:Cx}
end

theorem iteF {A B:Prop} (h:B):if false=true then A else B:=by
  rw [if_neg Bool.false_ne_true]
  exact h
theorem iteT {A B:Prop} (h:A):if true=true then A else B:=by
  rw [if_pos rfl]
  exact h
end L2

end
namespace RM
open Rat
noncomputable def bl (n:Nat):Nat:=n.log2+1
theorem lt_bl (n:Nat):n<2 ^ bl n:=Nat.lt_log2_self
theorem bl_le {n k:Nat} (h:n<2 ^ k) (hk:0<k):bl n≤k:=by
  unfold bl
  rcases Nat.eq_zero_or_pos n with h0 | h0
  · subst h0; rw [Nat.log2_zero]; omega
  · have:=(Nat.log2_lt (Nat.pos_iff_ne_zero.mp h0)).mpr h
    omega
theorem bl_pos (n:Nat):0<bl n:=Nat.succ_pos _
theorem bl_mono {m n:Nat} (h:m≤n):bl m≤bl n:=bl_le (Nat.lt_of_le_of_lt h (lt_bl n)) (bl_pos n)
theorem bl_mul (m n:Nat):bl (m*n)≤bl m+bl n:=by
  refine bl_le ?_ (Nat.add_pos_left (bl_pos m) _)
  rw [Nat.pow_add]
  exact Nat.mul_lt_mul'' (lt_bl m) (lt_bl n)
theorem bl_add (m n:Nat):bl (m+n)≤max (bl m) (bl n)+1:=by
  refine bl_le ?_ (Nat.succ_pos _)
  have h1:=lt_bl m
  have h2:=lt_bl n
  have e1:2 ^ bl m≤2 ^ max (bl m) (bl n):=Nat.pow_le_pow_right (by decide) (Nat.le_max_left _ _)
  have e2:2 ^ bl n≤2 ^ max (bl m) (bl n):=Nat.pow_le_pow_right (by decide) (Nat.le_max_right _ _)
  rw [Nat.pow_succ]
  omega
noncomputable def sz (q:Rat):Nat:=max (bl q.num.natAbs) (bl q.den)
theorem sz_num (q:Rat):bl q.num.natAbs≤sz q:=Nat.le_max_left _ _
theorem sz_den (q:Rat):bl q.den≤sz q:=Nat.le_max_right _ _
theorem sz_le {q:Rat} {n:Nat} (h1:bl q.num.natAbs≤n) (h2:bl q.den≤n):sz q≤n:=Nat.max_le.mpr ⟨h1,h2⟩
theorem num_le (a b:Int):(divInt a b).num.natAbs≤a.natAbs:=by
  rw [num_divInt]
  rcases Int.lt_trichotomy b 0 with h | h | h
  · rw [Int.sign_eq_neg_one_of_neg h]
    refine Nat.le_trans (Int.natAbs_ediv_le_natAbs _ _) ?_
    simp
  · subst h; simp
  · rw [Int.sign_eq_one_of_pos h,Int.one_mul]
    exact Int.natAbs_ediv_le_natAbs _ _
theorem den_le (a b:Int) (hb:b≠0):(divInt a b).den≤b.natAbs:=by
  rw [den_divInt,if_neg hb]
  exact Nat.div_le_self _ _
theorem sz_divInt (a b:Int) (hb:b≠0):sz (divInt a b)≤max (bl a.natAbs) (bl b.natAbs) :=
  sz_le (Nat.le_trans (bl_mono (num_le a b)) (Nat.le_max_left _ _)) (Nat.le_trans (bl_mono (den_le a b hb)) (Nat.le_max_right _ _))
theorem den_ne (q:Rat):(q.den:Int)≠0:=by have:=q.den_nz; omega
theorem add_eq (q r:Rat):q+r=divInt (q.num*r.den+r.num*q.den) (q.den*r.den):=by
  conv=>lhs; rw [← num_divInt_den q,← num_divInt_den r]
  rw [divInt_add_divInt _ _ (den_ne q) (den_ne r)]
theorem mul_eq (q r:Rat):q*r=divInt (q.num*r.num) (q.den*r.den):=by
  conv=>lhs; rw [← num_divInt_den q,← num_divInt_den r]
  rw [divInt_mul_divInt]
theorem div_eq (q r:Rat):q / r=divInt (q.num*r.den) (q.den*r.num):=by
  rw [div_def]
  conv=>lhs; rw [← num_divInt_den q,← num_divInt_den r]
  rw [inv_divInt,divInt_mul_divInt]
theorem natAbs_add_le' (a b:Int):(a+b).natAbs≤a.natAbs+b.natAbs:=Int.natAbs_add_le a b
theorem sz_add (q r:Rat):sz (q+r)≤sz q+sz r+1:=by
  rw [add_eq]
  have hb:((q.den:Int)*(r.den:Int))≠0:=Int.mul_ne_zero (den_ne q) (den_ne r)
  refine Nat.le_trans (sz_divInt _ _ hb) (Nat.max_le.mpr ⟨?_,?_⟩)
  · refine Nat.le_trans (bl_mono (natAbs_add_le' _ _)) (Nat.le_trans (bl_add _ _) ?_)
    rw [Int.natAbs_mul,Int.natAbs_mul]
    have h1:=bl_mul q.num.natAbs (r.den:Int).natAbs
    have h2:=bl_mul r.num.natAbs (q.den:Int).natAbs
    have a1:=sz_num q
    have a2:=sz_num r
    have a3:=sz_den q
    have a4:=sz_den r
    simp only [Int.natAbs_natCast] at h1 h2 ⊢
    omega
  · rw [Int.natAbs_mul]
    have h1:=bl_mul (q.den:Int).natAbs (r.den:Int).natAbs
    have a3:=sz_den q
    have a4:=sz_den r
    simp only [Int.natAbs_natCast] at h1 ⊢
    omega
theorem sz_mul (q r:Rat):sz (q*r)≤sz q+sz r:=by
  rw [mul_eq]
  have hb:((q.den:Int)*(r.den:Int))≠0:=Int.mul_ne_zero (den_ne q) (den_ne r)
  refine Nat.le_trans (sz_divInt _ _ hb) (Nat.max_le.mpr ⟨?_,?_⟩)
  · rw [Int.natAbs_mul]
    have h1:=bl_mul q.num.natAbs r.num.natAbs
    have a1:=sz_num q
    have a2:=sz_num r
    omega
  · rw [Int.natAbs_mul]
    have h1:=bl_mul (q.den:Int).natAbs (r.den:Int).natAbs
    have a3:=sz_den q
    have a4:=sz_den r
    simp only [Int.natAbs_natCast] at h1 ⊢
    omega
theorem sz_neg (q:Rat):sz (-q)=sz q:=by
  unfold sz
  rw [Rat.neg_num,Rat.neg_den,Int.natAbs_neg]
theorem sz_sub (q r:Rat):sz (q - r)≤sz q+sz r+1:=by
  rw [Rat.sub_eq_add_neg]
  have:=sz_add q (-r)
  rw [sz_neg] at this
  exact this
theorem sz_div (q r:Rat) (hr:r≠0):sz (q / r)≤sz q+sz r:=by
  rw [div_eq]
  have hn:r.num≠0:=fun h=>hr (Rat.num_eq_zero.mp h)
  have hb:((q.den:Int)*r.num)≠0:=Int.mul_ne_zero (den_ne q) hn
  refine Nat.le_trans (sz_divInt _ _ hb) (Nat.max_le.mpr ⟨?_,?_⟩)
  · rw [Int.natAbs_mul]
    have h1:=bl_mul q.num.natAbs (r.den:Int).natAbs
    have a1:=sz_num q
    have a4:=sz_den r
    simp only [Int.natAbs_natCast] at h1 ⊢
    omega
  · rw [Int.natAbs_mul]
    have h1:=bl_mul (q.den:Int).natAbs r.num.natAbs
    have a3:=sz_den q
    have a2:=sz_num r
    simp only [Int.natAbs_natCast] at h1 ⊢
    omega
theorem sz_zero:sz 0=1:=by decide
theorem sz_one:sz 1=1:=by decide
theorem gcd_step (a b:Nat) (h:b≠0):Nat.gcd a b=Nat.gcd b (a % b):=by
  rw [Nat.gcd_comm,Nat.gcd_rec,Nat.gcd_comm]
theorem fdiv_exact {a g:Int} (h:g ∣ a):a.fdiv g=a / g:=by
  obtain ⟨c,rfl⟩:=h
  by_cases hg:g=0
  · subst hg; simp
  · rw [Int.mul_fdiv_cancel_left _ hg,Int.mul_ediv_cancel_left _ hg]
theorem low_eq (a b:Int) (hb:b≠0) (share:Int) (hs:share=if b<0 then -((Nat.gcd a.natAbs b.natAbs:Nat):Int) else ((Nat.gcd a.natAbs b.natAbs:Nat):Int)) :
    a.fdiv share=(divInt a b).num∧b.fdiv share=((divInt a b).den:Int):=by
  have hg:Nat.gcd a.natAbs b.natAbs=Int.gcd b a:=by unfold Int.gcd; exact Nat.gcd_comm _ _
  have da:((Int.gcd b a:Nat):Int) ∣ a:=Int.gcd_dvd_right b a
  have db:((Int.gcd b a:Nat):Int) ∣ b:=Int.gcd_dvd_left b a
  rw [hg] at hs
  rw [num_divInt,den_divInt,if_neg hb]
  by_cases h:b<0
  · rw [if_pos h] at hs
    subst hs
    rw [fdiv_exact (Int.neg_dvd.mpr da),fdiv_exact (Int.neg_dvd.mpr db),Int.sign_eq_neg_one_of_neg h]
    refine ⟨?_,?_⟩
    · rw [Int.ediv_neg,Int.neg_one_mul,Int.neg_ediv_of_dvd da]
    · rw [Int.ediv_neg,← Int.neg_ediv_of_dvd db]
      have e:-b=((b.natAbs:Nat):Int):=by omega
      rw [e]
      norm_cast
  · rw [if_neg h] at hs
    subst hs
    have hp:0<b:=by omega
    rw [fdiv_exact da,fdiv_exact db,Int.sign_eq_one_of_pos hp,Int.one_mul]
    refine ⟨rfl,?_⟩
    have e:b=((b.natAbs:Nat):Int):=by omega
    conv=>lhs; rw [e]
    norm_cast
theorem lt_eq (q r:Rat):decide (q.num*(r.den:Int)<r.num*(q.den:Int))=decide (q<r):=by
  by_cases h:q<r
  · rw [decide_eq_true h,decide_eq_true ((Rat.lt_iff q r).mp h)]
  · rw [decide_eq_false h,decide_eq_false (fun z=>h ((Rat.lt_iff q r).mpr z))]
end RM

namespace L2
open PySem PySem.Spec PyProof.Rows
section
variable {prog:Program} {w:World} {A:Around} {R:Result→Shared→Prop} {s:Shared}
noncomputable def testsOf (ifs:List Expr) (env:Env):Sem Bool:=forIn ifs true fun c r=>if r=true then do let ok ← isTrue c env (eval c env); pure (ForInStep.yield ok) else pure (ForInStep.yield r)
theorem compLoop_goT {elt target iter:Expr} {ifs:List Expr} {scope:Scope} {pos:Pos} {it acc:Value} {env:Env} (I:Nat→Shared→Prop)
    (turn:∀ n s,I n s→wpAny (model prog w) A (pyNext it) (fun r s₁=>match r with
      | none=>R (.ok .next) s₁
      | some v=>wpAny (model prog w) A (letOwnedTupleGo target it v) (fun _ s₁'=>wpAny (model prog w) A (assign target env v) (fun _ s₂=>wpAny (model prog w) A (testsOf ifs env) (fun ok s₂'=>if ok=true then wpAny (model prog w) A (eval elt env) (fun x s₃ =>
          wpAny (model prog w) A (call (.builtin "list.append") [acc,x]) (fun _ s₄=>∃ m,m<n∧I m s₄) (notedBy (model prog w) A env fun e s'=>R (.error e) s') s₃)
          (notedBy (model prog w) A env fun e s'=>R (.error e) s') s₂' else ∃ m,m<n∧I m s₂') (notedBy (model prog w) A env fun e s'=>R (.error e) s') s₂) (notedBy (model prog w) A env fun e s'=>R (.error e) s') s₁') (notedBy (model prog w) A env fun e s'=>R (.error e) s') s₁) (notedBy (model prog w) A env fun e s'=>R (.error e) s') s)
    (n:Nat) (h:I n s) :
    codeAny (model prog w) A (.compLoop (.ListComp elt [⟨target,iter,ifs,0⟩] scope pos) 0 it acc env) R s:=by
  refine codeAny_loop rfl I (fun n s hI=>?_) n h
  show wpAny _ _ ((compTurn (.ListComp elt [⟨target,iter,ifs,0⟩] scope pos) 0 it acc env).onRaise (fun x=>do noteFrame x env; theTreesLotGoes x)) _ _ s
  refine wpAny_noted ?_
  rw [compTurn_list]
  refine wpAny_bind (wpAny_standAt (wpAny_bind (wpAny_mono (turn n s hI) (fun r s₁ h₁=>?_) fun _ _ h'=>h')))
  cases r with
  | none=>exact wpAny_pure h₁
  | some v =>
    refine wpAny_bind (wpAny_mono h₁ (fun _ s₁' h₁'=>?_) fun _ _ h'=>h')
    refine wpAny_bind (wpAny_mono h₁' (fun _ s₂ h₂=>wpAny_bind (wpAny_mono h₂ (fun ok s₂' h₃=>?_) fun _ _ h'=>h')) fun _ _ h'=>h')
    cases ok with
    | true =>
      refine wpAny_bind (wpAny_bind (wpAny_mono h₃ (fun x s₃ h₄=>wpAny_bind (wpAny_mono h₄ (fun _ s₄ h₅=>wpAny_pure (wpAny_pure ⟨rfl,h₅⟩)) fun _ _ h'=>h')) fun _ _ h'=>h'))
    | false=>exact wpAny_bind (wpAny_pure (wpAny_pure ⟨rfl,h₃⟩))
end
noncomputable def PIfs (X:Cx) (ifs:List Expr) (t:TT):Prop :=
  ∀ (pins:List (Addr × Obj)) (s:Shared) (σ:St) (H:Hp) (Q:Bool→Hp→Prop),Inv X pins σ H s→t σ H Q→wpAny (model X.prog X.w) X.A (testsOf ifs X.env) (TP X pins σ Q) X.xe s
noncomputable def tYes:TT:=fun _ H Q=>Q true H
theorem pifs_nil {X:Cx}:PIfs X [] tYes:=fun pins s σ H Q I q=>wpAny_pure ⟨H,I,q⟩
theorem pifs_one {X:Cx} {c:Expr} {t:TT} (h:PT X c t):PIfs X [c] t:=fun pins s σ H Q I q=>wpAny_tests_one (h pins s σ H Q I q)
end L2
namespace L2
open PySem PySem.Spec PyProof.Rows
noncomputable def clFor (cells:List (Str × Addr)):List (Str × NameKind)→List (Str × Addr)→List (Str × Addr)
  | [],acc=>acc
  | (n,k) :: r,acc=>if k == .free then clFor cells r ((n,(cells.lookup n).getD 0) :: acc) else clFor cells r acc
theorem closure_go {env:Env}:∀ (names:List (Str × NameKind)) (acc:List (Str × Addr)),(∀ n,(n,NameKind.free)∈names→∃ c,env.cells.lookup n=some c) →
    (forIn names acc (fun (x:Str × NameKind) (cs:List (Str × Addr))=>if (x.2 == NameKind.free)=true then (do let a ← cellOf env x.1; pure (ForInStep.yield ((x.1,a) :: cs))) else pure (ForInStep.yield cs)):Sem (List (Str × Addr)))=pure (clFor env.cells names acc)
  | [],acc,_=>rfl
  | (n,k) :: r,acc,h=>by
    rw [List.forIn_cons]
    unfold clFor
    by_cases hk:(k == NameKind.free)=true
    · have e:k = .free:=by cases k <;> first | rfl | (exact absurd hk (by decide))
      subst e
      obtain ⟨c,hc⟩:=h n List.mem_cons_self
      rw [if_pos hk,if_pos hk]
      have e1:cellOf env n=pure c:=by unfold cellOf; rw [hc]
      rw [e1,pure_bind,pure_bind,hc]
      exact closure_go r _ fun m hm=>h m (List.mem_cons_of_mem _ hm)
    · rw [if_neg hk,if_neg hk,pure_bind]
      exact closure_go r _ fun m hm=>h m (List.mem_cons_of_mem _ hm)
theorem closure_for {scope:Scope} {env:Env} (h:∀ n,(n,NameKind.free)∈scope.names→∃ c,env.cells.lookup n=some c):closureFor scope env=pure (clFor env.cells scope.names []):=by
  have:=closure_go (env:=env) scope.names [] h
  unfold closureFor
  first
    | (simp only [] at this ⊢; rw [← this]; simp only [bind_pure]; rfl)
    | (rw [← this]; rfl)
    | (simp only [bind_pure,pure_bind]; exact this)
theorem clFor_some {cells:List (Str × Addr)} {x:Str} {c:Addr}:∀ (names:List (Str × NameKind)) (acc:List (Str × Addr)),(∀ n,(n,NameKind.free)∈names→∃ c,cells.lookup n=some c)→(∀ y d,acc.lookup y=some d→cells.lookup y=some d)→(clFor cells names acc).lookup x=some c→cells.lookup x=some c
  | [],acc,_,ha,h=>ha x c h
  | (n,k) :: r,acc,hn,ha,h=>by
    unfold clFor at h
    by_cases hk:(k == NameKind.free)=true
    · rw [if_pos hk] at h
      have e:k = .free:=by cases k <;> first | rfl | (exact absurd hk (by decide))
      subst e
      obtain ⟨d,hd⟩:=hn n List.mem_cons_self
      refine clFor_some r _ (fun m hm=>hn m (List.mem_cons_of_mem _ hm)) (fun y e hy=>?_) h
      rw [List.lookup_cons] at hy
      split at hy
      · rename_i hz
        have hz':y=n:=by simpa using hz
        subst hz'
        rw [hd] at hy ⊢
        cases hy; rfl
      · exact ha y e hy
    · rw [if_neg hk] at h
      exact clFor_some r _ (fun m hm=>hn m (List.mem_cons_of_mem _ hm)) ha h
theorem clFor_has {cells:List (Str × Addr)} {x:Str}:∀ (names:List (Str × NameKind)) (acc:List (Str × Addr)),((x,NameKind.free)∈names ∨ ∃ c,acc.lookup x=some c)→∃ c,(clFor cells names acc).lookup x=some c
  | [],acc,h=>by
    rcases h with h | h
    · cases h
    · exact h
  | (n,k) :: r,acc,h=>by
    unfold clFor
    by_cases hk:(k == NameKind.free)=true
    · rw [if_pos hk]
      refine clFor_has r _ ?_
      by_cases hx:x=n
      · right; rw [List.lookup_cons]; simp [hx]
      · rcases h with h | ⟨c,h⟩
        · rcases List.mem_cons.mp h with z | z
          · injection z with z1 _; exact absurd z1 hx
          · exact .inl z
        · right
          refine ⟨c,?_⟩
          rw [List.lookup_cons]
          have:(x == n)=false:=by simpa using hx
          rw [this]; exact h
    · rw [if_neg hk]
      refine clFor_has r _ ?_
      rcases h with h | h
      · rcases List.mem_cons.mp h with z | z
        · injection z with _ z2
          subst z2
          exact absurd rfl hk
        · exact .inl z
      · exact .inr h
theorem relabel_mem {scope:Scope} {env:Env} {x:Str} {k:NameKind} (h:(relabel scope env).names.lookup x=some k) (hk:k = .cell∨k = .free) (hcell:∀ y∈scope.names,y.2 ≠ .cell):(x,NameKind.free)∈scope.names:=by
  have go:∀ (l:List (Str × NameKind)),(∀ y∈l,y.2 ≠ .cell)→(l.map fun (n,k)=>if (k == NameKind.free && env.scope.kind == .function && env.kindOf n == some .cell)=true then (n,NameKind.cell) else (n,k)).lookup x=some k→(x,NameKind.free)∈l:=by
    intro l
    induction l with
    | nil=>intro _ h; cases h
    | cons p r ih =>
      intro hl h
      obtain ⟨n,j⟩:=p
      rw [List.map_cons,List.lookup_cons] at h
      by_cases hj:j = .free
      · subst hj
        by_cases hx:x=n
        · subst hx; exact List.mem_cons_self
        · refine List.mem_cons_of_mem _ (ih (fun y hy=>hl y (List.mem_cons_of_mem _ hy)) ?_)
          have e:∀ b:Bool,(x == (if b=true then (n,NameKind.cell) else (n,NameKind.free)).1)=false:=fun b=>by cases b <;> simpa using hx
          dsimp only at h
          rw [e] at h
          exact h
      · have e:(j == NameKind.free)=false:=by simpa using hj
        have hc:=hl (n,j) List.mem_cons_self
        dsimp only at h
        rw [e] at h
        simp only [Bool.false_and,Bool.false_eq_true,if_false] at h
        by_cases hx:x=n
        · have:(x == n)=true:=by simpa using hx
          rw [this] at h
          have h':j=k:=by simpa using h
          subst h'
          rcases hk with z | z
          · exact absurd z hc
          · exact absurd z hj
        · have:(x == n)=false:=by simpa using hx
          rw [this] at h
          exact List.mem_cons_of_mem _ (ih (fun y hy=>hl y (List.mem_cons_of_mem _ hy)) h)
  exact go scope.names hcell h
noncomputable def cxF (X:Cx) (scope:Scope) (cl:List (Str × Addr)) (N':List Str) (s3:Shared) (H3:Hp) (C:Addr) (fp:List Addr) (pins:List (Addr × Obj)):Cx :=
  { X with N:=N',s₀:=s3,H₀:=H3,env:=compEnvC scope cl C X.env,outer:=X.stack,ex:=fp,fn:=fun _=>false,pn:=X.pn++pins,xe:=fun _ _=>False }
noncomputable def capF (n:Nat) (caps:List Nat) (σ:St):St:=List.replicate n none++caps.map fun i=>(σ[i]?).getD none
noncomputable def tCompF (n:Nat) (caps:List Nat) (wi:TI) (g:TG) (tc:TT) (te:TE):TE:=fun σ H Q=>wi σ H fun J H1=>∀ D,H1 D=none→∃ W:Nat→Nat→Hp→Prop,(∃ m,W 0 m (upd H1 D (.lst [])))∧∀ i m H,W i m H →
  (J.stop i H∧Q (.ref D) H)∨(J.go i H∧∀ x H',J.yld i H x H'→g x (capF n caps σ) H' fun σ2 H2=>tc σ2 H2 fun b H2'=>if b=true then te σ2 H2' fun v H3=>∃ ys,H3 D=some (.lst ys)∧ys.length<sizeLine∧∃ m',m'<m∧W (i+1) m' (upd H3 D (.lst (ys++[v]))) else ∃ m',m'<m∧W (i+1) m' H2')
section
variable {X:Cx} {elt tg iter:Expr} {scope:Scope} {cl:List (Str × Addr)} {tgs cps:List Str} {caps:List Nat} {wi:TI} {g:TG} {tc:TT} {te:TE} {pos:Pos} {ifs:List Expr}
noncomputable def CapOk (s3:Shared) (H3:Hp) (fp:List Addr) (cl:List (Str × Addr)) (x:Str) (v:V):Prop :=
  ∃ (u:Value) (c:Addr) (o:Obj),RelV v u∧cl.lookup x=some c∧s3.heap.get? c=some o∧o.data = .cell (some u)∧H3 c=none∧c∉fp
theorem Inv.reset {pins pins':List (Addr × Obj)} {σ0 σ':St} {H3 H':Hp} {s3 s':Shared} {fp:List Addr} {C:Addr} (I:Inv (cxF X scope cl (tgs++cps) s3 H3 C fp pins) pins' σ' H' s')
    (hsc:∀ x∈cps,(relabel scope X.env).names.lookup x=some .cell∨(relabel scope X.env).names.lookup x=some .free) (hl:caps.length=cps.length)
    (hc:∀ (j:Nat) (x:Str) (v:V),cps[j]? = some x→(caps.map fun i=>(σ0[i]?).getD none)[j]? = some (some v)→CapOk s3 H3 fp cl x v) :
    Inv (cxF X scope cl (tgs++cps) s3 H3 C fp pins) pins' (capF tgs.length caps σ0) H' s':=by
  obtain ⟨m,hn,_⟩:=I.loc
  refine ⟨I.ok,I.os,I.bare,I.base,⟨m,hn,fun i x v e1 e2 e3=>?_⟩,I.cell,I.free,I.freeC,I.pin,I.hok,by simp [capF,cxF,hl]⟩
  have e1:(tgs++cps)[i]? = some x:=e1
  unfold capF at e2
  rw [List.getElem?_append] at e1 e2
  rw [List.length_replicate] at e2
  by_cases hi:i<tgs.length
  · rw [if_pos hi] at e2
    rw [List.getElem?_replicate] at e2
    split at e2 <;> cases e2
  · rw [if_neg hi] at e1 e2
    obtain ⟨u,c,o,r,h1,h2,h3,h4,h5⟩:=hc (i - tgs.length) x v e1 e2
    obtain ⟨sl,k⟩:=I.base.any h2 h4 h5
    refine ⟨u,r,.inr ⟨?_,c,h1,_,k,h3⟩⟩
    rcases hsc x (List.mem_of_getElem? e1) with z | z
    · exact .inl z
    · exact .inr z
theorem compF_block {pins:List (Addr × Obj)} {σ0:St} {σ:St} {H3:Hp} {s3:Shared} {fp:List Addr} {it D C:Addr} {tn:Nat→Heap→Prop} {J:It} {h₁:Heap} {tk:Nat} {m:Str→Option Value} {R:Result→Shared→Prop} {Qd:Hp→Prop}
    (hc:X.calm=true) (hcell:∀ x∈scope.names,x.2 ≠ .cell) (hkind:scope.kind = .function)
    (hcl:∀ x c,cl.lookup x=some c→X.env.cells.lookup x=some c) (hhas:∀ x,(x,NameKind.free)∈scope.names→∃ c,cl.lookup x=some c)
    (hsc:∀ x∈cps,(relabel scope X.env).names.lookup x=some .cell∨(relabel scope X.env).names.lookup x=some .free) (hl:caps.length=cps.length)
    (hcap:∀ (j:Nat) (x:Str) (v:V),cps[j]? = some x→(caps.map fun i=>(σ0[i]?).getD none)[j]? = some (some v)→CapOk s3 H3 fp cl x v)
    (hg:∀ cl s3 H3 C fp pins,PG (cxF X scope cl (tgs++cps) s3 H3 C fp pins) tg g) (hq:∀ cl s3 H3 C fp pins,PIfs (cxF X scope cl (tgs++cps) s3 H3 C fp pins) ifs tc) (he:∀ cl s3 H3 C fp pins,PE (cxF X scope cl (tgs++cps) s3 H3 C fp pins) elt te)
    (I3:Inv X pins σ H3 s3) (T:Turn X.prog X.w X.K tg J fp it tn) (st3:tn 0 s3.heap) (f3:∀ b∈fp,FpOk X pins H3 b) (hC:C=s3.heap.objs.size) (hn:h₁.Ns C m) (hk:∀ b o,s3.heap.get? b=some o→h₁.get? b=some o)
    (W:Nat→Nat→Hp→Prop) (m0:Nat) (w0:W 0 m0 H3)
    (turn:∀ i m H,W i m H→(J.stop i H∧Qd H)∨(J.go i H∧∀ x H',J.yld i H x H'→g x (capF tgs.length caps σ0) H' fun σ2 H2=>tc σ2 H2 fun b H2'=>if b=true then te σ2 H2' fun v H3=>∃ ys,H3 D=some (.lst ys)∧ys.length<sizeLine∧∃ m',m'<m∧W (i+1) m' (upd H3 D (.lst (ys++[v]))) else ∃ m',m'<m∧W (i+1) m' H2'))
    (hR:∀ s' H' σ',Inv (cxF X scope cl (tgs++cps) s3 H3 C fp pins) [] σ' H' s'→Qd H'→R (.ok .next) s') :
    codeAny (model X.prog X.w) X.A (.compStart (.ListComp elt [⟨tg,iter,ifs,0⟩] scope pos) 0 (.ref it) (.ref D) (compEnvC scope cl C X.env)) R { s3 with heap:=h₁,toks:=tk }:=by
  have lt3:∀ b∈fp,b<s3.heap.objs.size:=fun b hb=>by
    obtain ⟨o,e,_⟩:=T.obj 0 _ st3 b hb
    exact Heap.lt_size e
  have ok':(cxF X scope cl (tgs++cps) s3 H3 C fp pins).Ok:={
    mod:=I3.ok.mod
    kind:=hkind
    glob:=I3.ok.glob
    blt:=I3.ok.blt
    above:=Nat.le_of_eq hC.symm
    inj:=fun x y c e e'=>I3.ok.inj x y c (hcl x c e) (hcl y c e')
    has:=fun x h=>by
      rcases h with h | h
      · exact hhas x (relabel_mem h (.inl rfl) hcell)
      · exact hhas x (relabel_mem h (.inr rfl) hcell)
    cab:=fun x c h=>by cases h
    hd:=fun _=>I3.ok.hd hc
    frames:=I3.ok.frames
    stk:=.inl rfl
    exf:=fun b hb=>⟨fun z=>by
      have z':b=C:=z
      have h1:=lt3 b hb
      rw [z',hC] at h1
      exact Nat.lt_irrefl _ h1,fun x c e=>(f3 b hb).2.2.2.2.1 x c (hcl x c e)⟩
    bs:=fun b o e=>I3.bs b o e
    bsz:=Nat.le_trans I3.ok.bsz I3.sz
    noex:=fun b o e hb=>by
      obtain ⟨_,_,_,q,_⟩:=f3 b hb
      rcases q with q | q
      · exact I3.ok.noex b o e q
      · have h1:=Heap.lt_size e
        exact absurd (Nat.lt_of_lt_of_le (Nat.lt_of_lt_of_le h1 I3.ok.bsz) q) (Nat.lt_irrefl _)
    exfs:=fun b hb z=>by
      obtain ⟨_,q1,q2,_⟩:=f3 b hb
      rcases List.mem_cons.mp (I3.stkSub b z) with y | y
      · exact q1 y
      · exact q2 y
    funs:=I3.stack
    frf:=I3.stkFree }
  have J0:Inv (cxF X scope cl (tgs++cps) s3 H3 C fp pins) [] (List.replicate (tgs++cps).length none) H3 { s3 with heap:=h₁,toks:=tk }:={
    ok:=ok'
    os:=rfl
    bare:=I3.bare
    base:=Un.kept hk
    loc:=⟨m,hn,fun i x v _ e _=>by
      rw [List.getElem?_replicate] at e
      split at e <;> cases e⟩
    cell:=fun x c e=>by
      obtain ⟨v,o,ho,hd⟩:=I3.cell x c (hcl x c e)
      exact ⟨v,o,hk c o ho,hd⟩
    free:=I3.hok.fresh (Nat.le_of_eq hC.symm)
    freeC:=fun x c e=>I3.freeC x c (hcl x c e)
    pin:=fun p hp=>by
      have hp':p∈X.pn++pins:=by simpa [cxF] using hp
      obtain ⟨a1,a2,a3,a4,a5⟩:=I3.pin p hp'
      refine ⟨hk _ _ a1,a2,fun z=>?_,fun z=>?_,a5⟩
      · have z':p.1=C:=z
        have h1:=Heap.lt_size a1
        rw [z',hC] at h1
        exact Nat.lt_irrefl _ h1
      · rcases List.mem_cons.mp (I3.stkSub _ z) with y | y
        · exact a3 y
        · exact a4 y
    hok:=I3.hok.kept hk
    len:=by simp [cxF] }
  have stat:∀ {H':Hp},(∀ b∈fp,H' b=none)→∀ b∈fp,FpOk (cxF X scope cl (tgs++cps) s3 H3 C fp pins) [] H' b:=fun hn b hb=>by
    obtain ⟨_,_,_,_,_,q⟩:=f3 b hb
    exact ⟨hn b hb,(ok'.exf b hb).1,ok'.exfs b hb,.inl hb,(ok'.exf b hb).2,fun p hp=>q p (by simpa [cxF] using hp)⟩
  have loop:codeAny (model X.prog X.w) X.A (.compLoop (.ListComp elt [⟨tg,iter,ifs,0⟩] scope pos) 0 (.ref it) (.ref D) (compEnvC scope cl C X.env)) R { s3 with heap:=h₁,toks:=tk }:=by
    refine compLoop_goT (fun n s'=>∃ i σ' H',Inv (cxF X scope cl (tgs++cps) s3 H3 C fp pins) [] σ' H' s'∧tn i s'.heap∧(∀ b∈fp,H' b=none)∧W i n H') ?_ m0
      ⟨0,_,H3,J0,T.keep _ _ _ st3 fun b hb o e=>hk b o e,fun b hb=>(f3 b hb).1,w0⟩
    rintro n s4 ⟨i,σ4,H4,I4,st4,fr4,w4⟩
    rcases turn i n H4 w4 with ⟨stop,qn⟩ | ⟨go,step⟩
    · refine thn (T.done (cxF X scope cl (tgs++cps) s3 H3 C fp pins) rfl rfl rfl hc i [] s4 σ4 H4 _ I4 (stat fr4) st4 stop) fun r s5 zz=>?_
      obtain ⟨hr,I5⟩:=zz
      subst hr
      exact hR s5 H4 σ4 I5 qn
    · refine thn (T.item (cxF X scope cl (tgs++cps) s3 H3 C fp pins) rfl rfl rfl hc i [] s4 σ4 H4 _ I4 (stat fr4) st4 go) fun r s5 zz=>?_
      obtain ⟨u,hr,h5⟩:=zz
      subst hr
      refine thn h5 fun _ s6 zz=>?_
      obtain ⟨x,H6,I6,r6,y6,st6,fr6⟩:=zz
      have I6w:=I6.reset hsc hl hcap
      have I6':=I6w.pinned (stat fr6) (T.obj _ _ st6)
      refine wpAny_mono (hg cl s3 H3 C fp pins _ s6 _ H6 x u _ I6' r6 (step x H6 y6)) (fun _ s7 ⟨σ7,H7,I7,q7⟩=>?_) fun _ _ z=>z.elim
      refine wpAny_mono (hq cl s3 H3 C fp pins _ s7 σ7 H7 _ I7 q7) (fun b s7' ⟨H7',I7',q7'⟩=>?_) fun _ _ z=>z.elim
      cases b with
      | false =>
        obtain ⟨m',hm,w8⟩:=q7'
        refine ⟨m',hm,i+1,σ7,H7',I7'.unpinned,T.keep _ _ _ st6 fun b hb o e=>(I7'.pin (b,o) (List.mem_append_right _ (List.mem_append_right _ (mem_pinsAt hb e)))).1,fun b hb=>?_,w8⟩
        obtain ⟨o,e,d⟩:=T.obj _ _ st6 b hb
        exact (I7'.pin (b,o) (List.mem_append_right _ (List.mem_append_right _ (mem_pinsAt hb e)))).2.1
      | true =>
        refine wpAny_mono (he cl s3 H3 C fp pins _ s7' σ7 H7' _ I7' q7') (fun v s8 ⟨y,H8,I8,r8,q8⟩=>?_) fun _ _ z=>z.elim
        obtain ⟨ys,hy,hz,m',hm,w8⟩:=q8
        refine wpAny_mono (mt_append (X:=cxF X scope cl (tgs++cps) s3 H3 C fp pins) _ s8 σ7 H8 (.ref D) [y] (.ref D) [v] (fun _ H9=>W (i+1) m' H9) I8 rfl (.cons r8 .nil) ⟨D,ys,y,rfl,rfl,hy,hz,w8⟩) (fun _ s9 ⟨_,H9,I9,_,w9⟩=>?_) fun _ _ z=>z.elim
        refine ⟨m',hm,i+1,σ7,H9,I9.unpinned,T.keep _ _ _ st6 fun b hb o e=>(I9.pin (b,o) (List.mem_append_right _ (List.mem_append_right _ (mem_pinsAt hb e)))).1,fun b hb=>?_,w9⟩
        obtain ⟨o,e,d⟩:=T.obj _ _ st6 b hb
        exact (I9.pin (b,o) (List.mem_append_right _ (List.mem_append_right _ (mem_pinsAt hb e)))).2.1
  exact codeAny_compStart_list loop (T.self _ 0 _ _ _ (T.keep _ _ _ st3 fun b hb o e=>hk b o e) loop)
theorem compF_gen (hc:X.calm=true) (hcell:∀ x∈scope.names,x.2 ≠ .cell) (hkind:scope.kind = .function) (hnames:∀ x∈scope.names,x.2 = .local→scope.names.lookup x.1=some .local)
    (hfr:∀ x∈scope.names,x.2 = .free→x.1∈cps) (hN:caps.map (fun i=>X.N[i]?)=cps.map some) (hX:∀ x∈cps,X.env.scope.names.lookup x=some .cell∧scope.names.lookup x=some .free)
    (hsc:∀ x∈cps,(relabel scope X.env).names.lookup x=some .cell∨(relabel scope X.env).names.lookup x=some .free)
    (hi:PI X tg iter wi) (hg:∀ cl s3 H3 C fp pins,PG (cxF X scope cl (tgs++cps) s3 H3 C fp pins) tg g) (hq:∀ cl s3 H3 C fp pins,PIfs (cxF X scope cl (tgs++cps) s3 H3 C fp pins) ifs tc) (he:∀ cl s3 H3 C fp pins,PE (cxF X scope cl (tgs++cps) s3 H3 C fp pins) elt te)
    (hs:∀ x,foldedSetIterable iter X.env x=pure x) {use:Option (Value→Sem Unit)} {Qf:Value→Shared→Prop} {pins:List (Addr × Obj)} {s:Shared} {σ:St} {H:Hp} {Q:VK} (I:Inv X pins σ H s) (h:tCompF tgs.length caps wi g tc te σ H Q)
    (hU:∀ (D C:Addr) (s':Shared) (H4:Hp) (m4:Str→Option Value),s'.heap.Ns C m4→FpOk X pins H4 C→(∀ h',Heap.SameBut C s'.heap h'→Inv X pins σ H4 { s' with heap:=h' })→Q (.ref D) H4→compPost (model X.prog X.w) X.A X.xe use Qf (.ref D) C (.ok .next) s') :
    wpAny (model X.prog X.w) X.A (comprehension (.ListComp elt [⟨tg,iter,ifs,0⟩] scope pos) scope X.env (firstIterPos [⟨tg,iter,ifs,0⟩] pos) (newList []) false (eval iter X.env) use) Qf X.xe s:=by
  have hl:caps.length=cps.length:=by
    have:=congrArg List.length hN
    simpa using this
  have hcells:∀ n,(n,NameKind.free)∈scope.names→∃ c,X.env.cells.lookup n=some c:=fun n hn=>I.ok.has n (.inl (hX n (hfr _ hn rfl)).1)
  refine wpAny_comprehension_free (use:=use) rfl hs (closure_for hcells) hkind hnames (thn (hi pins s σ H _ I h) fun v s1 h1=>thn h1 fun itv s2 h2=>?_)
  obtain ⟨it,fp,tn,J,H',e,I2,T,st2,f2,hW⟩:=h2
  subst e
  refine wpAny_newObj_type (hd:=by size_fits) (wpAny_newFunctionEnv hcell (by intro y hy; simp at hy) (fun h₁ hns₁ hsb₁=>?_) hkind)
  dsimp only at hns₁ hsb₁ ⊢
  have I3:=I2.lnew (ys:=[]) (its:=[]) (t':=s2.toks) .nil (Nat.zero_le _)
  obtain ⟨W,⟨m0,w0⟩,turn⟩:=hW _ I2.fresh
  have st3:tn 0 (s2.heap.push { cls:=.type "list",data:=.seq ([]:List Value).toArray }):=T.keep _ _ _ st2 fun b hb o e=>Heap.get?_push_of_some _ e
  have f3:∀ b∈fp,FpOk X pins (upd H' s2.heap.objs.size (.lst [])) b:=fun b hb=>by
    obtain ⟨q0,q⟩:=f2 b hb
    obtain ⟨o,e,_⟩:=T.obj 0 _ st2 b hb
    exact ⟨by rw [upd_ne (Nat.ne_of_lt (Heap.lt_size e))]; exact q0,q⟩
  have old:∀ b o,(s2.heap.push { cls:=.type "list",data:=.seq ([]:List Value).toArray }).get? b=some o→h₁.get? b=some o:=fun b o e =>
    hsb₁.extBut b o (Nat.ne_of_lt (Heap.lt_size e)) (Heap.get?_push_of_some _ e)
  have hcap:∀ (j:Nat) (x:Str) (v:V),cps[j]? = some x→(caps.map fun i=>(σ[i]?).getD none)[j]? = some (some v) →
      CapOk { s2 with heap:=s2.heap.push { cls:=.type "list",data:=.seq ([]:List Value).toArray },toks:=s2.toks } (upd H' s2.heap.objs.size (.lst [])) fp (clFor X.env.cells scope.names []) x v:=fun j x v ex ev=>by
    have hx:=hX x (List.mem_of_getElem? ex)
    have hj:(caps.map (fun i=>X.N[i]?))[j]? = some (some x):=by rw [hN,List.getElem?_map,ex]; rfl
    rw [List.getElem?_map] at ev hj
    cases hcj:caps[j]? with
    | none=>rw [hcj] at ev; cases ev
    | some i =>
      rw [hcj] at ev hj
      have ev':(σ[i]?).getD none=some v:=by simpa using ev
      have hj':X.N[i]? = some x:=by simpa using hj
      have es:σ[i]? = some (some v):=by
        cases q:σ[i]? with
        | none=>rw [q] at ev'; cases ev'
        | some w => rw [q] at ev'; have : w = some v := by simpa using ev'
                    rw [this]
      obtain ⟨m,hn,hlook⟩:=I3.loc
      obtain ⟨u,ru,lk⟩:=hlook i x v hj' es (.inr (.inl hx.1))
      rcases lk with ⟨k1,_⟩ | ⟨_,c,hc1,o,ho,hd⟩
      · have k1':X.env.scope.names.lookup x=some .local:=k1
        rw [hx.1] at k1'; cases k1'
      · have hmem:(x,NameKind.free)∈scope.names:=by
          have hlk:=hx.2
          have go:∀ l:List (Str × NameKind),l.lookup x=some .free→(x,NameKind.free)∈l:=by
            intro l
            induction l with
            | nil=>intro z; cases z
            | cons p r ih =>
              intro z
              obtain ⟨n,k⟩:=p
              rw [List.lookup_cons] at z
              split at z
              · rename_i q; have q':x=n:=by simpa using q
                have z':k = .free:=by simpa using z
                rw [q',z']; exact List.mem_cons_self
              · exact List.mem_cons_of_mem _ (ih z)
          exact go _ hlk
        obtain ⟨c',hc'⟩:=clFor_has (cells:=X.env.cells) scope.names [] (.inl hmem)
        have:=clFor_some scope.names [] hcells (fun y d z=>by cases z) hc'
        rw [hc1] at this
        cases this
        refine ⟨u,c,o,ru,hc',ho,hd,I3.freeC x c hc1,fun hb=>?_⟩
        exact (f3 c hb).2.2.2.2.1 x c hc1 rfl
  refine compF_block (s3:={ s2 with heap:=s2.heap.push { cls:=.type "list",data:=.seq ([]:List Value).toArray },toks:=s2.toks }) (Qd:=fun H=>Q (.ref s2.heap.objs.size) H) (tk:=s2.toks+([]:List (Str × Value)).length) (cl:=clFor X.env.cells scope.names [])
    hc hcell hkind (fun x c z=>clFor_some scope.names [] hcells (fun y d z=>by cases z) z) (fun x z=>clFor_has scope.names [] (.inl z)) hsc hl hcap hg hq he I3 T st3 f3 rfl hns₁ old W m0 w0 turn fun s' H4 σ4 I4 q4=>?_
  obtain ⟨m4,hn4,_⟩:=I4.loc
  have hCfree:H4 _=none:=I4.free
  have nC:∀ b u,H4 b=some u→b≠(s2.heap.push { cls:=.type "list",data:=.seq ([]:List Value).toArray }).objs.size:=fun b u e z=>by
    rw [z] at e
    have:=e.symm.trans hCfree
    cases this
  have lt:∀ b o,(s2.heap.push { cls:=.type "list",data:=.seq ([]:List Value).toArray }).get? b=some o→b≠(s2.heap.push { cls:=.type "list",data:=.seq ([]:List Value).toArray }).objs.size:=fun b o e=>Nat.ne_of_lt (Heap.lt_size e)
  have ub:=I4.base
  have fC:FpOk X pins H4 (s2.heap.push { cls:=.type "list",data:=.seq ([]:List Value).toArray }).objs.size:=I3.fpOk (Nat.le_refl _) hCfree
  refine hU _ _ s' H4 m4 hn4 fC (fun h' hsb=>?_) q4
  have un:Un (frs X.stack) fp (upd H' s2.heap.objs.size (.lst [])) H4 (s2.heap.push { cls:=.type "list",data:=.seq ([]:List Value).toArray }) h':={
    keep:=fun b o e n x y=>(hsb.2 b (lt b o e)).trans (ub.keep b o e n x y)
    slot:=fun b o e n x y=>let ⟨q,z⟩:=ub.slot b o e n x y; ⟨q,(hsb.2 b (lt b o e)).trans z⟩
    free:=ub.free
    there:=fun b o e y=>let ⟨q,z⟩:=ub.there b o e y; ⟨q,(hsb.2 b (lt b o e)).trans z⟩
    tups:=ub.tups
    frzs:=ub.frzs
    tbls:=ub.tbls }
  refine I3.call' (s':={ s' with heap:=h' }) I4.os un (fun b u e=>?_) I4.bare fun b hb=>?_
  · refine (I4.hok b u e).stay (fun c v hcv q=>(hsb.2 c ?_).trans q) (fun _ q=>q) fun _ _ q=>q
    rcases hcv with z | z
    · rw [z]; exact nC b u e
    · exact nC c _ z
  · obtain ⟨q0,q1,q2,q3,q4,q5⟩:=f3 b hb
    exact ⟨q3,q1,q4,q5⟩
theorem pe_compF (hc:X.calm=true) (hcell:∀ x∈scope.names,x.2 ≠ .cell) (hkind:scope.kind = .function) (hnames:∀ x∈scope.names,x.2 = .local→scope.names.lookup x.1=some .local)
    (hfr:∀ x∈scope.names,x.2 = .free→x.1∈cps) (hN:caps.map (fun i=>X.N[i]?)=cps.map some) (hX:∀ x∈cps,X.env.scope.names.lookup x=some .cell∧scope.names.lookup x=some .free)
    (hsc:∀ x∈cps,(relabel scope X.env).names.lookup x=some .cell∨(relabel scope X.env).names.lookup x=some .free)
    (hi:PI X tg iter wi) (hg:∀ cl s3 H3 C fp pins,PG (cxF X scope cl (tgs++cps) s3 H3 C fp pins) tg g) (hq:∀ cl s3 H3 C fp pins,PIfs (cxF X scope cl (tgs++cps) s3 H3 C fp pins) ifs tc) (he:∀ cl s3 H3 C fp pins,PE (cxF X scope cl (tgs++cps) s3 H3 C fp pins) elt te)
    (hs:∀ x,foldedSetIterable iter X.env x=pure x:=by intro _; rfl):PE X (.ListComp elt [⟨tg,iter,ifs,0⟩] scope pos) (tCompF tgs.length caps wi g tc te):=by
  intro pins s σ H Q I h
  rw [eval_ListComp]
  exact compF_gen hc hcell hkind hnames hfr hN hX hsc hi hg hq he hs I h fun D C s' H4 m4 hn4 fC hI q4=>⟨m4,hn4,fun h' hsb=>⟨.ref D,H4,hI h' hsb,rfl,q4⟩⟩
noncomputable def PU (X:Cx) (i:Nat) (x:Str) (pos':Pos) (e:Expr) (te:TE):Prop:=∀ (pins:List (Addr × Obj)) (s:Shared) (σ:St) (H:Hp) (Q:VK),Inv X pins σ H s→te σ H Q →
  wpAny (model X.prog X.w) X.A (evalThenUse e X.env (assign (.Name x pos') X.env)) (fun _ s'=>∃ v H',Inv X pins (σ.set i (some v)) H' s'∧Q v H') X.xe s
theorem PU.imp {X:Cx} {i:Nat} {x:Str} {pos':Pos} {e:Expr} {t t':TE} (h:PU X i x pos' e t) (f:∀ σ H Q,t' σ H Q→t σ H Q):PU X i x pos' e t':=fun pins s σ H Q I q=>h pins s σ H Q I (f σ H Q q)
theorem ps_setU {i:Nat} {x:Str} {pos' pos:Pos} {e:Expr} {te:TE} (h:PU X i x pos' e te) (hs:swapsWith e (some (.Name x pos')) pos.line X.env=pure true):PS X (.Assign [.Name x pos'] e pos) (tAsg te (gName i)):=by
  intro pins s σ H D I q
  rw [exec_Assign_Name_used _ _ _ _ hs]
  refine wpAny_bind (wpAny_standAt (wpAny_bind (thn (h pins s σ H _ I q) fun _ s1 ⟨v,H1,I1,q1⟩=>wpAny_pure ?_)))
  exact ⟨_,H1,I1,q1⟩
theorem pu_compF (hc:X.calm=true) (hcell:∀ x∈scope.names,x.2 ≠ .cell) (hkind:scope.kind = .function) (hnames:∀ x∈scope.names,x.2 = .local→scope.names.lookup x.1=some .local)
    (hfr:∀ x∈scope.names,x.2 = .free→x.1∈cps) (hN:caps.map (fun i=>X.N[i]?)=cps.map some) (hX:∀ x∈cps,X.env.scope.names.lookup x=some .cell∧scope.names.lookup x=some .free)
    (hsc:∀ x∈cps,(relabel scope X.env).names.lookup x=some .cell∨(relabel scope X.env).names.lookup x=some .free)
    (hi:PI X tg iter wi) (hg:∀ cl s3 H3 C fp pins,PG (cxF X scope cl (tgs++cps) s3 H3 C fp pins) tg g) (hq:∀ cl s3 H3 C fp pins,PIfs (cxF X scope cl (tgs++cps) s3 H3 C fp pins) ifs tc) (he:∀ cl s3 H3 C fp pins,PE (cxF X scope cl (tgs++cps) s3 H3 C fp pins) elt te)
    {i:Nat} {x:Str} {pos':Pos} (hNd:X.N.Nodup) (hxi:X.N[i]? = some x) (hx:Loc X.env.scope x) (hf:X.fn x=true∨X.env.scope.names.lookup x=some .local)
    (hs:∀ x,foldedSetIterable iter X.env x=pure x:=by intro _; rfl):PU X i x pos' (.ListComp elt [⟨tg,iter,ifs,0⟩] scope pos) (tCompF tgs.length caps wi g tc te):=by
  intro pins s σ H Q I h
  refine wpAny_bind (thn (compF_gen (use:=some (assign (.Name x pos') X.env)) (Qf:=fun _ s'=>∃ v H',Inv X pins (σ.set i (some v)) H' s'∧Q v H') hc hcell hkind hnames hfr hN hX hsc hi hg hq he hs I h fun D C s' H4 m4 hn4 fC hI q4=>?_) fun _ s1 z=>wpAny_pure z)
  have I4:Inv X pins σ H4 s':=hI s'.heap (Heap.SameBut.refl _ _)
  show wpAny _ _ (assign (.Name x pos') X.env (.ref D)) _ _ s'
  refine wpAny_assign_Name (store_ok2 (v:=.ref D) I4 hNd hxi hx rfl (fun s2 I2 ⟨a,hsb,ha⟩=>?_) hf)
  have hac:C≠a:=by
    rcases ha with ha | ha
    · rw [ha]; exact fC.2.1
    · exact Ne.symm (fC.2.2.2.2.1 x a ha)
  refine ⟨m4,hn4.sameBut hsb hac,fun h' hs'=>⟨.ref D,H4,?_,q4⟩⟩
  exact I2.turned (t':=s2.toks) (fun b o hb e=>hs'.extBut b o hb e) fC.1 fC.2.1 fC.2.2.2.1 fC.2.2.2.2.1 fC.2.2.2.2.2
end
end L2

namespace L2
open PySem
noncomputable def SI:Bool→Heap→Addr→Addr→Nat→Prop
  | true,h,it,a,i=>h.IsListIter it a i
  | false,h,it,a,i=>h.IsTupleIter it a i
noncomputable def SS:Bool→Heap→Addr→Array Value→Prop
  | true,h,a,xs=>h.IsList a xs
  | false,h,a,xs=>h.IsTuple a xs
theorem SI.at {k:Bool} {h h':Heap} {it a:Addr} {i:Nat} (x:SI k h it a i) (f:∀ o,h.get? it=some o→h'.get? it=some o):SI k h' it a i:=by
  cases k <;> (obtain ⟨o,e,r⟩:=x; exact ⟨o,f o e,r⟩)
theorem SS.at {k:Bool} {h h':Heap} {a:Addr} {xs:Array Value} (x:SS k h a xs) (f:∀ o,h.get? a=some o→h'.get? a=some o):SS k h' a xs:=by
  cases k <;> (obtain ⟨o,e,r⟩:=x; exact ⟨o,f o e,r⟩)
theorem SI.obj {k:Bool} {h:Heap} {it a:Addr} {i:Nat} (x:SI k h it a i):∃ o,h.get? it=some o∧∀ v,o.data ≠ .cell v:=by
  cases k <;> (obtain ⟨o,e,c,d⟩:=x; exact ⟨o,e,fun v z=>by rw [d] at z; cases z⟩)
theorem SS.obj {k:Bool} {h:Heap} {a:Addr} {xs:Array Value} (x:SS k h a xs):∃ o,h.get? a=some o:=by
  cases k <;> (obtain ⟨o,e,_⟩:=x; exact ⟨o,e⟩)
section
variable {prog:Program} {w:World} {A:Around} {E:Value→Shared→Prop} {s:Shared}
theorem tupleStep {p t:Addr} {n:Nat} {xs:Array Value} {v:Value} {Q:Value→Shared→Prop} (hp:s.heap.IsTupleIter p t n) (ht:s.heap.IsTuple t xs) (hv:xs[n]? = some v)
    (q:∀ h',h'.IsTupleIter p t (n+1)→Heap.SameBut p s.heap h'→Q v { s with heap:=h' }):wpAny (model prog w) A (Builtin.SmallTypes.nextOf (.ref p)) Q E s:=by
  obtain ⟨ob,e1,e2,e3⟩:=id hp
  obtain ⟨ot,f1,_,cap,f2⟩:=ht
  unfold Builtin.SmallTypes.nextOf
  refine wpAny_bind (wpAny_callSpecial?_slot (name:=Str.ofString "__next__") hp.typeIs F.slot_tuple_iterator_next (wpAny_call_entry F.slot_tuple_iterator_next hp.typeIs F.entry_tuple_iterator_next ?_ (F.args_tuple_iterator_next_1 _)))
  show wpAny _ _ (field (.ref p) 0 >>= _) _ _ s
  refine wpAny_bind (wpAny_field e1 e3 (x:=.ref t) rfl ?_)
  show wpAny _ _ (if (Value.ref t == Value.none)=true then _ else _) _ _ s
  rw [if_neg (fun z:(Value.ref t == Value.none)=true=>nomatch z)]
  show wpAny _ _ (field (.ref p) 1 >>= _) _ _ s
  refine wpAny_bind (wpAny_field e1 e3 (x:=.int n 0) rfl ?_)
  show wpAny _ _ (seqItems? (.ref t) >>= _) _ _ s
  refine wpAny_bind (wpAny_seqItems f1 f2 ?_)
  simp only [Int.toNat_natCast,hv]
  refine wpAny_bind (wpAny_setField e1 e3 (by simp) (wpAny_pure ⟨v,rfl,wpAny_pure (q _ ⟨_,Heap.get?_update_self _ e1 (Obj.isFreed_of_fields (Obj.data_mapFields e3 _)),(Obj.cls_mapFields ..).trans e2,?_⟩ (Heap.SameBut.update ..))⟩))
  rw [Obj.data_mapFields e3]; simp [rawInt]
theorem tupleEnd {p t:Addr} {n:Nat} {xs:Array Value} {Q:Value→Shared→Prop} (hA:A.handled=none) (hp:s.heap.IsTupleIter p t n) (ht:s.heap.IsTuple t xs) (hv:xs[n]? = none)
    (q:∀ h' e,Heap.ExtBut p s.heap h'→(∃ o,h'.get? e=some o∧o.cls = .type "StopIteration")→E (.ref e) { s with heap:=h' }):wpAny (model prog w) A (Builtin.SmallTypes.nextOf (.ref p)) Q E s:=by
  obtain ⟨ob,e1,e2,e3⟩:=id hp
  obtain ⟨ot,f1,_,cap,f2⟩:=ht
  unfold Builtin.SmallTypes.nextOf
  refine wpAny_bind (wpAny_callSpecial?_slot (name:=Str.ofString "__next__") hp.typeIs F.slot_tuple_iterator_next (wpAny_call_entry F.slot_tuple_iterator_next hp.typeIs F.entry_tuple_iterator_next ?_ (F.args_tuple_iterator_next_1 _)))
  show wpAny _ _ (field (.ref p) 0 >>= _) _ _ s
  refine wpAny_bind (wpAny_field e1 e3 (x:=.ref t) rfl ?_)
  show wpAny _ _ (if (Value.ref t == Value.none)=true then _ else _) _ _ s
  rw [if_neg (fun z:(Value.ref t == Value.none)=true=>nomatch z)]
  show wpAny _ _ (field (.ref p) 1 >>= _) _ _ s
  refine wpAny_bind (wpAny_field e1 e3 (x:=.int n 0) rfl ?_)
  show wpAny _ _ (seqItems? (.ref t) >>= _) _ _ s
  refine wpAny_bind (wpAny_seqItems f1 f2 ?_)
  simp only [Int.toNat_natCast,hv]
  refine wpAny_bind (wpAny_rule (wpAny_bind (wpAny_setField e1 e3 (by simp) ?_)))
  show wpAny _ _ (newExc (.type "StopIteration") [] >>= _) _ _ _
  refine wpAny_bind ?_; simp only [newExc,newTuple]
  refine wpAny_bind (wpAny_newObj_type ?_ (by size_fits)); refine wpAny_bind (m:=firstArgMember _ _) (wpAny_of_eq (a:=Value.none) (by first | rfl | (simp only [firstArgMember]; rfl)) ?_)
  refine wpAny_newObj_type ?_ (by size_fits); simp only [raiseNew]; refine wpAny_bind (wpAny_handled ?_)
  first | rw [show A.in1.handled=none from hA] | rw [hA]
  refine wpAny_bind (wpAny_pure (wpAny_throw (q _ _ (((Heap.SameBut.update ..).extBut.push _).push _) ⟨_,Heap.get?_push_size _ rfl,rfl⟩)))
theorem seqStep {k:Bool} {p a:Addr} {n:Nat} {xs:Array Value} {v:Value} {Q:Value→Shared→Prop} (hp:SI k s.heap p a n) (ha:SS k s.heap a xs) (hv:xs[n]? = some v)
    (q:∀ h',SI k h' p a (n+1)→Heap.SameBut p s.heap h'→Q v { s with heap:=h' }):wpAny (model prog w) A (Builtin.SmallTypes.nextOf (.ref p)) Q E s:=by
  cases k with
  | true=>exact wpAny_nextOf_list_item hp ha hv q
  | false=>exact tupleStep hp ha hv q
theorem seqEnd {k:Bool} {p a:Addr} {n:Nat} {xs:Array Value} {Q:Value→Shared→Prop} (hA:A.handled=none) (hp:SI k s.heap p a n) (ha:SS k s.heap a xs) (hv:xs[n]? = none)
    (q:∀ h' e,Heap.ExtBut p s.heap h'→(∃ o,h'.get? e=some o∧o.cls = .type "StopIteration")→E (.ref e) { s with heap:=h' }):wpAny (model prog w) A (Builtin.SmallTypes.nextOf (.ref p)) Q E s:=by
  cases k with
  | true=>exact wpAny_nextOf_list_end hA hp ha hv q
  | false=>exact tupleEnd hA hp ha hv q
theorem SI.but {k:Bool} {h h':Heap} {it a b:Addr} {i:Nat} (x:SI k h it a i) (e:Heap.ExtBut b h h') (n:it≠b):SI k h' it a i:=x.at fun o z=>e it o n z
theorem SS.but {k:Bool} {h h':Heap} {a b:Addr} {xs:Array Value} (x:SS k h a xs) (e:Heap.ExtBut b h h') (n:a≠b):SS k h' a xs:=x.at fun o z=>e a o n z
theorem zipTurn {z TI TO p1 p2 l1 l2:Addr} {c1 c2:Bool} {n1 n2:Nat} {xs ys:Array Value} {v1 v2 u1 u2:Value} {Q:Option Value→Shared→Prop} (D:ZipApart z TI TO p1 p2 l1 l2)
    (iz:IsZip s.heap z TI TO .none) (iI:IsPair s.heap TI (.ref p1) (.ref p2)) (iO:IsPair s.heap TO u1 u2) (g1:SI c1 s.heap p1 l1 n1) (g2:SI c2 s.heap p2 l2 n2) (m1:SS c1 s.heap l1 xs) (m2:SS c2 s.heap l2 ys) (w1:xs[n1]? = some v1) (w2:ys[n2]? = some v2)
    (q:∀ h',IsZip h' z TI TO (rawInt s.heap.objs.size)→IsPair h' TO v1 v2→SI c1 h' p1 l1 (n1+1)→SI c2 h' p2 l2 (n2+1)→IsPair h' s.heap.objs.size v1 v2→h'.objs.size=s.heap.objs.size+1 →
      (∀ b o,b≠z→b≠TO→b≠p1→b≠p2→s.heap.get? b=some o→h'.get? b=some o)→Q (some (.ref s.heap.objs.size)) { s with heap:=h' }):wpAny (model prog w) A (pyNext (.ref z)) Q E s:=by
  have ty:s.TypeIs (.ref z) "zip" := ⟨_,iz,rfl⟩
  unfold pyNext
  refine wpAny_bind (wpAny_attempt (wpAny_callSpecial?_slot (name:=Str.ofString "__next__") ty F.slot_zip_next (wpAny_call_entry F.slot_zip_next ty F.entry_zip_next ?_ (F.args_zip_next_1 _))))
  show wpAny _ _ (field (.ref z) 2 >>= _) _ _ _
  refine wpAny_bind (wpAny_field iz rfl (x:=.bool false) rfl ?_)
  show wpAny _ _ (field (.ref z) 3 >>= _) _ _ _
  refine wpAny_bind (wpAny_field iz rfl (x:=.ref TI) rfl (wpAny_bind (wpAny_seqItems iI rfl ?_)))
  show wpAny _ _ (Builtin.SmallTypes.ownedTupleIsFree (.ref z) >>= _) _ _ _
  refine wpAny_bind ?_; unfold Builtin.SmallTypes.ownedTupleIsFree
  refine wpAny_bind (wpAny_field iz rfl (x:=.none) rfl (wpAny_pure ?_)); simp only [if_true]
  refine wpAny_bind (wpAny_rule (wpAny_bind (wpAny_field iz rfl (x:=.ref TO) rfl (wpAny_bind (wpAny_setField_rec iz (by simp) fun ha za sa=>?_)))))
  replace za:IsZip ha z TI TO .ellipsis:=za
  refine wpAny_bind ?_; simp only [List.zipIdx_cons,List.zipIdx_nil,List.forIn_cons,List.forIn_nil]
  refine wpAny_bind (wpAny_bind (wpAny_onRaise ?_))
  show wpAny _ _ (Builtin.SmallTypes.nextOf (.ref p1) >>= _) _ _ _
  refine wpAny_bind (seqStep (g1.but sa.extBut D.i1z) (m1.but sa.extBut D.l1z) w1 fun hb gb sb=>wpAny_pure ?_)
  have oB:IsPair hb TO u1 u2:=sb.extBut _ _ D.TOi1 (sa.extBut _ _ D.TOz iO)
  refine wpAny_bind (wpAny_seqItems oB rfl (wpAny_bind (wpAny_updateSeq_pair oB fun hc oC sc=>?_)))
  replace oC:IsPair hc TO v1 u2:=oC
  refine wpAny_bind (wpAny_letGo (wpAny_pure (wpAny_bind (wpAny_bind (wpAny_onRaise ?_)))))
  show wpAny _ _ (Builtin.SmallTypes.nextOf (.ref p2) >>= _) _ _ _
  refine wpAny_bind (seqStep (((g2.but sa.extBut D.i2z).but sb.extBut D.i12.symm).but sc.extBut D.TOi2.symm) (((m2.but sa.extBut D.l2z).but sb.extBut D.l2i1).but sc.extBut D.l2TO) w2 fun hd gd sd=>wpAny_pure ?_)
  have oD:IsPair hd TO v1 u2:=sd.extBut _ _ D.TOi2 oC
  refine wpAny_bind (wpAny_seqItems oD rfl (wpAny_bind (wpAny_updateSeq_pair oD fun he oE se=>?_)))
  replace oE:IsPair he TO v1 v2:=oE
  refine wpAny_bind (wpAny_letGo (wpAny_pure (wpAny_pure (wpAny_bind (wpAny_seqItems oE rfl (wpAny_bind (wpAny_newTuple ?_)))))))
  have zs:he.objs.size=s.heap.objs.size:=by rw [se.1,sd.1,sc.1,sb.1,sa.1]
  have zE:IsZip he z TI TO .ellipsis:=se.extBut _ _ D.TOz.symm (sd.extBut _ _ D.i2z.symm (sc.extBut _ _ D.TOz.symm (sb.extBut _ _ D.i1z.symm za)))
  have kE:∀ b o,b≠z→b≠TO→b≠p1→b≠p2→s.heap.get? b=some o→he.get? b=some o:=fun b o b1 b2 b3 b4 e=>se.extBut _ _ b2 (sd.extBut _ _ b4 (sc.extBut _ _ b2 (sb.extBut _ _ b3 (sa.extBut _ _ b1 e))))
  have gE1:SI c1 he p1 l1 (n1+1):=((gb.but sc.extBut D.TOi1.symm).but sd.extBut D.i12).but se.extBut D.TOi1.symm
  have gE2:SI c2 he p2 l2 (n2+1):=gd.but se.extBut D.TOi2.symm
  have ltz:z<he.objs.size:=Heap.lt_size zE
  show wpAny _ _ (Builtin.SmallTypes.ownedTupleHandOut (.ref z) (.ref he.objs.size) >>= _) _ _ _
  refine wpAny_bind ?_; unfold Builtin.SmallTypes.ownedTupleHandOut
  refine wpAny_bind (wpAny_setField_rec (Heap.get?_push_of_some _ zE) (by simp) fun hf zf sf=>?_)
  replace zf:IsZip hf z TI TO (rawInt he.objs.size):=zf
  refine wpAny_setField_rec zf (by simp) fun hg zg sg=>?_
  replace zg:IsZip hg z TI TO (rawInt he.objs.size):=zg
  have lift:∀ b o,b≠z→he.get? b=some o→hg.get? b=some o:=fun b o b1 e=>sg.extBut _ _ b1 (sf.extBut _ _ b1 (Heap.get?_push_of_some _ e))
  have tG:IsPair hg he.objs.size v1 v2:=sg.extBut _ _ (Nat.ne_of_gt ltz) (sf.extBut _ _ (Nat.ne_of_gt ltz) (Heap.get?_push_size _ rfl))
  have zz:hg.objs.size=he.objs.size+1:=by rw [sg.1,sf.1,Heap.size_push]
  rw [zs] at zg tG zz
  refine wpAny_pure ⟨_,rfl,wpAny_pure ?_⟩
  show Q (some (.ref he.objs.size)) _
  rw [zs]
  exact q hg zg (lift _ _ D.TOz oE) (gE1.at fun o e=>lift _ o D.i1z e) (gE2.at fun o e=>lift _ o D.i2z e) tG zz fun b o b1 b2 b3 b4 e=>lift b o b1 (kE b o b1 b2 b3 b4 e)
theorem zipEnd {z TI TO p1 p2 l1 l2:Addr} {c1 c2:Bool} {n1 n2:Nat} {xs ys:Array Value} {u1 u2:Value} {Q:Option Value→Shared→Prop} (hA:A.handled=none) (D:ZipApart z TI TO p1 p2 l1 l2)
    (iz:IsZip s.heap z TI TO .none) (iI:IsPair s.heap TI (.ref p1) (.ref p2)) (iO:IsPair s.heap TO u1 u2) (g1:SI c1 s.heap p1 l1 n1) (g2:SI c2 s.heap p2 l2 n2) (m1:SS c1 s.heap l1 xs) (m2:SS c2 s.heap l2 ys) (fin:xs[n1]? = none∨ys[n2]? = none)
    (q:∀ h',(∀ b o,b≠z→b≠TO→b≠p1→b≠p2→s.heap.get? b=some o→h'.get? b=some o)→Q none { s with heap:=h' }):wpAny (model prog w) A (pyNext (.ref z)) Q E s:=by
  have ty:s.TypeIs (.ref z) "zip" := ⟨_,iz,rfl⟩
  unfold pyNext
  have out:∀ (h':Heap) (e:Addr),(∀ b o,b≠z→b≠TO→b≠p1→b≠p2→s.heap.get? b=some o→h'.get? b=some o)→(∃ o,h'.get? e=some o∧o.cls = .type "StopIteration") →
      wpAny (model prog w) A (do if ← isInstance (.ref e) (.type "StopIteration") then pure none else throw (.ref e):Sem (Option Value)) Q E { s with heap:=h' }:=fun h' e k ⟨o,e1,e2⟩ =>
    wpAny_bind (wpAny_isInstance (T := "StopIteration") (b:=true) ⟨o,e1,e2⟩ isSubtype_stop (wpAny_pure (q h' k)))
  refine wpAny_bind (wpAny_attempt (wpAny_callSpecial?_slot (name:=Str.ofString "__next__") ty F.slot_zip_next (wpAny_call_entry F.slot_zip_next ty F.entry_zip_next ?_ (F.args_zip_next_1 _))))
  show wpAny _ _ (field (.ref z) 2 >>= _) _ _ _
  refine wpAny_bind (wpAny_field iz rfl (x:=.bool false) rfl ?_)
  show wpAny _ _ (field (.ref z) 3 >>= _) _ _ _
  refine wpAny_bind (wpAny_field iz rfl (x:=.ref TI) rfl (wpAny_bind (wpAny_seqItems iI rfl ?_)))
  show wpAny _ _ (Builtin.SmallTypes.ownedTupleIsFree (.ref z) >>= _) _ _ _
  refine wpAny_bind ?_; unfold Builtin.SmallTypes.ownedTupleIsFree
  refine wpAny_bind (wpAny_field iz rfl (x:=.none) rfl (wpAny_pure ?_)); simp only [if_true]
  refine wpAny_bind (wpAny_rule (wpAny_bind (wpAny_field iz rfl (x:=.ref TO) rfl (wpAny_bind (wpAny_setField_rec iz (by simp) fun ha za sa=>?_)))))
  replace za:IsZip ha z TI TO .ellipsis:=za
  refine wpAny_bind ?_; simp only [List.zipIdx_cons,List.zipIdx_nil,List.forIn_cons,List.forIn_nil]
  refine wpAny_bind (wpAny_bind (wpAny_onRaise ?_))
  show wpAny _ _ (Builtin.SmallTypes.nextOf (.ref p1) >>= _) _ _ _
  cases w1:xs[n1]? with
  | none =>
    refine wpAny_bind (seqEnd hA (g1.but sa.extBut D.i1z) (m1.but sa.extBut D.l1z) w1 fun hb e sb zz=>?_)
    obtain ⟨oe,oe1,oe2⟩:=zz
    have zb:IsZip hb z TI TO .ellipsis:=sb _ _ D.i1z.symm za
    have nz:e≠z:=fun y=>by subst y; rw [zb] at oe1; cases oe1; simp at oe2
    refine wpAny_setField_rec zb (by simp) fun hc _ sc=>out hc e (fun b o b1 _ b3 _ y=>sc.extBut _ _ b1 (sb _ _ b3 (sa.extBut _ _ b1 y))) ⟨oe,sc.extBut _ _ nz oe1,oe2⟩
  | some v1 =>
    have w2:ys[n2]? = none:=fin.resolve_left (by rw [w1]; exact fun y=>nomatch y)
    refine wpAny_bind (seqStep (g1.but sa.extBut D.i1z) (m1.but sa.extBut D.l1z) w1 fun hb gb sb=>wpAny_pure ?_)
    have oB:IsPair hb TO u1 u2:=sb.extBut _ _ D.TOi1 (sa.extBut _ _ D.TOz iO)
    refine wpAny_bind (wpAny_seqItems oB rfl (wpAny_bind (wpAny_updateSeq_pair oB fun hc oC sc=>?_)))
    refine wpAny_bind (wpAny_letGo (wpAny_pure (wpAny_bind (wpAny_bind (wpAny_onRaise ?_)))))
    show wpAny _ _ (Builtin.SmallTypes.nextOf (.ref p2) >>= _) _ _ _
    refine wpAny_bind (seqEnd hA (((g2.but sa.extBut D.i2z).but sb.extBut D.i12.symm).but sc.extBut D.TOi2.symm) (((m2.but sa.extBut D.l2z).but sb.extBut D.l2i1).but sc.extBut D.l2TO) w2 fun hd e sd zz=>?_)
    obtain ⟨oe,oe1,oe2⟩:=zz
    have zd:IsZip hd z TI TO .ellipsis:=sd _ _ D.i2z.symm (sc.extBut _ _ D.TOz.symm (sb.extBut _ _ D.i1z.symm za))
    have nz:e≠z:=fun y=>by subst y; rw [zd] at oe1; cases oe1; simp at oe2
    refine wpAny_setField_rec zd (by simp) fun he _ se=>out he e (fun b o b1 b2 b3 b4 y=>se.extBut _ _ b1 (sd _ _ b4 (sc.extBut _ _ b2 (sb.extBut _ _ b3 (sa.extBut _ _ b1 y))))) ⟨oe,se.extBut _ _ nz oe1,oe2⟩
end
noncomputable abbrev itO (k:Bool) (a:Addr):Obj:={ cls:=.type (if k then "list_iterator" else "tuple_iterator"),data:=.fields #[.ref a,.int 0 0] }
noncomputable abbrev zA (k1:Bool) (h:Heap) (l1:Addr):Heap:=h.push (itO k1 l1)
noncomputable abbrev zB (k1 k2:Bool) (h:Heap) (l1 l2:Addr):Heap:=(zA k1 h l1).push (itO k2 l2)
noncomputable abbrev zC (k1 k2:Bool) (h:Heap) (l1 l2:Addr):Heap:=(zB k1 k2 h l1 l2).push { cls:=.type "tuple",data:=.seq #[.ref h.objs.size,.ref (zA k1 h l1).objs.size] }
noncomputable abbrev zD (k1 k2:Bool) (h:Heap) (l1 l2:Addr):Heap:=(zC k1 k2 h l1 l2).push { cls:=.type "tuple",data:=.seq #[.none,.none] }
noncomputable abbrev zE (k1 k2:Bool) (h:Heap) (l1 l2:Addr):Heap:=(zD k1 k2 h l1 l2).push { cls:=.type "zip",data:=.fields #[.none,.bool false,.bool false,.ref (zB k1 k2 h l1 l2).objs.size,.ref (zC k1 k2 h l1 l2).objs.size] }
set_option maxHeartbeats 2000000 in
theorem zipNew (k1 k2:Bool) (l1 l2:Addr) (xs ys:Array Value) :
    Meets (Builtin.«zip.__new__» ⟨[.type "zip",.ref l1,.ref l2],[]⟩) (fun _ R s=>SS k1 s.heap l1 xs∧SS k2 s.heap l2 ys∧R (.ok (.ret (.ref (zD k1 k2 s.heap l1 l2).objs.size))) { s with heap:=zE k1 k2 s.heap l1 l2 }) :=
  .of_wp fun prog w A R s h=>by
    obtain ⟨hp,g,d,tk,os⟩:=s
    obtain ⟨ha,hb,h⟩:=h
    have hsub:=sub_zip
    cases k1 with
    | true =>
      have a1:Heap.IsList (Shared.heap ⟨hp,g,d,tk,os⟩) l1 xs:=ha
      cases k2 with
      | true =>
        have a2:Heap.IsList (Shared.heap ⟨hp.push { cls:=.type "list_iterator",data:=.fields #[.ref l1,.int 0 0] },g,d,tk,os⟩) l2 ys:=Heap.IsList.push hb _
        wp_walk using wpAny_pyIter_list a1,wpAny_pyIter_list a2
        exact ⟨_,rfl,h⟩
      | false =>
        have a2:Heap.IsTuple (Shared.heap ⟨hp.push { cls:=.type "list_iterator",data:=.fields #[.ref l1,.int 0 0] },g,d,tk,os⟩) l2 ys:=Heap.IsTuple.push hb _
        wp_walk using wpAny_pyIter_list a1,wpAny_pyIter_tuple a2
        exact ⟨_,rfl,h⟩
    | false =>
      have a1:Heap.IsTuple (Shared.heap ⟨hp,g,d,tk,os⟩) l1 xs:=ha
      cases k2 with
      | true =>
        have a2:Heap.IsList (Shared.heap ⟨hp.push { cls:=.type "tuple_iterator",data:=.fields #[.ref l1,.int 0 0] },g,d,tk,os⟩) l2 ys:=Heap.IsList.push hb _
        wp_walk using wpAny_pyIter_tuple a1,wpAny_pyIter_list a2
        exact ⟨_,rfl,h⟩
      | false =>
        have a2:Heap.IsTuple (Shared.heap ⟨hp.push { cls:=.type "tuple_iterator",data:=.fields #[.ref l1,.int 0 0] },g,d,tk,os⟩) l2 ys:=Heap.IsTuple.push hb _
        wp_walk using wpAny_pyIter_tuple a1,wpAny_pyIter_tuple a2
        exact ⟨_,rfl,h⟩
section
variable {prog:Program} {w:World} {A:Around} {E:Value→Shared→Prop} {s:Shared}
theorem callZip {k1 k2:Bool} {l1 l2:Addr} {xs ys:Array Value} {Q:Value→Shared→Prop} (ha:SS k1 s.heap l1 xs) (hb:SS k2 s.heap l2 ys)
    (q:∀ h',IsZip h' (s.heap.objs.size+4) (s.heap.objs.size+2) (s.heap.objs.size+3) .none→IsPair h' (s.heap.objs.size+2) (.ref s.heap.objs.size) (.ref (s.heap.objs.size+1))→IsPair h' (s.heap.objs.size+3) .none .none →
      SI k1 h' s.heap.objs.size l1 0→SI k2 h' (s.heap.objs.size+1) l2 0→h'.objs.size=s.heap.objs.size+5→(∀ b o,s.heap.get? b=some o→h'.get? b=some o)→Q (.ref (s.heap.objs.size+4)) { s with heap:=h' }) :
    wpAny (model prog w) A (call (.type "zip") [.ref l1,.ref l2]) Q E s:=by
  refine callType_new F.called_zip (by decide) (F.typeCall_zip_2 _ _) (F.newCall_zip_2 _ _) (fun obj=>F.args_object_init_3 obj _ _) F.entry_zip_new (zipNew k1 k2 l1 l2 xs ys) ⟨ha,hb,?_⟩
  have s1:(zA k1 s.heap l1).objs.size=s.heap.objs.size+1:=Heap.size_push ..
  have s2:(zB k1 k2 s.heap l1 l2).objs.size=s.heap.objs.size+2:=(Heap.size_push ..).trans (by rw [s1])
  have s3:(zC k1 k2 s.heap l1 l2).objs.size=s.heap.objs.size+3:=(Heap.size_push ..).trans (by rw [s2])
  have s4:(zD k1 k2 s.heap l1 l2).objs.size=s.heap.objs.size+4:=(Heap.size_push ..).trans (by rw [s3])
  have s5:(zE k1 k2 s.heap l1 l2).objs.size=s.heap.objs.size+5:=(Heap.size_push ..).trans (by rw [s4])
  have o5:(zE k1 k2 s.heap l1 l2).get? (zD k1 k2 s.heap l1 l2).objs.size=some _:=Heap.get?_push_size _ rfl
  have up1:∀ b o,(zD k1 k2 s.heap l1 l2).get? b=some o→(zE k1 k2 s.heap l1 l2).get? b=some o:=fun b o e=>Heap.get?_push_of_some _ e
  have o4:(zE k1 k2 s.heap l1 l2).get? (zC k1 k2 s.heap l1 l2).objs.size=some _:=up1 _ _ (Heap.get?_push_size _ rfl)
  have up2:∀ b o,(zC k1 k2 s.heap l1 l2).get? b=some o→(zE k1 k2 s.heap l1 l2).get? b=some o:=fun b o e=>up1 b o (Heap.get?_push_of_some _ e)
  have o3:(zE k1 k2 s.heap l1 l2).get? (zB k1 k2 s.heap l1 l2).objs.size=some _:=up2 _ _ (Heap.get?_push_size _ rfl)
  have up3:∀ b o,(zB k1 k2 s.heap l1 l2).get? b=some o→(zE k1 k2 s.heap l1 l2).get? b=some o:=fun b o e=>up2 b o (Heap.get?_push_of_some _ e)
  have o2:(zE k1 k2 s.heap l1 l2).get? (zA k1 s.heap l1).objs.size=some (itO k2 l2):=up3 _ _ (Heap.get?_push_size _ rfl)
  have up4:∀ b o,(zA k1 s.heap l1).get? b=some o→(zE k1 k2 s.heap l1 l2).get? b=some o:=fun b o e=>up3 b o (Heap.get?_push_of_some _ e)
  have o1:(zE k1 k2 s.heap l1 l2).get? s.heap.objs.size=some (itO k1 l1):=up4 _ _ (Heap.get?_push_size _ rfl)
  have mk:∀ (k:Bool) (b a:Addr),(zE k1 k2 s.heap l1 l2).get? b=some (itO k a)→SI k (zE k1 k2 s.heap l1 l2) b a 0:=fun k b a e=>by cases k <;> exact ⟨_,e,rfl,rfl⟩
  show _∧_
  rw [s2,s3,s4] at o5
  rw [s1,s2] at o3
  rw [s3] at o4
  rw [s1] at o2
  rw [s4]
  exact ⟨⟨_,o5,rfl⟩,q _ o5 o3 o4 (mk _ _ _ o1) (mk _ _ _ o2) s5 fun b o e=>up4 b o (Heap.get?_push_of_some _ e)⟩
end
end L2

namespace L2
open PySem PySem.Spec PyProof.Rows
section
variable {X:Cx} {pins:List (Addr × Obj)} {σ:St} {H:Hp} {s:Shared} {h':Heap}
theorem Inv.turnedN {t':Nat} {ch:List Addr} (I:Inv X pins σ H s) (k:∀ b o,b∉ch→s.heap.get? b=some o→h'.get? b=some o) (hf:∀ b∈ch,FpOk X pins H b):Inv X pins σ H { s with heap:=h',toks:=t' }:=by
  have nit:∀ b u,H b=some u→b∉ch:=fun b u e z=>by rw [(hf b z).1] at e; cases e
  refine I.step (g':=s.gens) (d':=s.drawn) (ch:=ch) (fun b hb=>?_) (fun b o _ _ hc e _=>k b o hc e) (fun b o _ _ hc e _=>⟨o.slots,k b o hc e⟩) (fun _ _ _ _ n=>n)
    (fun b o hc e=>⟨o,k b o hc e⟩) (fun _ _ e=>e) (fun _ _ _ e=>e) (fun b ps e=>⟨#[],by rw [e]; simp⟩) (fun m hm=>?_) (fun b u e=>?_) I.bare
  · obtain ⟨_,q1,_,q3,q4,q5⟩:=hf b hb
    exact ⟨q3,q1,q4,q5⟩
  · obtain ⟨o,es,ep,ho,r⟩:=hm
    exact ⟨o,es,ep,k _ o (fun z=>(hf _ z).2.1 rfl) ho,r⟩
  · refine (I.hok b u e).stay (fun c v hc q=>k c v ?_ q) (fun _ q=>q) fun _ _ q=>q
    rcases hc with z | z
    · rw [z]; exact nit b u e
    · exact nit c _ z
end
noncomputable def SqK (K:PySem.W.Frag) (k:Bool) (H:Hp) (a:Addr) (xs:List V):Prop:=if k=true then SqL K H a xs else SqT K H a xs
theorem Inv.sqk {X:Cx} {pins:List (Addr × Obj)} {σ:St} {H:Hp} {s:Shared} (I:Inv X pins σ H s) {k:Bool} {a:Addr} {xs:List V} (h:SqK X.K k H a xs):∃ its:List Value,Vals xs its∧SS k s.heap a its.toArray:=by
  cases k with
  | true =>
    obtain ⟨its,r,p,_⟩:=I.list (show SqL X.K H a xs from h)
    exact ⟨its,r,p.isList⟩
  | false =>
    obtain ⟨its,r,p,_⟩:=I.tuple (show SqT X.K H a xs from h)
    exact ⟨its,r,p⟩
theorem Inv.sqk_inj {X:Cx} {pins:List (Addr × Obj)} {σ:St} {H:Hp} {s:Shared} (I:Inv X pins σ H s) {k:Bool} {a:Addr} {xs ys:List V} (h:SqK X.K k H a xs) (h2:SqK X.K k H a ys):xs=ys:=by
  cases k with
  | true=>exact I.list_inj (show SqL X.K H a xs from h) (show SqL X.K H a ys from h2)
  | false=>exact I.tuple_inj (show SqT X.K H a xs from h) (show SqT X.K H a ys from h2)
noncomputable def Itz (K:PySem.W.Frag) (k1 k2:Bool) (l1 l2:Addr):It :=
  ⟨fun i H=>∃ xs ys x y,SqK K k1 H l1 xs∧SqK K k2 H l2 ys∧xs[i]? = some x∧ys[i]? = some y,
   fun i H v H'=>∃ T x y,H T=none∧v = .ref T∧H'=upd H T (.tup [x,y])∧(∀ xs,SqK K k1 H l1 xs→xs[i]? = some x)∧∀ ys,SqK K k2 H l2 ys→ys[i]? = some y,
   fun i H=>∃ xs ys,SqK K k1 H l1 xs∧SqK K k2 H l2 ys∧(xs.length≤i∨ys.length≤i)⟩
noncomputable def ZipSt (k1 k2:Bool) (z TI TO p1 p2 l1 l2:Addr) (i:Nat) (h:Heap):Prop:=IsZip h z TI TO .none∧IsPair h TI (.ref p1) (.ref p2)∧(∃ a b,IsPair h TO a b)∧SI k1 h p1 l1 i∧SI k2 h p2 l2 i
theorem turn_zip {P:Program} {w:World} {K:PySem.W.Frag} {elts:List Expr} {kx:Nat} {tp:Pos} {k1 k2:Bool} {z TI TO p1 p2 l1 l2:Addr} (D:ZipApart z TI TO p1 p2 l1 l2) :
    Turn P w K (.Tuple elts kx tp) (Itz K k1 k2 l1 l2) [z,TI,TO,p1,p2] z (ZipSt k1 k2 z TI TO p1 p2 l1 l2) where
  mem:=by simp
  obj:=fun i h ⟨iz,iI,⟨a,b,iO⟩,g1,g2⟩ c hc=>by
    simp only [List.mem_cons,List.not_mem_nil,or_false] at hc
    rcases hc with rfl | rfl | rfl | rfl | rfl
    · exact ⟨_,iz,fun v e=>by cases e⟩
    · exact ⟨_,iI,fun v e=>by cases e⟩
    · exact ⟨_,iO,fun v e=>by cases e⟩
    · exact g1.obj
    · exact g2.obj
  keep:=fun i h h' ⟨iz,iI,⟨a,b,iO⟩,g1,g2⟩ k=>⟨k z (by simp) _ iz,k TI (by simp) _ iI,⟨a,b,k TO (by simp) _ iO⟩,g1.at fun o e=>k p1 (by simp) o e,g2.at fun o e=>k p2 (by simp) o e⟩
  item:=by
    intro X hP hw hK hc i pins s σ H E I hf st hg
    subst hP hw hK
    obtain ⟨iz,iI,⟨a,b,iO⟩,g1,g2⟩:=st
    obtain ⟨xs,ys,x,y,q1,q2,hx,hy⟩:=hg
    obtain ⟨is1,r1,m1⟩:=I.sqk q1
    obtain ⟨is2,r2,m2⟩:=I.sqk q2
    obtain ⟨u1,hu1,ru1⟩:=r1.get hx
    obtain ⟨u2,hu2,ru2⟩:=r2.get hy
    refine zipTurn D iz iI iO g1 g2 m1 m2 (v1:=u1) (v2:=u2) (by simpa using hu1) (by simpa using hu2) fun h' a1 a2 a3 a4 a5 a6 kk=>?_
    refine ⟨_,rfl,?_⟩
    refine wpAny_letOwnedTupleGo_zip (s:={ s with heap:=h' }) a1 fun h2 b1 b2=>?_
    have lt:∀ {c o},s.heap.get? c=some o→c≠s.heap.objs.size:=fun e=>Nat.ne_of_lt (Heap.lt_size e)
    have nz:s.heap.objs.size≠z:=Ne.symm (lt iz)
    have I1:Inv X pins σ (upd H s.heap.objs.size (.tup [x,y])) { s with heap:=s.heap.push { cls:=.type "tuple",data:=.seq #[u1,u2] },toks:=s.toks } :=
      I.laid (o:=.tup [x,y]) (fun b ob q=>Heap.get?_push_of_some _ q) (Nat.le_refl _) ⟨(show 2≤sizeLine by decide),[u1,u2],.cons ru1 (.cons ru2 .nil),IsTup.new _ _⟩
    have nfp:∀ c∈[z,TI,TO,p1,p2],c≠s.heap.objs.size:=fun c hc=>by
      simp only [List.mem_cons,List.not_mem_nil,or_false] at hc
      rcases hc with rfl | rfl | rfl | rfl | rfl
      · exact lt iz
      · exact lt iI
      · exact lt iO
      · obtain ⟨o,e,_⟩:=g1.obj; exact lt e
      · obtain ⟨o,e,_⟩:=g2.obj; exact lt e
    have hf':∀ c∈[z,TI,TO,p1,p2],FpOk X pins (upd H s.heap.objs.size (.tup [x,y])) c:=fun c hc=>by
      obtain ⟨f0,f1⟩:=hf c hc
      exact ⟨by rw [upd_ne (nfp c hc)]; exact f0,f1⟩
    have I2:Inv X pins σ (upd H s.heap.objs.size (.tup [x,y])) { s with heap:=h2,toks:=s.toks }:=by
      refine Inv.turnedN (s:={ s with heap:=s.heap.push { cls:=.type "tuple",data:=.seq #[u1,u2] },toks:=s.toks }) (t':=s.toks) (h':=h2) (ch:=[z,TI,TO,p1,p2]) I1 (fun c o hcn e=>?_) hf'
      simp only [List.mem_cons,List.not_mem_nil,or_false,not_or] at hcn
      obtain ⟨n1,n2,n3,n4,n5⟩:=hcn
      refine b2.extBut c o n1 ?_
      by_cases hcs:c=s.heap.objs.size
      · subst hcs
        have e':(s.heap.push { cls:=.type "tuple",data:=.seq #[u1,u2] }).get? s.heap.objs.size=some o:=e
        rw [Heap.get?_push_size _ rfl] at e'
        cases e'
        exact a5
      · have e':(s.heap.push { cls:=.type "tuple",data:=.seq #[u1,u2] }).get? c=some o:=e
        have hlt:c<s.heap.objs.size:=by
          have:=Heap.lt_size e'
          rw [Heap.size_push] at this
          exact Nat.lt_of_le_of_ne (Nat.le_of_lt_succ this) hcs
        have hold:s.heap.get? c=some o:=by
          have:∃ o',s.heap.get? c=some o':=by
            cases q:s.heap.get? c with
            | some o'=>exact ⟨o',rfl⟩
            | none=>exact absurd e' (by rw [Heap.get?_push_ne _ _ _ hcs]; rw [q]; exact fun z=>nomatch z)
          obtain ⟨o',ho'⟩:=this
          have:=Heap.get?_push_of_some { cls:=.type "tuple",data:=.seq #[u1,u2] } ho'
          rw [e'] at this
          cases this; exact ho'
        exact kk c o n1 n3 n4 n5 hold
    refine ⟨.ref s.heap.objs.size,_,I2,rfl,⟨_,x,y,I.hok.fresh (Nat.le_refl _),rfl,rfl,fun zs hz=>by rw [I.sqk_inj hz q1]; exact hx,fun zs hz=>by rw [I.sqk_inj hz q2]; exact hy⟩,?_,fun c hc=>(hf' c hc).1⟩
    have lift:∀ c o,c≠z→h'.get? c=some o→h2.get? c=some o:=fun c o n e=>b2.extBut c o n e
    exact ⟨b1,lift _ _ D.TIz (kk _ _ D.TIz D.TITO D.TIi1 D.TIi2 iI),⟨_,_,lift _ _ D.TOz a2⟩,a3.at fun o e=>lift _ o D.i1z e,a4.at fun o e=>lift _ o D.i2z e⟩
  done:=by
    intro X hP hw hK hc i pins s σ H E I hf st hg
    subst hP hw hK
    obtain ⟨iz,iI,⟨a,b,iO⟩,g1,g2⟩:=st
    obtain ⟨xs,ys,q1,q2,hx⟩:=hg
    obtain ⟨is1,r1,m1⟩:=I.sqk q1
    obtain ⟨is2,r2,m2⟩:=I.sqk q2
    have e1:=r1.length
    have e2:=r2.length
    refine zipEnd (I.ok.hd hc) D iz iI iO g1 g2 m1 m2 (hx.elim (fun h=>.inl (by simp; omega)) fun h=>.inr (by simp; omega)) fun h' kk=>⟨rfl,?_⟩
    refine I.turnedN (t':=s.toks) (ch:=[z,TI,TO,p1,p2]) (fun c o hcn e=>?_) hf
    simp only [List.mem_cons,List.not_mem_nil,or_false,not_or] at hcn
    obtain ⟨n1,n2,n3,n4,n5⟩:=hcn
    exact kk c o n1 n3 n4 n5 e
  self:=fun _ _ _ _ _ st h=>wpAny_pyIter_zip st.1 h
noncomputable def iZip (K:PySem.W.Frag) (ta:TA):TI:=fun σ H R=>ta σ H fun vs H1=>∃ k1 k2 l1 l2,vs=[.ref l1,.ref l2]∧(∃ xs,SqK K k1 H1 l1 xs)∧(∃ ys,SqK K k2 H1 l2 ys)∧R (Itz K k1 k2 l1 l2) H1
theorem pi_zip {X:Cx} {elts:List Expr} {kx:Nat} {tp:Pos} {a b:Expr} {ta:TA} {p pos:Pos} (hg:Gl X "zip") (hm:X.mg "zip" = none) (ha:PA X [a,b] ta)
    (hs:starEach [a,b] X.env=[(false,eval a X.env),(false,eval b X.env)]:=by rfl) (hs2:starEach [b] X.env=[(false,eval b X.env)]:=by rfl):PI X (.Tuple elts kx tp) (.Call (.Name "zip" p) [a,b] [] pos) (iZip X.K ta):=by
  intro pins s σ H R I h
  refine Call_ (ld_blt I hg hm PyProof.Rows.boot_zip (PyProof.Rows.callWith_type1 (thn (ha pos pins s σ H _ I h) fun us s1 ⟨vs,H1,I1,r1,q1⟩=>?_) (by rw [hs,hs2]) (by rw [hs2]; rfl)))
  obtain ⟨k1,k2,l1,l2,e,⟨xs,q2⟩,⟨ys,q3⟩,q⟩:=q1
  subst e
  cases r1 with
  | cons r rr =>
    cases rr with
    | cons r' rr =>
      cases rr
      cases r
      cases r'
      obtain ⟨is1,_,m1⟩:=I1.sqk q2
      obtain ⟨is2,_,m2⟩:=I1.sqk q3
      have lt1:l1<s1.heap.objs.size:=by obtain ⟨o,e⟩:=m1.obj; exact Heap.lt_size e
      have lt2:l2<s1.heap.objs.size:=by obtain ⟨o,e⟩:=m2.obj; exact Heap.lt_size e
      refine callZip m1 m2 fun h' a1 a2 a3 a4 a5 a6 kk=>?_
      refine wpAny_pyIter_zip (s:={ s1 with heap:=h' }) a1 ?_
      have D:ZipApart (s1.heap.objs.size+4) (s1.heap.objs.size+2) (s1.heap.objs.size+3) s1.heap.objs.size (s1.heap.objs.size+1) l1 l2:=PyProof.Rows.zipApart_new lt1 lt2
      refine ⟨s1.heap.objs.size+4,_,_,_,H1,rfl,I1.kept (t':=s1.toks) kk,turn_zip D,⟨a1,a2,⟨_,_,a3⟩,a4,a5⟩,fun c hc=>?_,q⟩
      have hge:s1.heap.objs.size≤c:=by
        simp only [List.mem_cons,List.not_mem_nil,or_false] at hc
        rcases hc with rfl | rfl | rfl | rfl | rfl
        · exact Nat.le_add_right _ _
        · exact Nat.le_add_right _ _
        · exact Nat.le_add_right _ _
        · exact Nat.le_refl _
        · exact Nat.le_add_right _ _
      exact I1.fpOk hge (I1.hok.fresh hge)
end L2

namespace L2
open PySem PySem.Spec PyProof.Rows
section
variable {X:Cx} {pins:List (Addr × Obj)} {σ:St} {H:Hp} {s:Shared} {p:Addr}
theorem Inv.swap {a b:HO} (I:Inv X pins σ H s) (hp:H p=some a) (ha:(∀ x,a ≠ .own x)∧∀ xs,a ≠ .tup xs) (h1:∀ xs,X.H₀ p≠some (.tup xs)) (h2:∀ o u,X.H₀ p≠some (.frz o u)) (h3:∀ ps,X.H₀ p≠some (.tbl ps))
    (new:ObjOk X.prog X.w H s.heap p b):Inv X pins σ (upd H p b) s:=by
  have ne:∀ {c:Addr},H c=none→c≠p:=fun {c} q z=>by subst z; rw [hp] at q; cases q
  have st:∀ {c:Addr} {o:HO},ObjOk X.prog X.w H s.heap c o→ObjOk X.prog X.w (upd H p b) s.heap c o:=fun {c o} x =>
    x.stay (fun _ _ _ q=>q) (fun d q=>by
      have:d≠p:=by intro z; subst z; rw [hp] at q; cases q; exact ha.1 _ rfl
      rw [upd_ne this]; exact q) fun d xs q=>by
      have:d≠p:=by intro z; subst z; rw [hp] at q; cases q; exact ha.2 _ rfl
      rw [upd_ne this]; exact q
  refine ⟨I.ok,I.os,I.bare,⟨I.base.keep,I.base.slot,fun c o e n x=>?_,I.base.there,fun c xs q=>?_,fun c o u q=>?_,fun c ps q=>?_⟩,I.loc,I.cell,?_,fun x c e=>?_,fun q hq=>?_,fun c o q=>?_,I.len⟩
  · have:=I.base.free c o e n x
    rw [upd_ne (ne this)]; exact this
  · have:c≠p:=by intro z; subst z; exact h1 xs q
    rw [upd_ne this]; exact I.base.tups c xs q
  · have:c≠p:=by intro z; subst z; exact h2 o u q
    rw [upd_ne this]; exact I.base.frzs c o u q
  · have:c≠p:=by intro z; subst z; exact h3 ps q
    rw [upd_ne this]; exact I.base.tbls c ps q
  · rw [upd_ne (ne I.free)]; exact I.free
  · rw [upd_ne (ne (I.freeC x c e))]; exact I.freeC x c e
  · obtain ⟨a1,a2,a3,a4,a5⟩:=I.pin q hq
    exact ⟨a1,by rw [upd_ne (ne a2)]; exact a2,a3,a4,a5⟩
  · by_cases z:c=p
    · subst z; rw [upd_same] at q; cases q; exact st new
    · rw [upd_ne z] at q; exact st (I.hok c o q)
theorem Inv.freeze {xs:List V} (I:Inv X pins σ H s) (hp:H p=some (.lst xs)):∃ o,Inv X pins σ (upd H p (.frz o (.lst xs))) s:=by
  have k:=I.hok p _ hp
  obtain ⟨z,its,n,r,e⟩:=id k
  refine ⟨_,I.swap hp ⟨fun _ q=>(nomatch q),fun _ q=>(nomatch q)⟩ (fun ys q=>?_) (fun o u q=>?_) (fun ps q=>?_) ⟨e,k⟩⟩
  · rw [I.base.tups p ys q] at hp; cases hp
  · rw [I.base.frzs p o u q] at hp; cases hp
  · obtain ⟨more,q⟩:=I.base.tbls p ps q; rw [q] at hp; cases hp
structure Loose (X:Cx) (p:Addr):Prop where
  t:∀ xs,X.H₀ p≠some (.tup xs)
  f:∀ o u,X.H₀ p≠some (.frz o u)
  b:∀ ps,X.H₀ p≠some (.tbl ps)
theorem Inv.loose {xs:List V} (I:Inv X pins σ H s) (hp:H p=some (.lst xs)):Loose X p :=
  ⟨fun ys q=>(by rw [I.base.tups p ys q] at hp; cases hp),fun o u q=>(by rw [I.base.frzs p o u q] at hp; cases hp),fun ps q=>(by obtain ⟨more,q⟩:=I.base.tbls p ps q; rw [q] at hp; cases hp)⟩
noncomputable def tFrz (t:TE):TE:=fun σ H Q=>t σ H fun v H1=>∃ p xs,v = .ref p∧H1 p=some (.lst xs)∧∀ o,Q v (upd H1 p (.frz o (.lst xs)))
theorem pe_frz {x:Expr} {t:TE} (h:PE X x t):PE X x (tFrz t):=fun pins s σ H Q I q =>
  wpAny_mono (h pins s σ H _ I q) (fun u s1 zz=>by
    obtain ⟨v,H1,I1,r,p,xs,e,hp,q1⟩:=zz
    obtain ⟨o,I2⟩:=I1.freeze hp
    exact ⟨v,_,I2,r,q1 o⟩) fun _ _ z=>z
theorem pu_frz {i:Nat} {y:Str} {pos':Pos} {x:Expr} {t:TE} (h:PU X i y pos' x t):PU X i y pos' x (tFrz t):=fun pins s σ H Q I q =>
  wpAny_mono (h pins s σ H _ I q) (fun u s1 zz=>by
    obtain ⟨v,H1,I1,p,xs,e,hp,q1⟩:=zz
    obtain ⟨o,I2⟩:=I1.freeze hp
    exact ⟨v,_,I2,q1 o⟩) fun _ _ z=>z
noncomputable def tFrzM (t:TE):TE:=fun σ H Q=>t σ H fun v H1=>(∃ p xs,v = .ref p∧H1 p=some (.lst xs)∧∀ o,Q v (upd H1 p (.frz o (.lst xs))))∨Q v H1
theorem pe_frzM {x:Expr} {t:TE} (h:PE X x t):PE X x (tFrzM t):=fun pins s σ H Q I q =>
  wpAny_mono (h pins s σ H _ I q) (fun u s1 zz=>by
    obtain ⟨v,H1,I1,r,z⟩:=zz
    rcases z with ⟨p,xs,e,hp,q1⟩ | q1
    · obtain ⟨o,I2⟩:=I1.freeze hp
      exact ⟨v,_,I2,r,q1 o⟩
    · exact ⟨v,H1,I1,r,q1⟩) fun _ _ z=>z
noncomputable def hidO (p:Addr) (xs:List V):HO:=.ext fun h=>xs.length≤sizeLine∧∃ (its:List Value) (n:Nat),Vals xs its∧h.get? p=some { cls:=.type "list",data:=.seq its.toArray n }
theorem Inv.hide {xs:List V} (I:Inv X pins σ H s) (hp:H p=some (.lst xs)):Inv X pins σ (upd H p (hidO p xs)) s:=by
  have k:=I.hok p _ hp
  have l:=I.loose hp
  obtain ⟨z,its,n,r,e⟩:=id k
  exact I.swap hp ⟨fun _ q=>(nomatch q),fun _ q=>(nomatch q)⟩ l.t l.f l.b ⟨⟨z,its,n,r,e⟩,⟨_,e⟩,fun h1 h2 ⟨z,its,n,r,e⟩ k=>⟨z,its,n,r,k _ e⟩⟩
theorem Inv.show' {xs:List V} (I:Inv X pins σ H s) (l:Loose X p) (hp:H p=some (hidO p xs)):Inv X pins σ (upd H p (.lst xs)) s:=by
  obtain ⟨k,_,_⟩:=I.hok p _ hp
  exact I.swap hp ⟨fun _ q=>(nomatch q),fun _ q=>(nomatch q)⟩ l.t l.f l.b k
noncomputable def tHide (p:Addr) (t:TE):TE:=fun σ H Q=>∃ xs,H p=some (.lst xs)∧t σ (upd H p (hidO p xs)) fun v H1=>H1 p=some (hidO p xs)∧Q v (upd H1 p (.lst xs))
theorem pe_hide {x:Expr} {t:TE} (h:PE X x t):PE X x fun σ H Q=>∃ p,tHide p t σ H Q:=fun pins s σ H Q I ⟨p,xs,hp,q⟩ =>
  wpAny_mono (h pins s σ _ _ (I.hide hp) q) (fun u s1 ⟨v,H1,I2,r,hp1,q1⟩=>⟨v,_,I2.show' (I.loose hp) hp1,r,q1⟩) fun _ _ z=>z
noncomputable def tHideT (p:Addr) (t:TT):TT:=fun σ H Q=>∃ xs,H p=some (.lst xs)∧t σ (upd H p (hidO p xs)) fun v H1=>H1 p=some (hidO p xs)∧Q v (upd H1 p (.lst xs))
theorem pifs_hide {ifs:List Expr} {t:TT} (h:PIfs X ifs t):PIfs X ifs fun σ H Q=>∃ p,tHideT p t σ H Q:=fun pins s σ H Q I ⟨p,xs,hp,q⟩ =>
  wpAny_mono (h pins s σ _ _ (I.hide hp) q) (fun u s1 ⟨H1,I2,hp1,q1⟩=>⟨_,I2.show' (I.loose hp) hp1,q1⟩) fun _ _ z=>z
noncomputable def tHideG (p:Addr) (g:TG):TG:=fun v σ H Q=>∃ xs,H p=some (.lst xs)∧g v σ (upd H p (hidO p xs)) fun σ1 H1=>H1 p=some (hidO p xs)∧Q σ1 (upd H1 p (.lst xs))
theorem pg_hide {tg:Expr} {g:TG} (h:PG X tg g):PG X tg fun v σ H Q=>∃ p,tHideG p g v σ H Q:=fun pins s σ H v u Q I r ⟨p,xs,hp,q⟩ =>
  wpAny_mono (h pins s σ _ v u _ (I.hide hp) r q) (fun u s1 ⟨σ1,H1,I2,hp1,q1⟩=>⟨σ1,_,I2.show' (I.loose hp) hp1,q1⟩) fun _ _ z=>z
end
section
variable {X:Cx} {pos:Pos}
end
end L2

namespace L2
open PySem PySem.Spec PyProof.Rows
section
variable {X:Cx} {e:Expr} {te:TE} {st:Expr} {ts:TO} {pos p2:Pos}
end
end L2

namespace L2
open PySem PySem.Spec PyProof.Rows
theorem lri_nolen:typeLookup (.type "list_reverseiterator") "__len__" = pure none:=by rw [typeLookup_type,builtinLookup_eq_fast]; kernel_rfl
theorem lri_ishint:typeLookup (.type "list_reverseiterator") "__length_hint__" = pure (some (.builtin "list_reverseiterator.__length_hint__")):=by rw [typeLookup_type,builtinLookup_eq_fast]; kernel_rfl
section
variable {prog:Program} {w:World} {A:Around} {E:Value→Shared→Prop} {s:Shared}
theorem rev_hint {it l:Addr} {i:Int} {Q:Bool→Shared→Prop} (hit:s.heap.IsRevIter it l i) (h:Q false s):wpAny (model prog w) A (Builtin.List.listLengthHint (.ref it)) Q E s:=by
  have hT:=hit.typeIs
  unfold Builtin.List.listLengthHint
  refine wpAny_bind (wpAny_specialOf hT lri_nolen ?_)
  show wpAny _ A (specialOf (Value.ref it) (Str.ofString "__length_hint__") >>= _) Q E s
  refine wpAny_bind (wpAny_specialOf hT lri_ishint ?_)
  generalize hv:("list_reverseiterator.__length_hint__" : String)=nm
  wp_delta
  rw [show splitId nm=some ("list_reverseiterator", "__length_hint__") by subst hv; decide +kernel]
  subst hv
  refine wpAny_bind (wpAny_isInstance (T := "list_reverseiterator") (b:=true) hT (by rw [isSubtype_type]; kernel_rfl) ?_)
  refine wpAny_ite_split (fun z=>absurd z (by decide)) (fun _=>?_)
  refine wpAny_ite_split (fun _=>?_) (fun z=>absurd (by decide +kernel) z)
  refine wpAny_ite_split (fun z=>absurd z (by decide)) (fun _=>?_)
  exact wpAny_pure h
noncomputable abbrev RevAt (items:Array Value):Nat→Value→Prop:=fun j x=>items[items.size - 1 - j]? = some x
noncomputable abbrev Fin2 (prog:Program) (w:World) (A:Around) (R:Result→Shared→Prop):Fin→Shared→Prop:=fun z s'=>match z with | .done f=>R (.ok f) s' | .again c'=>c'.quiet=true∧codeAny (model prog w) A c' R s'
theorem rev_extend {R:Result→Shared→Prop} {it l S:Addr} {items:Array Value} {c₀:Nat} (hh:A.handled=none) (hit:s.heap.IsRevIter it l ((items.size:Int) - 1)) (hl:s.heap.IsList l items) (hne:l≠it) (hi:S≠it) (hj:S≠l) (hz:items.size≤sizeLine)
    (hS:s.heap.get? S=some { cls:=.type "list",data:=.seq #[] c₀ })
    (fin:∀ h' tk acc c1,(∀ b o,b≠S→b≠it→s.heap.get? b=some o→h'.get? b=some o)→h'.get? S=some { cls:=.type "list",dict:=none,data:=.seq acc c1,slots:=#[] }→ItemsOf (RevAt items) acc items.size→R (.ok (.ret .none)) { s with heap:=h',toks:=tk }) :
    wpAny (model prog w) A.in1 (Builtin.List.listExtendWith (.ref S) (.ref it) .none) (Fin2 prog w A R) (fun e s'=>R (.error e) s') s:=by
  have V:=(Walks.listRev (prog:=prog) (w:=w) (A:=A.in1) hh it l hne items).toS
  have nf:S∉[it,l]:=fun q=>by
    rcases List.mem_cons.mp q with q | q
    · exact hi q
    · exact hj (List.mem_singleton.mp q)
  unfold Builtin.List.listExtendWith
  refine wpAny_bind (wpAny_typeOf hit.typeIs ?_)
  have n1:Builtin.List.listSameRef (.ref S) (.ref it)=false:=by simp [Builtin.List.listSameRef,hi]
  have n2:(Value.type "list_reverseiterator" == Value.type "list")=false:=by decide
  have n3:(Value.type "list_reverseiterator" == Value.type "tuple")=false:=by decide
  simp only [n1,n2,n3,Bool.or_false,Bool.false_eq_true,if_false]
  refine wpAny_bind (wpAny_pyIter_revIter hit (wpAny_bind (wpAny_holding (rev_hint hit ?_))))
  refine wpAny_ite_split (fun z=>absurd z (by decide +kernel)) (fun _=>?_)
  refine wpAny_pure ⟨plainId_quiet F.plain_extend_loop _,?_⟩
  have h0:((items.size:Int) - 1 - ((0:Nat):Int))=(items.size:Int) - 1:=by omega
  refine codeAny_extend_loopS V hz S nf .none items.size 0 s #[] c₀ rfl (Nat.zero_le _) ⟨Nat.zero_le _,by rw [h0]; exact hit,hl⟩ hS (ItemsOf.nil _) fun s2 acc c1 mv g1 g2=>?_
  rw [Moved.eq_with mv]
  exact fin s2.heap s2.toks acc c1 (fun b o q1 q2 q3=>mv.heap b o (fun q=>(List.mem_cons.mp q).elim q1 fun q'=>q2 (List.mem_singleton.mp q')) q3) g1 g2
theorem rev_init {R:Result→Shared→Prop} {it l S:Addr} {items:Array Value} (hh:A.handled=none) (hit:s.heap.IsRevIter it l ((items.size:Int) - 1)) (hl:s.heap.IsList l items) (hne:l≠it) (hi:S≠it) (hj:S≠l) (hz:items.size≤sizeLine)
    (hS:s.heap.get? S=some { cls:=.type "list",data:=.seq #[] })
    (fin:∀ h' tk acc c1,(∀ b o,b≠S→b≠it→s.heap.get? b=some o→h'.get? b=some o)→h'.get? S=some { cls:=.type "list",dict:=none,data:=.seq acc c1,slots:=#[] }→ItemsOf (RevAt items) acc items.size→R (.ok (.ret .none)) { s with heap:=h',toks:=tk }) :
    wpAny (model prog w) A.in1 (Builtin.«list.__init__» ⟨[.ref S,.ref it],[]⟩) (Fin2 prog w A R) (fun e s'=>R (.error e) s') s:=by
  show wpAny _ A.in1 (Builtin.List.listItems (.ref S) >>= fun was=>Builtin.List.listUpdate (.ref S) (fun _=>#[]) >>= fun _=>letGo was.toList.reverse >>= fun _=>Builtin.List.listExtendWith (.ref S) (.ref it) .none) (Fin2 prog w A R) (fun e s'=>R (.error e) s') s
  unfold Builtin.List.listItems
  refine wpAny_bind (wpAny_bind (wpAny_seqItems hS rfl (wpAny_pure ?_)))
  show wpAny _ A.in1 (updateSeq S (fun _=>#[]) >>= fun _=>letGo (#[]:Array Value).toList.reverse >>= fun _=>Builtin.List.listExtendWith (.ref S) (.ref it) .none) (Fin2 prog w A R) (fun e s'=>R (.error e) s') s
  refine wpAny_bind (wpAny_updateSeq hS rfl (wpAny_bind (wpAny_letGo ?_)))
  have g:=Heap.get?_update_self (Obj.mapSeq fun _=>(#[]:Array Value)) hS rfl
  have oth:∀ b o,b≠S→s.heap.get? b=some o→(s.heap.update S (Obj.mapSeq fun _=>(#[]:Array Value))).get? b=some o:=fun b o q1 q2=>(Heap.get?_update_other _ _ (Ne.symm q1)).trans q2
  refine rev_extend hh (hit.at fun o e=>oth it o (Ne.symm hi) e) (hl.at fun o e=>oth l o (Ne.symm hj) e) hne hi hj hz g fun h' tk acc c1 q1 q2 q3=>?_
  exact fin h' tk acc c1 (fun b o b1 b2 e=>q1 b o b1 b2 (oth b o b1 e)) q2 q3
theorem call_list_rev {it l:Addr} {items:Array Value} {Q:Value→Shared→Prop} (hh:A.handled=none) (hit:s.heap.IsRevIter it l ((items.size:Int) - 1)) (hl:s.heap.IsList l items) (hne:l≠it) (hz:items.size≤sizeLine)
    (fin:∀ h' tk acc c1,(∀ b o,b≠it→s.heap.get? b=some o→h'.get? b=some o)→h'.get? s.heap.objs.size=some { cls:=.type "list",dict:=none,data:=.seq acc c1,slots:=#[] }→ItemsOf (RevAt items) acc items.size→Q (.ref s.heap.objs.size) { s with heap:=h',toks:=tk }) :
    wpAny (model prog w) A (call (.type "list") [.ref it]) Q E s:=by
  obtain ⟨oi,hoi,_⟩:=id hit
  obtain ⟨ol,hol,_⟩:=id hl
  have i1:s.heap.objs.size≠it:=Nat.ne_of_gt (Heap.lt_size hoi)
  have i2:s.heap.objs.size≠l:=Nat.ne_of_gt (Heap.lt_size hol)
  let h1:=s.heap.push { cls:=.type "list",data:=.seq #[] }
  have up:∀ b o,s.heap.get? b=some o→h1.get? b=some o:=fun b o e=>Heap.get?_push_of_some _ e
  have gS:h1.get? s.heap.objs.size=some { cls:=.type "list",data:=.seq #[] }:=Heap.get?_push_size _ rfl
  refine callType_codes (Q₁:=fun x s1=>x = .ref s.heap.objs.size∧s1 = { s with heap:=h1 }) F.called_list (F.typeCall_list_1 _) F.entry_list_init (code_list_new _ ⟨rfl,rfl⟩) ?_
  rintro x s1 ⟨rfl,rfl⟩
  refine ⟨⟨_,gS,rfl⟩,F.args_list_init_2 _ _,rev_init (A:=A.in1) hh (hit.at fun o e=>up it o e) (hl.at fun o e=>up l o e) hne i1 i2 hz gS fun h' tk acc c1 q1 q2 q3=>?_⟩
  exact ⟨rfl,fin h' tk acc c1 (fun b o b1 e=>q1 b o (Nat.ne_of_lt (Heap.lt_size e)) b1 (up b o e)) q2 q3⟩
end
section
variable {X:Cx}
noncomputable def dropH (H:Hp) (a:Addr):Hp:=fun b=>if b=a then none else H b
theorem dropH_ne {H:Hp} {a b:Addr} (h:b≠a):dropH H a b=H b:=if_neg h
theorem dropH_same {H:Hp} {a:Addr}:dropH H a a=none:=if_pos rfl
theorem rev_items {items:Array Value} {acc:Array Value} (h:ItemsOf (RevAt items) acc items.size):acc.toList=items.toList.reverse:=by
  obtain ⟨h1,h2⟩:=h
  apply List.ext_getElem
  · rw [List.length_reverse,Array.length_toList,Array.length_toList,h1]
  · intro j g1 g2
    rw [Array.length_toList] at g1
    have e:=h2 j acc[j] (Array.getElem?_eq_getElem g1)
    have e2:items.size - 1 - j<items.size:=by omega
    have e3:items[items.size - 1 - j]? = some (items[items.size - 1 - j]'e2):=Array.getElem?_eq_getElem e2
    have e4:items[items.size - 1 - j]'e2=acc[j]:=Option.some.inj (e3.symm.trans e)
    rw [List.getElem_reverse,Array.getElem_toList,Array.getElem_toList,← e4]
    congr 1
end
theorem Vals.take':∀ {xs:List V} {us:List Value} (k:Nat),Vals xs us→Vals (xs.take k) (us.take k)
  | _,_,0,_=>.nil
  | _,_,_+1,.nil=>.nil
  | _,_,k+1,.cons r t=>.cons r (Vals.take' k t)
theorem Vals.drop':∀ {xs:List V} {us:List Value} (k:Nat),Vals xs us→Vals (xs.drop k) (us.drop k)
  | _,_,0,h=>h
  | _,_,_+1,.nil=>.nil
  | _,_,k+1,.cons _ t=>Vals.drop' k t
section
variable {X:Cx}
noncomputable def rInsert:V→List V→Hp→VK→Prop:=fun x vs H Q=>∃ l xs y,∃ k:Nat,x = .ref l∧vs=[.int (k:Int),y]∧H l=some (.lst xs)∧k≤xs.length∧xs.length<sizeLine∧Q .non (upd H l (.lst (xs.take k++y :: xs.drop k)))
theorem mt_insert:MtM X "list.insert" rInsert:=by
  intro pins s σ H x vs v us Q I rx rv h
  obtain ⟨l,xs,y,k,rfl,rfl,hH,hk,hz,q⟩:=h
  cases rx
  · obtain ⟨u1,u,rfl,⟨t,rfl⟩,ru⟩:=vals2 rv
    obtain ⟨z,its,n,r,hl,e⟩:=I.lstM hH
    have hlen:=r.length
    have hb:(-(2 ^ 63:Int)≤(k:Int))∧(k:Int)<2 ^ 63:=by
      have h1:k<sizeLine:=Nat.lt_of_le_of_lt hk hz
      have h2:(sizeLine:Int)≤2 ^ 62:=by decide +kernel
      omega
    have hf:Builtin.List.listFitsIndex (k:Int)=true:=by
      unfold Builtin.List.listFitsIndex
      rw [decide_eq_true hb.1,decide_eq_true hb.2]; rfl
    generalize hx:(k:Int)=x at *
    refine call_meets F.slot_list_insert ⟨_,e,rfl⟩ F.entry_list_insert (F.args_list_insert_3 _ _ _) (AutoSeq1.list_insert_list_int_val_1 l its.toArray n x t u (by rw [hf]; exact Bool.false_ne_true) (by rw [List.size_toArray]; omega)) ⟨e,?_⟩
    refine ⟨.non,_,I.lset (its':=its.take k++u :: its.drop k) hH e ?_ ((r.take' k).append (.cons ru (r.drop' k))) ?_,rfl,q⟩
    · have ek:(if x<0 then (x+(its.toArray.size:Int)).toNat else min x.toNat its.toArray.size)=k:=by
        rw [if_neg (by omega),List.size_toArray]; omega
      show (its.toArray.extract 0 (if x<0 then (x+(its.toArray.size:Int)).toNat else min x.toNat its.toArray.size)).push u++its.toArray.extract (if x<0 then (x+(its.toArray.size:Int)).toNat else min x.toNat its.toArray.size)=_
      rw [ek]
      apply Array.toList_inj.mp
      simp
      exact List.take_of_length_le (by rw [List.length_drop]; exact Nat.le_refl _)
    · rw [List.length_append,List.length_take,List.length_cons,List.length_drop]; omega
end
theorem meets_rangeRev (r:Addr) (m:Int) (t u v:Tok) (hs:(Builtin.Range.rangeFitsLong 0 && Builtin.Range.rangeFitsLong m && Builtin.Range.rangeFitsLong 1 && Builtin.Range.rangeFitsLong (-1) && Builtin.Range.rangeFitsLong (0 - 1) && Builtin.Range.rangeFitsLong (Builtin.Range.rangeSize 0 m 1))=true) :
    Meets (Builtin.«range.__reversed__» ⟨[.ref r],[]⟩) (fun _ R s=>s.heap.get? r=some { cls:=.type "range",dict:=none,data:=.fields #[.int 0 t,.int m u,.int 1 v],slots:=#[] } ∧
      R (.ok (.ret (Value.ref s.heap.objs.size))) { s with heap:=s.heap.push { cls:=Value.type "range_iterator",data:=Data.fields #[rawInt (0+(Builtin.Range.rangeSize 0 m 1 - 1)*1),rawInt (Builtin.Range.rangeSize 0 m 1),rawInt (-1)] },toks:=s.toks }) :=
  .of_wp fun prog w A R s h=>by
    obtain ⟨hp,g,d,tk,os⟩:=s
    obtain ⟨hl,h⟩:=h
    wp_walk
    rw [hs]
    simp only [Bool.not_true,Bool.false_eq_true,if_false,if_true]
    wp_walk
    exact ⟨_,rfl,h⟩
section
variable {prog:Program} {w:World} {A:Around} {E:Value→Shared→Prop} {s:Shared}
noncomputable abbrev rngObj (m:Int) (t u v:Tok):Obj:={ cls:=.type "range",data:=.fields #[.int 0 t,.int m u,.int 1 v] }
noncomputable abbrev rngBack (m:Int):Obj:={ cls:=.type "range_iterator",data:=.fields #[rawInt (0+(Builtin.Range.rangeSize 0 m 1 - 1)*1),rawInt (Builtin.Range.rangeSize 0 m 1),rawInt (-1)] }
theorem rngBack_sub:isSubtype (.type "range_iterator") (.type "reversed")=pure false:=by rw [isSubtype_type]; kernel_rfl
theorem call_rngRev {r:Addr} {m:Int} {t u v:Tok} {Q:Value→Shared→Prop} (hr:s.heap.get? r=some (rngObj m t u v)) (hs:(Builtin.Range.rangeFitsLong 0 && Builtin.Range.rangeFitsLong m && Builtin.Range.rangeFitsLong 1 && Builtin.Range.rangeFitsLong (-1) && Builtin.Range.rangeFitsLong (0 - 1) && Builtin.Range.rangeFitsLong (Builtin.Range.rangeSize 0 m 1))=true)
    (h:Q (.ref s.heap.objs.size) { s with heap:=s.heap.push (rngBack m) }):wpAny (model prog w) A (call (.builtin "range.__reversed__") [.ref r]) Q E s :=
  call_meets F.slot_range_reversed ⟨_,hr,rfl⟩ F.entry_range_reversed (F.args_range_reversed_1 _) (meets_rangeRev r m t u v hs) ⟨hr,h⟩
theorem code_rngRev {r:Addr} {m:Int} {t u v:Tok} {Q:Value→Shared→Prop} (hr:s.heap.get? r=some (rngObj m t u v)) (hs:(Builtin.Range.rangeFitsLong 0 && Builtin.Range.rangeFitsLong m && Builtin.Range.rangeFitsLong 1 && Builtin.Range.rangeFitsLong (-1) && Builtin.Range.rangeFitsLong (0 - 1) && Builtin.Range.rangeFitsLong (Builtin.Range.rangeSize 0 m 1))=true)
    (h:Q (.ref s.heap.objs.size) { s with heap:=s.heap.push (rngBack m) }):codeAny (model prog w) A (.call (.builtin "reversed.__new__") ⟨[.type "reversed",.ref r],[]⟩) (wants Q E) s:=by
  have hT:s.TypeIs (.ref r) "range" := ⟨_,hr,rfl⟩
  refine codeAny_of_tree ?_
  show wpAny _ A.in1 (checkBuiltinCall "reversed.__new__" ⟨[.type "reversed",.ref r],[]⟩ >>= fun _=>again (.builtin "reversed.__new__" ⟨[.type "reversed",.ref r],[]⟩)) _ _ s
  refine wpAny_bind (wpAny_of_eq (F.newCall_reversed_1 _) (wpAny_pure ⟨plainId_quiet F.plain_reversed_new _,codeAny_builtin F.entry_reversed_new ?_⟩))
  rw [Around.under_plainId F.plain_reversed_new _]
  unfold Builtin.«reversed.__new__»
  refine wpAny_bind (wpAny_of_eq (newClass_reversed _) ?_)
  try dsimp only
  refine wpAny_bind (wpAny_of_eq (a:=()) (by first | rfl | kernel_rfl) ?_)
  refine wpAny_bind (wpAny_of_eq (a:=()) (by first | rfl | kernel_rfl) ?_)
  try dsimp only
  refine wpAny_bind (wpAny_specialOf hT F.slot_range_reversed.lookup ?_)
  try dsimp only
  refine wpAny_bind (wpAny_of_eq (F.slot_range_reversed.bind _) ?_)
  try dsimp only
  have ng:¬ ((Value.builtin "range.__reversed__" == Value.none)=true):=Bool.false_ne_true
  first
  | rw [if_neg ng]
  | (show wpAny _ _ (if (Value.builtin "range.__reversed__" == Value.none)=true then _ else _) _ _ _; rw [if_neg ng])
  refine wpAny_bind (wpAny_rule ?_)
  refine wpAny_bind (m:=runValue (.call (.builtin "range.__reversed__") ⟨[.ref r],[]⟩)) (show wpAny _ _ (call (.builtin "range.__reversed__") [.ref r]) _ _ _ from call_rngRev hr hs ?_)
  first
  | exact wpAny_pure h
  | exact wpAny_bind (wpAny_pure (wpAny_pure h))
end
section
variable {prog:Program} {w:World} {A:Around} {E:Value→Shared→Prop} {s:Shared}
theorem call_revRange {r:Addr} {m:Int} {t u v:Tok} {Q:Value→Shared→Prop} (hr:s.heap.get? r=some (rngObj m t u v)) (hs:(Builtin.Range.rangeFitsLong 0 && Builtin.Range.rangeFitsLong m && Builtin.Range.rangeFitsLong 1 && Builtin.Range.rangeFitsLong (-1) && Builtin.Range.rangeFitsLong (0 - 1) && Builtin.Range.rangeFitsLong (Builtin.Range.rangeSize 0 m 1))=true)
    (h:Q (.ref s.heap.objs.size) { s with heap:=s.heap.push (rngBack m) }):wpAny (model prog w) A (call (.type "reversed") [.ref r]) Q E s:=by
  refine callType_other (U := "range_iterator") (Q₁:=fun x s1=>x = .ref s.heap.objs.size∧s1 = { s with heap:=s.heap.push (rngBack m) }) (by decide +kernel) F.create_reversed ⟨_,_,F.mro_reversed⟩ F.made_reversed rngBack_sub
    (F.typeCall_reversed_1 _) (code_rngRev hr hs ⟨rfl,rfl⟩) ?_
  rintro x s1 ⟨rfl,rfl⟩
  exact ⟨⟨_,Heap.get?_push_size _ rfl,rfl⟩,h⟩
end
noncomputable def Itd (hi:Int) (n:Nat):It:=⟨fun i _=>i<n,fun i H x H'=>H'=H∧x = .int (hi - i),fun i _=>n≤i⟩
theorem turn_down {P:Program} {w:World} {K:PySem.W.Frag} {tg:Expr} (it:Addr) (hi:Int) (n:Nat):Turn P w K tg (Itd hi n) [it] it (fun i h=>IsRangeIter h it (hi+(i:Nat)*(-1)) ((n:Int) - (i:Nat)) (-1)) where
  mem:=by simp
  obj:=fun i h st b hb=>by
    obtain rfl:b=it:=by simpa using hb
    exact ⟨_,st,fun v z=>by
      have q:Data.fields _=Data.cell v:=z
      cases q⟩
  keep:=fun i h h' st k=>k it (by simp) _ st
  item:=by
    intro X hP hw hK hc i pins s σ H E I hf st hg
    subst hP hw hK
    obtain ⟨f0,f1,f2,f3,f4,f5⟩:=hf it (by simp)
    have W:=Walks.range (prog:=X.prog) (w:=X.w) (I.ok.hd hc) it hi (-1) n
    refine W.item i s _ _ hg st fun v h' tk hv st' kk=>?_
    obtain ⟨t,rfl⟩:=hv
    have I1:Inv X pins σ H { s with heap:=h',toks:=tk }:=I.turned (fun b o hb e=>kk b o (by simpa using hb) e) f0 f1 f3 f4 f5
    refine ⟨_,rfl,go_of (s:={ s with heap:=h',toks:=tk }) (n := "range_iterator") st' rfl rfl (by decide) ⟨.int (hi - i),H,I1,⟨t,?_⟩,⟨rfl,rfl⟩,st',fun b hb=>(hf b hb).1⟩⟩
    rw [show hi+(i:Int) * -1=hi - i by omega]
  done:=by
    intro X hP hw hK hc i pins s σ H E I hf st hg
    subst hP hw hK
    obtain ⟨f0,f1,f2,f3,f4,f5⟩:=hf it (by simp)
    exact wpAny_pyNext_range_end (I.ok.hd hc) st (by have:n≤i:=hg; omega) fun h' eb=>⟨rfl,I.turned (t':=s.toks) (fun b o hb e=>eb b o hb e) f0 f1 f3 f4 f5⟩
  self:=fun _ _ _ _ _ st h=>wpAny_pyIter_rangeiter st h
section
variable {X:Cx}
noncomputable def rngφ (p:Addr) (j:Int):Heap→Prop:=fun h=>∃ t u v,h.get? p=some (rngObj j t u v)
theorem cr_range:CallR X (.type "range") (fun xs H Q=>∃ j:Int,xs=[.int j]∧∀ p,H p=none→X.s₀.heap.objs.size≤p→Q (.ref p) (upd H p (.ext (rngφ p j)))):=by
  intro pins s σ H xs us Q I rv h
  obtain ⟨j,rfl,q⟩:=h
  obtain ⟨u,rfl,t,rfl⟩:=vals1 rv
  have e:(s.heap.push (rngObj j s.toks t (s.toks+1))).get? s.heap.objs.size=some (rngObj j s.toks t (s.toks+1)):=Heap.get?_push_size _ rfl
  refine call_range_1 ⟨.ref s.heap.objs.size,_,I.laid (t':=s.toks+1+1) (o:=.ext (rngφ s.heap.objs.size j)) (fun b u e=>Heap.get?_push_of_some _ e) (Nat.le_refl _) ?_,rfl,q _ I.fresh I.sz⟩
  exact ⟨⟨_,_,_,e⟩,⟨_,e⟩,fun h1 h2 z k=>by
    obtain ⟨t,u,v,z⟩:=z
    exact ⟨t,u,v,k _ z⟩⟩
theorem fits_ok {j:Int} (h1:-(2 ^ 62)≤j) (h2:j<2 ^ 62):(Builtin.Range.rangeFitsLong 0 && Builtin.Range.rangeFitsLong j && Builtin.Range.rangeFitsLong 1 && Builtin.Range.rangeFitsLong (-1) && Builtin.Range.rangeFitsLong (0 - 1) && Builtin.Range.rangeFitsLong (Builtin.Range.rangeSize 0 j 1))=true:=by
  have f:∀ x:Int,-(2 ^ 62)≤x→x<2 ^ 62→Builtin.Range.rangeFitsLong x=true:=fun x a b=>by
    unfold Builtin.Range.rangeFitsLong
    rw [decide_eq_true (show -(2 ^ 63)≤x by omega),decide_eq_true (show x<2 ^ 63 by omega)]; rfl
  rw [f 0 (by decide) (by decide),f j h1 h2,f 1 (by decide) (by decide),f (-1) (by decide) (by decide),f (0 - 1) (by decide) (by decide),f _ (by rw [rangeSize_one]; split <;> omega) (by rw [rangeSize_one]; split <;> omega)]; rfl
noncomputable def iRev (ta:TA):TI:=fun σ H R=>ta σ H fun vs H1=>∃ j:Int,∃ p,vs=[.ref p]∧H1 p=some (.ext (rngφ p j))∧0≤j∧j<2 ^ 62∧R (Itd (j - 1) j.toNat) H1
theorem pi_rev {tg:Expr} {a:Expr} {ta:TA} {p pos:Pos} (hg:Gl X "reversed") (hm:X.mg "reversed" = none) (hv:bootBuiltins "reversed" = some (.type "reversed")) (ha:PA X [a] ta) (hs:starEach [a] X.env=[(false,eval a X.env)]:=by rfl):PI X tg (.Call (.Name "reversed" p) [a] [] pos) (iRev ta):=by
  intro pins s σ H R I h
  refine Call_ (ld_blt I hg hm hv (PyProof.Rows.callWith_type1 (thn (ha pos pins s σ H _ I h) fun us s1 zz=>?_) hs rfl))
  obtain ⟨vs,H1,I1,r1,q1⟩:=zz
  obtain ⟨j,r,e,hH,b1,b2,q⟩:=q1
  subst e
  obtain ⟨u,rfl,ru⟩:=vals1 r1
  cases ru
  obtain ⟨t,u,v,hr⟩:=(I1.hok r _ hH).1
  refine call_revRange hr (fits_ok (by omega) b2) ?_
  have e0:(s1.heap.push (rngBack j)).get? s1.heap.objs.size=some (rngBack j):=Heap.get?_push_size _ rfl
  have en:Builtin.Range.rangeSize 0 j 1=((j.toNat:Nat):Int):=by rw [rangeSize_one]; split <;> omega
  have I2:Inv X pins σ H1 { s1 with heap:=s1.heap.push (rngBack j) }:=I1.kept (t':=s1.toks) fun b o e=>Heap.get?_push_of_some _ e
  have st:IsRangeIter (s1.heap.push (rngBack j)) s1.heap.objs.size ((j - 1)+((0:Nat):Int)*(-1)) ((j.toNat:Int) - ((0:Nat):Int)) (-1):=by
    show (s1.heap.push (rngBack j)).get? s1.heap.objs.size=some _
    rw [e0]
    unfold rngBack
    rw [en,show 0+(((j.toNat:Nat):Int) - 1)*1=(j - 1)+((0:Nat):Int)*(-1) by omega,show (j.toNat:Int) - ((0:Nat):Int)=((j.toNat:Nat):Int) by omega]
  refine wpAny_pyIter_rangeiter st ⟨s1.heap.objs.size,[s1.heap.objs.size],_,_,H1,rfl,I2,turn_down _ (j - 1) j.toNat,st,fun b hb=>?_,q⟩
  obtain rfl:b=s1.heap.objs.size:=by simpa using hb
  exact I1.fpOk (Nat.le_refl _) (I1.hok.fresh (Nat.le_refl _))
end
end L2

namespace L2
open PySem PySem.Spec PyProof.Rows
theorem tri_nolen:typeLookup (.type "reversed") "__len__" = pure none:=by rw [typeLookup_type,builtinLookup_eq_fast]; kernel_rfl
theorem tri_ishint:typeLookup (.type "reversed") "__length_hint__" = pure (some (.builtin "reversed.__length_hint__")):=by rw [typeLookup_type,builtinLookup_eq_fast]; kernel_rfl
theorem tup_norev:typeLookup (.type "tuple") "__reversed__" = pure none:=by rw [typeLookup_type,builtinLookup_eq_fast]; kernel_rfl
theorem ow_tri:Manifest.owners.lookup (String.ofList ['d','e','s','r','e','v','e','r'].reverse)=some Manifest.sig_reversed:=by kernel_rfl
theorem sl_tri_next:Slot "reversed" "__next__" "reversed.__next__" := .of (owner := "reversed") (n := "__next__")
  (by rw [typeLookup_type,builtinLookup_eq_fast]; kernel_rfl) (by decide +kernel) (by decide +kernel) (by decide +kernel)
  (by first | exact .inl (by decide +kernel) | exact .inr (by decide +kernel)) (by rw [isSubtype_type]; kernel_rfl)
theorem en_tri_next:entryFor table "reversed.__next__" = some Builtin.«reversed.__next__»:=entryFor_of_tree (by kernel_rfl)
theorem ar_tri_next (a:Value):argsOk "reversed.__next__" ⟨[a],[]⟩:=by
  unfold argsOk
  rw [signature?_of (id := "reversed.__next__") (n:=['_','_','t','x','e','n','_','_']) (o:=['d','e','s','r','e','v','e','r']) (by kernel_rfl) ow_tri]
  kernel_rfl
theorem sl_tri_iter:Slot "reversed" "__iter__" "reversed.__iter__" := .of (owner := "reversed") (n := "__iter__")
  (by rw [typeLookup_type,builtinLookup_eq_fast]; kernel_rfl) (by decide +kernel) (by decide +kernel) (by decide +kernel)
  (by first | exact .inl (by decide +kernel) | exact .inr (by decide +kernel)) (by rw [isSubtype_type]; kernel_rfl)
theorem ar_tri_iter (a:Value):argsOk "reversed.__iter__" ⟨[a],[]⟩:=by
  unfold argsOk
  rw [signature?_of (id := "reversed.__iter__") (n:=['_','_','r','e','t','i','_','_']) (o:=['d','e','s','r','e','v','e','r']) (by kernel_rfl) ow_tri]
  kernel_rfl
theorem en_tri_iter:entryFor table "reversed.__iter__" = some Builtin.«dict_keyiterator.__iter__»:=entryFor_alias (id' := "dict_keyiterator.__iter__")
  (by kernel_rfl) (by first | rfl | decide +kernel | (unfold String.splitOn; simp +decide [String.splitOnAux])) (by decide +kernel) (by kernel_rfl)
theorem sl_tri_hint:Slot "reversed" "__length_hint__" "reversed.__length_hint__" := .of (owner := "reversed") (n := "__length_hint__")
  (by rw [typeLookup_type,builtinLookup_eq_fast]; kernel_rfl) (by decide +kernel) (by decide +kernel) (by decide +kernel)
  (by first | exact .inl (by decide +kernel) | exact .inr (by decide +kernel)) (by rw [isSubtype_type]; kernel_rfl)
theorem en_tri_hint:entryFor table "reversed.__length_hint__" = some Builtin.«reversed.__length_hint__»:=entryFor_of_tree (by kernel_rfl)
theorem ar_tri_hint (a:Value):argsOk "reversed.__length_hint__" ⟨[a],[]⟩:=by
  unfold argsOk
  rw [signature?_of (id := "reversed.__length_hint__") (n:=['_','_','t','n','i','h','_','h','t','g','n','e','l','_','_']) (o:=['d','e','s','r','e','v','e','r']) (by kernel_rfl) ow_tri]
  kernel_rfl
theorem sl_tri_init:Slot "reversed" "__init__" "object.__init__" := .of (owner := "object") (n := "__init__")
  (by rw [typeLookup_type,builtinLookup_eq_fast]; kernel_rfl) (by decide +kernel) (by decide +kernel) (by decide +kernel)
  (by first | exact .inl (by decide +kernel) | exact .inr (by decide +kernel)) (by rw [isSubtype_type]; kernel_rfl)
theorem called_tri:TypeCalled "reversed" "reversed.__new__" "object.__init__" :=
  ⟨by decide +kernel,by decide +kernel,⟨_,_,F.mro_reversed⟩,F.made_reversed,by decide +kernel,F.sub_reversed_self,sl_tri_init⟩
noncomputable def triObj (l:Addr) (i:Int):Obj:={ cls:=.type "reversed",data:=.fields #[.ref l,rawInt i] }
noncomputable def IsTri (h:Heap) (a l:Addr) (i:Int):Prop:=∃ o,h.get? a=some o∧o.cls = .type "reversed" ∧ o.data = .fields #[.ref l,rawInt i]
theorem IsTri.typeIs {s:Shared} {a l:Addr} {i:Int} (x:IsTri s.heap a l i):s.TypeIs (.ref a) "reversed" := let ⟨o,ho,hc,_⟩:=x; ⟨o,ho,hc⟩
theorem IsTri.at {h h':Heap} {a l:Addr} {i:Int} (x:IsTri h a l i) (e:∀ o,h.get? a=some o→h'.get? a=some o):IsTri h' a l i:=let ⟨o,ho,r⟩:=x; ⟨o,e _ ho,r⟩
theorem meets_tri (l:Addr) (items:Array Value) (hz:(items.size:Int)<2 ^ 63):Meets (Builtin.«reversed.__new__» ⟨[.type "reversed",.ref l],[]⟩) (fun _ R s=>IsTup s.heap l items∧∀ t,R (.ok (.ret (.ref s.heap.objs.size))) { s with heap:=s.heap.push (triObj l ((items.size:Int) - 1)),toks:=t }) :=
  .of_wp fun prog w A R s h=>by
    obtain ⟨ht,h⟩:=h
    unfold Builtin.«reversed.__new__»
    refine wpAny_bind (wpAny_of_eq (newClass_reversed _) ?_)
    try dsimp only
    refine wpAny_bind (wpAny_of_eq (a:=()) (by first | rfl | kernel_rfl) ?_)
    refine wpAny_bind (wpAny_of_eq (a:=()) (by first | rfl | kernel_rfl) ?_)
    try dsimp only
    refine wpAny_bind (wpAny_specialOf ht.typeIs tup_norev ?_)
    try dsimp only
    refine wpAny_bind ?_
    wp_delta
    refine wpAny_bind (wpAny_isInstance (T := "tuple") (b:=false) ht.typeIs (by rw [isSubtype_type]; kernel_rfl) ?_)
    try dsimp only
    rw [if_neg (by decide)]
    refine wpAny_bind (wpAny_specialOf ht.typeIs slot_tuple_getitem.lookup ?_)
    try dsimp only
    rw [if_pos (by decide +kernel)]
    refine wpAny_pure ?_
    rw [if_neg (by decide)]
    refine wpAny_bind (len_tuple ht hz ?_)
    refine wpAny_bind (wpAny_of_eq (a:=some (items.size:Int)) rfl ?_)
    try dsimp only
    show wpAny _ _ (newObj (.type "reversed") (.fields #[Value.ref l,rawInt ((items.size:Int) - 1)]) >>= _) _ _ _
    refine wpAny_bind (wpAny_newObj_type ?_)
    exact wpAny_pure ⟨_,rfl,h _⟩
section
variable {prog:Program} {w:World} {A:Around} {E:Value→Shared→Prop} {s:Shared}
theorem call_tri {l:Addr} {items:Array Value} {Q:Value→Shared→Prop} (ht:IsTup s.heap l items) (hz:(items.size:Int)<2 ^ 63)
    (h:∀ t,Q (.ref s.heap.objs.size) { s with heap:=s.heap.push (triObj l ((items.size:Int) - 1)),toks:=t }):wpAny (model prog w) A (call (.type "reversed") [.ref l]) Q E s:=by
  refine callType_new called_tri (by decide) (F.typeCall_reversed_1 _) (F.newCall_reversed_1 _) (fun obj=>F.args_object_init_2 obj _) F.entry_reversed_new (meets_tri l items hz) ⟨ht,fun t=>?_⟩
  exact ⟨⟨_,Heap.get?_push_size _ rfl,rfl⟩,h t⟩
theorem next_tri {it l:Addr} {i:Nat} {items:Array Value} {x:Value} {Q:Option Value→Shared→Prop} (hit:IsTri s.heap it l (i:Int)) (hl:IsTup s.heap l items) (hz:(items.size:Int)<2 ^ 63) (hx:items[i]? = some x)
    (hQ:∀ h' t,IsTri h' it l ((i:Int) - 1)→Heap.SameBut it s.heap h'→Q (some x) { s with heap:=h',toks:=t }):wpAny (model prog w) A (pyNext (.ref it)) Q E s:=by
  obtain ⟨o,ho,hc,hd⟩:=id hit
  have hi:i<items.size:=(Array.getElem?_eq_some_iff.mp hx).1
  unfold pyNext
  refine wpAny_bind (wpAny_attempt (wpAny_callSpecial?_slot (name:=Str.ofString "__next__") hit.typeIs sl_tri_next
    (wpAny_call_entry sl_tri_next hit.typeIs en_tri_next ?_ (ar_tri_next _))))
  unfold Builtin.«reversed.__next__»
  refine wpAny_bind (wpAny_of_eq (a:=(Value.ref it,[])) rfl ?_)
  try dsimp only
  refine wpAny_bind (wpAny_field ho hd (x:=.ref l) rfl ?_)
  refine wpAny_bind (wpAny_field ho hd (x:=rawInt (i:Int)) rfl ?_)
  show wpAny _ _ (if (i:Int)<0 then _ else _) _ _ s
  rw [if_neg (by omega)]
  refine wpAny_bind (wpAny_specialOf hl.typeIs slot_tuple_getitem.lookup ?_)
  try dsimp only
  rw [if_neg (by decide)]
  refine wpAny_bind (wpAny_mkInt ?_)
  refine wpAny_bind (wpAny_attempt (getItem_tuple (j:=i) (x:=x) hl (by omega) (by omega) ?_ hx ?_))
  · unfold seqIndex?
    rw [if_neg (show ¬ (i:Int)<0 by omega),if_pos (by rw [Bool.and_eq_true,decide_eq_true_eq,decide_eq_true_eq]; omega)]
    rfl
  · try dsimp only
    refine wpAny_bind (wpAny_field ho hd (x:=rawInt (i:Int)) rfl ?_)
    try dsimp only
    refine wpAny_bind (wpAny_setField ho hd (by simp) ?_)
    refine wpAny_pure ⟨x,rfl,wpAny_pure (hQ _ _ ?_ (Heap.SameBut.update ..))⟩
    exact ⟨_,Heap.get?_update_self _ ho (Obj.isFreed_of_fields (Obj.data_mapFields hd _)),(Obj.cls_mapFields ..).trans hc,by
      rw [Obj.data_mapFields hd]; simp⟩
theorem stop_tri {it l:Addr} {Q:Option Value→Shared→Prop} (hh:A.handled=none) (hit:IsTri s.heap it l (-1))
    (hQ:∀ h',Heap.ExtBut it s.heap h'→Q none { s with heap:=h' }):wpAny (model prog w) A (pyNext (.ref it)) Q E s:=by
  obtain ⟨o,ho,hc,hd⟩:=id hit
  unfold pyNext
  refine wpAny_bind (wpAny_attempt (wpAny_callSpecial?_slot (name:=Str.ofString "__next__") hit.typeIs sl_tri_next
    (wpAny_call_entry sl_tri_next hit.typeIs en_tri_next ?_ (ar_tri_next _))))
  unfold Builtin.«reversed.__next__»
  refine wpAny_bind (wpAny_of_eq (a:=(Value.ref it,[])) rfl ?_)
  try dsimp only
  refine wpAny_bind (wpAny_field ho hd (x:=.ref l) rfl ?_)
  refine wpAny_bind (wpAny_field ho hd (x:=rawInt (-1)) rfl ?_)
  show wpAny _ _ (if (-1:Int)<0 then _ else _) _ _ s
  rw [if_pos (by decide)]
  refine wpAny_bind (wpAny_rule ?_)
  refine wpAny_bind ?_
  wp_delta
  refine wpAny_bind (wpAny_setField ho hd (by simp) ?_)
  have g1:=Heap.get?_update_self (Obj.mapFields (·.setIfInBounds 1 (rawInt (-1)))) ho (Obj.isFreed_of_fields (Obj.data_mapFields hd _))
  have d1:(Obj.mapFields (·.setIfInBounds 1 (rawInt (-1))) o).data = .fields (#[Value.ref l,rawInt (-1)].setIfInBounds 1 (rawInt (-1))):=Obj.data_mapFields hd _
  refine wpAny_setField g1 d1 (by simp) ?_
  refine wpAny_bind ?_
  show wpAny _ _ (newExc (.type "StopIteration") [] >>= _) _ _ _
  refine wpAny_bind ?_
  simp only [newExc,newTuple]
  refine wpAny_bind (wpAny_newObj_type ?_ (by size_fits))
  refine wpAny_bind (m:=firstArgMember _ _) (wpAny_of_eq (a:=Value.none) (by first | rfl | (simp only [firstArgMember]; rfl)) ?_)
  refine wpAny_newObj_type ?_ (by size_fits)
  simp only [raiseNew]
  refine wpAny_bind (wpAny_handled ?_)
  rw [show A.in1.handled=none from hh]
  refine wpAny_bind (wpAny_pure (wpAny_throw ?_))
  refine wpAny_bind (wpAny_isInstance (T := "StopIteration") (b:=true) ⟨_,Heap.get?_push_size _ rfl,rfl⟩ isSubtype_stop ?_)
  refine wpAny_pure (hQ _ ((Heap.ExtBut.push (Heap.ExtBut.push ?_ _) _)))
  exact fun b o hb e=>by
    rw [Heap.get?_update_other _ _ (Ne.symm hb),Heap.get?_update_other _ _ (Ne.symm hb)]; exact e
theorem iter_tri {it l:Addr} {i:Int} {Q:Value→Shared→Prop} (hit:IsTri s.heap it l i) (h:Q (.ref it) s):wpAny (model prog w) A (pyIter (.ref it)) Q E s:=by
  refine wpAny_pyIter_slot hit.typeIs sl_tri_iter (wpAny_call_entry sl_tri_iter hit.typeIs en_tri_iter ?_ (ar_tri_iter _))
  show wpAny _ _ (ret (.ref it)) _ _ s
  exact wpAny_pure ⟨_,rfl, "reversed",_,hit.typeIs,sl_tri_next.lookup,h⟩
theorem hint_tri {it l:Addr} {items:Array Value} {Q:Bool→Shared→Prop} (hit:IsTri s.heap it l ((items.size:Int) - 1)) (hl:IsTup s.heap l items) (hz:items.size≤sizeLine) (h:∀ t,Q (decide ((items.size:Int)≠0)) { s with toks:=t }):wpAny (model prog w) A (Builtin.List.listLengthHint (.ref it)) Q E s:=by
  have hT:=hit.typeIs
  obtain ⟨o,ho,hc,hd⟩:=id hit
  unfold Builtin.List.listLengthHint
  refine wpAny_bind (wpAny_specialOf hT tri_nolen ?_)
  show wpAny _ A (specialOf (Value.ref it) (Str.ofString "__length_hint__") >>= _) Q E s
  refine wpAny_bind (wpAny_specialOf hT tri_ishint ?_)
  generalize hv:("reversed.__length_hint__" : String)=nm
  wp_delta
  rw [show splitId nm=some ("reversed", "__length_hint__") by subst hv; decide +kernel]
  subst hv
  refine wpAny_bind (wpAny_isInstance (T := "reversed") (b:=true) hT (by rw [isSubtype_type]; kernel_rfl) ?_)
  refine wpAny_ite_split (fun z=>absurd z (by decide)) (fun _=>?_)
  have hzl:(items.size:Int)<2 ^ 63:=by
    have:sizeLine<2 ^ 62:=by decide
    omega
  refine wpAny_ite_split (fun z=>absurd z (by decide +kernel)) (fun _=>?_)
  refine wpAny_bind (wpAny_rule ?_)
  refine wpAny_bind (wpAny_of_eq (sl_tri_hint.bind _) ?_)
  try dsimp only
  refine wpAny_bind (wpAny_attempt (wpAny_call_entry sl_tri_hint hT en_tri_hint ?_ (ar_tri_hint _)))
  unfold Builtin.«reversed.__length_hint__»
  refine wpAny_bind (wpAny_of_eq (a:=Value.ref it) rfl ?_)
  try dsimp only
  refine wpAny_bind (wpAny_field ho hd (x:=.ref l) rfl ?_)
  try dsimp only
  rw [if_neg (show ¬ (Value.ref l == Value.none)=true from Bool.false_ne_true)]
  refine wpAny_bind (len_tuple hl hzl ?_)
  refine wpAny_bind (wpAny_of_eq (a:=some (items.size:Int)) rfl ?_)
  try dsimp only
  refine wpAny_bind (wpAny_field ho hd (x:=rawInt ((items.size:Int) - 1)) rfl ?_)
  try dsimp only
  show wpAny _ _ (if (items.size:Int)<((items.size:Int) - 1)+1 then _ else _) _ _ _
  rw [if_neg (by omega)]
  refine wpAny_bind (wpAny_mkInt (wpAny_pure ⟨_,rfl,?_⟩))
  refine wpAny_bind (wpAny_of_eq (a:=some ((items.size:Int) - 1+1)) rfl ?_)
  try dsimp only
  rw [show (items.size:Int) - 1+1=items.size by omega]
  rw [if_neg (by
    unfold Builtin.List.listFitsIndex
    rw [Bool.not_eq_true',decide_eq_true (show -(2 ^ 63:Int)≤(items.size:Int) by omega),decide_eq_true hzl]; decide),if_neg (by omega),if_neg (by
    unfold Builtin.List.listTooLong
    rw [decide_eq_true_eq,Int.toNat_natCast]; omega)]
  refine wpAny_pure ?_
  have e:((items.size:Int) != 0)=decide ((items.size:Int)≠0):=by
    by_cases z:(items.size:Int)=0
    · rw [z]; rfl
    · rw [decide_eq_true z,bne_iff_ne.mpr z]
  rw [e]
  exact h _
theorem walks_tri (hh:A.handled=none) (I l:Addr) (hne:l≠I) (items:Array Value) (hz:(items.size:Int)<2 ^ 63) :
    Walks prog w A I [I,l] [I] items.size (fun i v=>items[items.size - 1 - i]? = some v) (fun i h=>i≤items.size∧IsTri h I l ((items.size:Int) - 1 - (i:Int))∧IsTup h l items) where
  sub:=fun b hb=>by simp at hb; simp [hb]
  frame:=fun _ _ _ x hk=>⟨x.1,x.2.1.at fun o e=>hk I (by simp) o e,let ⟨o,ho,r⟩:=x.2.2; ⟨o,hk l (by simp) o ho,r⟩⟩
  item:=fun i s Q E hi x hQ=>by
    have e:(items.size:Int) - 1 - (i:Int)=((items.size - 1 - i:Nat):Int):=by omega
    have hit:=x.2.1
    rw [e] at hit
    have hx:items[items.size - 1 - i]? = some (items[items.size - 1 - i]'(by omega)):=Array.getElem?_eq_getElem (by omega)
    refine next_tri hit x.2.2 hz hx fun h' t hit' hs'=>?_
    have e2:((items.size - 1 - i:Nat):Int) - 1=(items.size:Int) - 1 - ((i+1:Nat):Int):=by omega
    rw [e2] at hit'
    exact hQ _ h' t hx ⟨hi,hit',let ⟨o,ho,r⟩:=x.2.2; ⟨o,(hs'.2 l hne).trans ho,r⟩⟩ fun b o hb eo=>hs'.extBut b o (fun h=>hb (by simp [h])) eo
  done:=fun s Q E x hQ=>by
    have e:(items.size:Int) - 1 - (items.size:Int) = -1:=by omega
    have hit:=x.2.1
    rw [e] at hit
    exact stop_tri hh hit fun h' he'=>hQ h' s.toks fun b o hb eo=>he' b o (fun h=>hb (by simp [h])) eo
  self:=fun _ _ _ _ x hQ=>iter_tri x.2.1 hQ
theorem tri_extend {R:Result→Shared→Prop} {it l S:Addr} {items:Array Value} {c₀:Nat} (hh:A.handled=none) (hit:IsTri s.heap it l ((items.size:Int) - 1)) (hl:IsTup s.heap l items) (hne:l≠it) (hi:S≠it) (hj:S≠l) (hz:items.size≤sizeLine)
    (hS:s.heap.get? S=some { cls:=.type "list",data:=.seq #[] c₀ })
    (fin:∀ h' tk acc c1,(∀ b o,b≠S→b≠it→s.heap.get? b=some o→h'.get? b=some o)→h'.get? S=some { cls:=.type "list",dict:=none,data:=.seq acc c1,slots:=#[] }→ItemsOf (RevAt items) acc items.size→R (.ok (.ret .none)) { s with heap:=h',toks:=tk }) :
    wpAny (model prog w) A.in1 (Builtin.List.listExtendWith (.ref S) (.ref it) .none) (Fin2 prog w A R) (fun e s'=>R (.error e) s') s:=by
  have hz2:(items.size:Int)<2 ^ 63:=by
    have:sizeLine<2 ^ 62:=by decide
    omega
  have V:=(walks_tri (prog:=prog) (w:=w) (A:=A.in1) hh it l hne items hz2).toS
  have nf:S∉[it,l]:=fun q=>by
    rcases List.mem_cons.mp q with q | q
    · exact hi q
    · exact hj (List.mem_singleton.mp q)
  unfold Builtin.List.listExtendWith
  refine wpAny_bind (wpAny_typeOf hit.typeIs ?_)
  have n1:Builtin.List.listSameRef (.ref S) (.ref it)=false:=by simp [Builtin.List.listSameRef,hi]
  have n2:(Value.type "reversed" == Value.type "list")=false:=by decide
  have n3:(Value.type "reversed" == Value.type "tuple")=false:=by decide
  simp only [n1,n2,n3,Bool.or_false,Bool.false_eq_true,if_false]
  refine wpAny_bind (iter_tri hit (wpAny_bind (wpAny_holding (hint_tri hit hl hz fun t=>?_))))
  have h0:((items.size:Int) - 1 - ((0:Nat):Int))=(items.size:Int) - 1:=by omega
  refine wpAny_ite_split (fun _=>?_) (fun _=>?_)
  · refine wpAny_bind (wpAny_rule ?_)
    refine wpAny_bind ?_
    show wpAny _ A.in1 (updateSeq S (·.push .none) >>= fun _=>updateSeq S (·.pop)) _ _ _
    refine wpAny_bind (wpAny_updateSeq hS rfl ?_)
    have g2:=Heap.get?_update_self (Obj.mapSeq (·.push Value.none)) hS rfl
    refine wpAny_updateSeq (hz:=by seq_fits) g2 rfl ?_
    have g3:=Heap.get?_update_self (Obj.mapSeq (·.pop)) g2 rfl
    have oth:∀ b o,b≠S→s.heap.get? b=some o→((s.heap.update S (Obj.mapSeq (·.push Value.none))).update S (Obj.mapSeq (·.pop))).get? b=some o :=
      fun b o q1 q2=>(Heap.get?_update_other _ _ (Ne.symm q1)).trans ((Heap.get?_update_other _ _ (Ne.symm q1)).trans q2)
    refine wpAny_pure ⟨plainId_quiet F.plain_extend_loop _,?_⟩
    refine codeAny_extend_loopS V hz S nf .none items.size 0 _ #[] _ rfl (Nat.zero_le _) ⟨Nat.zero_le _,by rw [h0]; exact hit.at fun o e=>oth it o (Ne.symm hi) e,let ⟨o,ho,r⟩:=hl; ⟨o,oth l o (Ne.symm hj) ho,r⟩⟩ g3 (ItemsOf.nil _) fun s2 acc c1 mv g1 g2=>?_
    rw [Moved.eq_with mv]
    exact fin s2.heap s2.toks acc c1 (fun b o q1 q2 q3=>mv.heap b o (fun q=>(List.mem_cons.mp q).elim q1 fun q'=>q2 (List.mem_singleton.mp q')) (oth b o q1 q3)) g1 g2
  · refine wpAny_pure ⟨plainId_quiet F.plain_extend_loop _,?_⟩
    refine codeAny_extend_loopS V hz S nf .none items.size 0 _ #[] c₀ rfl (Nat.zero_le _) ⟨Nat.zero_le _,by rw [h0]; exact hit,hl⟩ hS (ItemsOf.nil _) fun s2 acc c1 mv g1 g2=>?_
    rw [Moved.eq_with mv]
    exact fin s2.heap s2.toks acc c1 (fun b o q1 q2 q3=>mv.heap b o (fun q=>(List.mem_cons.mp q).elim q1 fun q'=>q2 (List.mem_singleton.mp q')) q3) g1 g2
theorem tri_init {R:Result→Shared→Prop} {it l S:Addr} {items:Array Value} (hh:A.handled=none) (hit:IsTri s.heap it l ((items.size:Int) - 1)) (hl:IsTup s.heap l items) (hne:l≠it) (hi:S≠it) (hj:S≠l) (hz:items.size≤sizeLine)
    (hS:s.heap.get? S=some { cls:=.type "list",data:=.seq #[] })
    (fin:∀ h' tk acc c1,(∀ b o,b≠S→b≠it→s.heap.get? b=some o→h'.get? b=some o)→h'.get? S=some { cls:=.type "list",dict:=none,data:=.seq acc c1,slots:=#[] }→ItemsOf (RevAt items) acc items.size→R (.ok (.ret .none)) { s with heap:=h',toks:=tk }) :
    wpAny (model prog w) A.in1 (Builtin.«list.__init__» ⟨[.ref S,.ref it],[]⟩) (Fin2 prog w A R) (fun e s'=>R (.error e) s') s:=by
  show wpAny _ A.in1 (Builtin.List.listItems (.ref S) >>= fun was=>Builtin.List.listUpdate (.ref S) (fun _=>#[]) >>= fun _=>letGo was.toList.reverse >>= fun _=>Builtin.List.listExtendWith (.ref S) (.ref it) .none) (Fin2 prog w A R) (fun e s'=>R (.error e) s') s
  unfold Builtin.List.listItems
  refine wpAny_bind (wpAny_bind (wpAny_seqItems hS rfl (wpAny_pure ?_)))
  show wpAny _ A.in1 (updateSeq S (fun _=>#[]) >>= fun _=>letGo (#[]:Array Value).toList.reverse >>= fun _=>Builtin.List.listExtendWith (.ref S) (.ref it) .none) (Fin2 prog w A R) (fun e s'=>R (.error e) s') s
  refine wpAny_bind (wpAny_updateSeq hS rfl (wpAny_bind (wpAny_letGo ?_)))
  have g:=Heap.get?_update_self (Obj.mapSeq fun _=>(#[]:Array Value)) hS rfl
  have oth:∀ b o,b≠S→s.heap.get? b=some o→(s.heap.update S (Obj.mapSeq fun _=>(#[]:Array Value))).get? b=some o:=fun b o q1 q2=>(Heap.get?_update_other _ _ (Ne.symm q1)).trans q2
  refine tri_extend hh (hit.at fun o e=>oth it o (Ne.symm hi) e) (let ⟨o,ho,r⟩:=hl; ⟨o,oth l o (Ne.symm hj) ho,r⟩) hne hi hj hz g fun h' tk acc c1 q1 q2 q3=>?_
  exact fin h' tk acc c1 (fun b o b1 b2 e=>q1 b o b1 b2 (oth b o b1 e)) q2 q3
theorem call_list_tri {it l:Addr} {items:Array Value} {Q:Value→Shared→Prop} (hh:A.handled=none) (hit:IsTri s.heap it l ((items.size:Int) - 1)) (hl:IsTup s.heap l items) (hne:l≠it) (hz:items.size≤sizeLine)
    (fin:∀ h' tk acc c1,(∀ b o,b≠it→s.heap.get? b=some o→h'.get? b=some o)→h'.get? s.heap.objs.size=some { cls:=.type "list",dict:=none,data:=.seq acc c1,slots:=#[] }→ItemsOf (RevAt items) acc items.size→Q (.ref s.heap.objs.size) { s with heap:=h',toks:=tk }) :
    wpAny (model prog w) A (call (.type "list") [.ref it]) Q E s:=by
  obtain ⟨oi,hoi,_⟩:=id hit
  obtain ⟨ol,hol,_⟩:=id hl
  have i1:s.heap.objs.size≠it:=Nat.ne_of_gt (Heap.lt_size hoi)
  have i2:s.heap.objs.size≠l:=Nat.ne_of_gt (Heap.lt_size hol)
  let h1:=s.heap.push { cls:=.type "list",data:=.seq #[] }
  have up:∀ b o,s.heap.get? b=some o→h1.get? b=some o:=fun b o e=>Heap.get?_push_of_some _ e
  have gS:h1.get? s.heap.objs.size=some { cls:=.type "list",data:=.seq #[] }:=Heap.get?_push_size _ rfl
  refine callType_codes (Q₁:=fun x s1=>x = .ref s.heap.objs.size∧s1 = { s with heap:=h1 }) F.called_list (F.typeCall_list_1 _) F.entry_list_init (code_list_new _ ⟨rfl,rfl⟩) ?_
  rintro x s1 ⟨rfl,rfl⟩
  refine ⟨⟨_,gS,rfl⟩,F.args_list_init_2 _ _,tri_init (A:=A.in1) hh (hit.at fun o e=>up it o e) (let ⟨o,ho,r⟩:=hl; ⟨o,up l o ho,r⟩) hne i1 i2 hz gS fun h' tk acc c1 q1 q2 q3=>?_⟩
  exact ⟨rfl,fin h' tk acc c1 (fun b o b1 e=>q1 b o (Nat.ne_of_lt (Heap.lt_size e)) b1 (up b o e)) q2 q3⟩
end
end L2
namespace L2
open PySem PySem.Spec PyProof.Rows
section
variable {X:Cx}
noncomputable def rvO (k:Bool) (a:Addr) (n:Nat):Obj:=if k=true then revObj a ((n:Int) - 1) else triObj a ((n:Int) - 1)
noncomputable def rvφ (k:Bool) (p a:Addr) (n:Nat):Heap→Prop:=fun h=>h.get? p=some (rvO k a n)
theorem cr_reversedS:CallR X (.type "reversed") (fun xs H Q=>∃ a k ys,xs=[.ref a]∧SqK X.K k H a ys∧∀ p,H p=none→p≠a→X.s₀.heap.objs.size≤p→Q (.ref p) (upd H p (.ext (rvφ k p a ys.length)))):=by
  intro pins s σ H xs us Q I rv h
  obtain ⟨a,k,ys,rfl,sq,q⟩:=h
  obtain ⟨u,rfl,ru⟩:=rv.one
  cases ru
  cases k with
  | true =>
    obtain ⟨its,r,ht,hz⟩:=I.list sq
    have hl:=r.length
    obtain ⟨o,ho,_⟩:=id ht.isList
    refine call_reversed_list ht.isList ⟨.ref s.heap.objs.size,_,I.laid (t':=s.toks) (o:=.ext (rvφ true s.heap.objs.size a ys.length)) (fun b u e=>Heap.get?_push_of_some _ e) (Nat.le_refl _) ?_,rfl,q _ I.fresh (Nat.ne_of_gt (Heap.lt_size ho)) I.sz⟩
    have e:(s.heap.push (revObj a ((its.toArray.size:Int) - 1))).get? s.heap.objs.size=some (rvO true a ys.length):=by
      rw [Heap.get?_push_size _ rfl,hl]; rfl
    exact ⟨e,⟨_,e⟩,fun h1 h2 z k=>k _ z⟩
  | false =>
    obtain ⟨its,r,ht,hz⟩:=I.tuple sq
    have hl:=r.length
    obtain ⟨o,ho,_⟩:=id ht
    have hz2:((its.toArray.size:Nat):Int)<2 ^ 63:=by
      have:sizeLine<2 ^ 62:=by decide
      rw [List.size_toArray]
      omega
    refine call_tri ht hz2 fun t=>⟨.ref s.heap.objs.size,_,I.laid (t':=t) (o:=.ext (rvφ false s.heap.objs.size a ys.length)) (fun b u e=>Heap.get?_push_of_some _ e) (Nat.le_refl _) ?_,rfl,q _ I.fresh (Nat.ne_of_gt (Heap.lt_size ho)) I.sz⟩
    have e:(s.heap.push (triObj a ((its.toArray.size:Int) - 1))).get? s.heap.objs.size=some (rvO false a ys.length):=by
      rw [Heap.get?_push_size _ rfl,hl]; rfl
    exact ⟨e,⟨_,e⟩,fun h1 h2 z k=>k _ z⟩
theorem cr_listRevS (hc:X.calm=true):CallR X (.type "list") (fun xs H Q=>∃ it a k ys,xs=[.ref it]∧H it=some (.ext (rvφ k it a ys.length))∧SqK X.K k H a ys∧a≠it∧X.s₀.heap.objs.size≤it∧∀ p,H p=none→Q (.ref p) (dropH (upd H p (.lst ys.reverse)) it)):=by
  intro pins s σ H xs us Q I rv h
  obtain ⟨it,a,k,ys,rfl,hit,sq,hne,hge,q⟩:=h
  obtain ⟨u,rfl,ru⟩:=rv.one
  cases ru
  have hob:s.heap.get? it=some (rvO k a ys.length):=(I.hok it _ hit).1
  obtain ⟨its,r,hz,hcall⟩:∃ its:List Value,Vals ys its∧ys.length≤sizeLine∧∀ (A:Around) (E:Value→Shared→Prop) (Q:Value→Shared→Prop),A.handled=none→(∀ h' tk acc c1,(∀ b o,b≠it→s.heap.get? b=some o→h'.get? b=some o)→h'.get? s.heap.objs.size=some { cls:=.type "list",dict:=none,data:=.seq acc c1,slots:=#[] }→ItemsOf (RevAt its.toArray) acc its.toArray.size→Q (.ref s.heap.objs.size) { s with heap:=h',toks:=tk })→wpAny (model X.prog X.w) A (call (.type "list") [.ref it]) Q E s:=by
    cases k with
    | true =>
      obtain ⟨its,r,ht,hz⟩:=I.list sq
      have hsz:its.toArray.size=ys.length:=by rw [List.size_toArray]; exact r.length.symm
      exact ⟨its,r,hz,fun A E Q hA fin=>call_list_rev hA ⟨_,hob,rfl,by rw [hsz]; rfl⟩ ht.isList hne (by rw [hsz]; exact hz) fin⟩
    | false =>
      obtain ⟨its,r,ht,hz⟩:=I.tuple sq
      have hsz:its.toArray.size=ys.length:=by rw [List.size_toArray]; exact r.length.symm
      exact ⟨its,r,hz,fun A E Q hA fin=>call_list_tri hA ⟨_,hob,rfl,by rw [hsz]; rfl⟩ ht hne (by rw [hsz]; exact hz) fin⟩
  refine hcall _ _ _ (I.ok.hd hc) fun h' tk acc c1 k1 k2 k3=>?_
  have hacc:=rev_items k3
  have fr:=I.fresh
  have ex:∀ {b o},s.heap.get? b=some o→b≠s.heap.objs.size:=fun e=>Nat.ne_of_lt (Heap.lt_size e)
  have old:∀ {b u},H b=some u→b≠s.heap.objs.size:=fun {b u} e z=>by rw [z,fr] at e; cases e
  have nit:∀ {b u},H b=some u→u ≠ .ext (rvφ k it a ys.length)→b≠it:=fun {b u} e n z=>by
    rw [z,hit] at e; exact n (Option.some.inj e).symm
  have here:∀ {b},b≠s.heap.objs.size→b≠it→dropH (upd H s.heap.objs.size (.lst ys.reverse)) it b=H b:=fun b1 b2=>by rw [dropH_ne b2,upd_ne b1]
  have un:Un (frs X.stack) [it] H (dropH (upd H s.heap.objs.size (.lst ys.reverse)) it) s.heap h':={
    keep:=fun b o e n _ hx=>k1 b o (fun z=>hx (by simp [z])) e
    slot:=fun b o e n _ hx=>⟨o.slots,k1 b o (fun z=>hx (by simp [z])) e⟩
    free:=fun b o e n hx=>by rw [here (ex e) (fun z=>hx (by simp [z]))]; exact n
    there:=fun b o e hx=>⟨o,k1 b o (fun z=>hx (by simp [z])) e⟩
    tups:=fun b xs e=>by rw [here (old e) (nit e (by simp))]; exact e
    frzs:=fun b o u e=>by rw [here (old e) (nit e (by simp))]; exact e
    tbls:=fun b ps e=>⟨#[],by rw [here (old e) (nit e (by simp))]; simpa using e⟩ }
  have ok:HOk X.prog X.w (dropH (upd H s.heap.objs.size (.lst ys.reverse)) it) h':=fun b u e=>by
    have b2:b≠it:=fun z=>by rw [z,dropH_same] at e; cases e
    rw [dropH_ne b2] at e
    by_cases b1:b=s.heap.objs.size
    · subst b1
      rw [upd_same] at e
      cases e
      exact ⟨by rw [List.length_reverse]; exact hz,acc.toList,c1,by rw [hacc]; exact r.reverse,k2⟩
    · rw [upd_ne b1] at e
      refine (I.hok b u e).stay (fun c v hcv z=>k1 c v ?_ z) (fun c z=>?_) fun c xs z=>?_
      · rcases hcv with z2 | z2
        · rw [z2]; exact b2
        · exact nit z2 (by simp)
      · rw [here (old z) (nit z (by simp))]; exact z
      · rw [here (old z) (nit z (by simp))]; exact z
  refine ⟨.ref s.heap.objs.size,_,I.call (g':=s.gens) (d':=s.drawn) (t':=tk) un ok I.bare (fun b hb=>?_),rfl,q _ fr⟩
  obtain rfl:b=it:=by simpa using hb
  refine ⟨.inr hge,fun z=>?_,fun x c e z=>?_,fun p hp z=>?_⟩
  · rw [z,I.free] at hit; cases hit
  · rw [← z,I.freeC x c e] at hit; cases hit
  · rw [← z,(I.pin p hp).2.1] at hit; cases hit
end
end L2

namespace L2
open PySem PySem.Spec PyProof.Rows
section
variable {prog:Program} {w:World} {A:Around} {E:Value→Shared→Prop} {s:Shared}
theorem lst_ext {h h2:Heap} {a b:Addr} {its:Array Value} (x:h.IsList a its) (hs:Heap.ExtBut b h h2) (ne:a≠b):h2.IsList a its:=x.at fun o e=>hs a o ne e
theorem draw_lst {it l:Addr} {its:Array Value} (hne:l≠it):∀ (n i:Nat) (s:Shared) (Q:List Value→Shared→Prop),s.heap.IsListIter it l i→s.heap.IsList l its→i+n≤its.size →
    (∀ h2,h2.IsListIter it l (i+n)→Heap.SameBut it s.heap h2→Q ((its.toList.drop i).take n) { s with heap:=h2 })→wpAny (model prog w) A (draw (.ref it) n) Q E s
  | 0,i,s,Q,hi,_,_,k=>by
    show wpAny _ _ (pure []) Q E s
    refine wpAny_pure ?_
    simpa using k s.heap hi (Heap.SameBut.refl ..)
  | n+1,i,s,Q,hi,hl,hle,k=>by
    have lt:i<its.size:=by omega
    show wpAny _ _ (pyNext (.ref it) >>= _) Q E s
    refine wpAny_bind (wpAny_pyNext_list_item hi hl (x:=its[i]) (by simp [lt]) fun h1 hi1 hs1=>wpAny_bind (wpAny_holding ?_))
    refine draw_lst hne n (i+1) _ _ hi1 (lst_ext hl hs1.extBut hne) (by omega) fun h2 hi2 hs2=>wpAny_pure ?_
    have e:its.toList.drop i=its[i] :: its.toList.drop (i+1):=by simp [List.drop_eq_getElem_cons,lt]
    have z:=k h2 (by rw [show i+(n+1)=i+1+n by omega]; exact hi2) (hs1.trans hs2)
    rw [e,List.take_succ_cons] at z
    exact z
theorem unpack_lst {l:Addr} {its:Array Value} {ts:List (Bool × (Value→Sem Unit))} {Q:Unit→Shared→Prop} (hh:A.handled=none) (hl:s.heap.IsList l its) (hn:ts.length=its.size) (hst:ts.findIdx? (·.1)=none)
    (k:∀ h2,Heap.ExtBut s.heap.objs.size s.heap h2→wpAny (model prog w) A (assignInOrder (ts.map (·.2)) its.toList) Q E { s with heap:=h2 }):wpAny (model prog w) A (unpack (.ref l) ts) Q E s:=by
  have ne:l≠s.heap.objs.size:=by obtain ⟨o,ho,_⟩:=hl; exact Nat.ne_of_lt (Heap.lt_size ho)
  unfold unpack
  rw [hn,hst]
  refine wpAny_bind (wpAny_holding ?_)
  unfold unpackItems
  refine wpAny_bind ?_
  unfold notIterableAtAll
  refine wpAny_bind (wpAny_specialOf hl.typeIs F.slot_list_iter.lookup (wpAny_pure ?_))
  simp only [Bool.false_eq_true,if_false]
  refine wpAny_bind (wpAny_holding (wpAny_pyIter_list hl ?_))
  refine wpAny_bind (wpAny_holding (draw_lst ne its.size 0 _ _ ⟨_,Heap.get?_push_size _ rfl,rfl,rfl⟩ (hl.at fun o e=>Heap.get?_push_of_some _ e) (by omega) fun h1 hi1 hs1=>?_))
  have all:List.take its.size (List.drop 0 its.toList)=its.toList:=by
    rw [List.drop_zero]; exact List.take_of_length_le (by simp)
  rw [all,if_neg (by simp)]
  have hl1:h1.IsList l its:=lst_ext (hl.at fun o e=>Heap.get?_push_of_some _ e) hs1.extBut ne
  refine wpAny_bind (wpAny_holding (wpAny_pyNext_list_end hh hi1 hl1 (by simp) fun h2 he=>?_))
  simp only [Option.isSome_none,Bool.false_eq_true,if_false]
  exact wpAny_pure (k h2 fun b o hb e=>he b o hb (hs1.extBut b o hb (Heap.get?_push_of_some _ e)))
end
section
variable {X:Cx} {pos:Pos}
noncomputable def gTupLs (K:PySem.W.Frag) (n:Nat) (t:TGs):TG:=fun v σ H Q=>∃ a xs,v = .ref a∧SqL K H a xs∧xs.length=n∧t xs σ H Q
theorem pg_tupL {es:List Expr} {k:Nat} {t:TGs} {n:Nat} (hc:X.calm=true) (h:PGs X es t) (hn:(assignEach es X.env).length=n:=by rfl)
    (hst:(assignEach es X.env).findIdx? (·.1)=none:=by rfl):PG X (.Tuple es k pos) (gTupLs X.K n t):=by
  intro pins s σ H v u Q I r hw
  obtain ⟨a,xs,e1,hq,hl,hw⟩:=hw
  subst e1
  cases r
  obtain ⟨its,rv,ht,hz⟩:=I.list hq
  rw [assign_Tuple]
  refine wpAny_bind (wpAny_standAt (unpack_lst (I.ok.hd hc) ht.isList (by simp [hn,← hl,rv.length]) hst fun h2 hx=>?_))
  have I1:Inv X pins σ H { s with heap:=h2 }:=I.kept (t':=s.toks) fun b o e=>hx b o (Nat.ne_of_lt (Heap.lt_size e)) e
  exact h pins _ σ H xs _ Q I1 (by simpa using rv) hw
end
end L2

namespace L2
open PySem PySem.Spec PyProof.Rows
noncomputable def Itb (K:PySem.W.Frag) (a:Addr) (n:Nat):It :=
  ⟨fun i H=>i<n∧∃ xs x,SqL K H a xs∧xs[n - 1 - i]? = some x,fun i H x H'=>H'=H∧∀ xs,SqL K H a xs→xs[n - 1 - i]? = some x,fun i _=>n≤i⟩
theorem turn_back {P:Program} {w:World} {K:PySem.W.Frag} {tg:Expr} (a it:Addr) (n:Nat):Turn P w K tg (Itb K a n) [it] it (fun i h=>i≤n∧h.IsRevIter it a ((n:Int) - 1 - (i:Int))) where
  mem:=by simp
  obj:=fun i h st b hb=>by
    obtain rfl:b=it:=by simpa using hb
    obtain ⟨_,o,e,c,d⟩:=st
    exact ⟨o,e,fun v z=>by rw [d] at z; cases z⟩
  keep:=fun i h h2 st k=>⟨st.1,st.2.at fun o e=>k it (by simp) o e⟩
  item:=by
    intro X hP hw hK hc i pins s σ H E I hf st hg
    subst hP hw hK
    obtain ⟨hi,xs,x,hq,hx⟩:=hg
    obtain ⟨its,rv,p,hz⟩:=I.list hq
    obtain ⟨u,hu,ru⟩:=rv.get hx
    obtain ⟨f0,f1,f2,f3,f4,f5⟩:=hf it (by simp)
    have e:(n:Int) - 1 - (i:Int)=((n - 1 - i:Nat):Int):=by omega
    have st2:=st.2
    rw [e] at st2
    refine wpAny_pyNext_rev_item st2 p.isList (x:=u) (by simpa using hu) fun h2 st3 sb=>?_
    have I1:Inv X pins σ H { s with heap:=h2 }:=I.turned (t':=s.toks) (fun b o hb e=>(sb.2 b hb).trans e) f0 f1 f3 f4 f5
    have e2:((n - 1 - i:Nat):Int) - 1=(n:Int) - 1 - ((i+1:Nat):Int):=by omega
    rw [e2] at st3
    obtain ⟨o,e3,c,d⟩:=id st3
    exact ⟨u,rfl,go_of (s:={ s with heap:=h2 }) e3 c d (by decide) ⟨x,H,I1,ru,⟨rfl,fun ys hy=>by rw [I.list_inj hy hq]; exact hx⟩,⟨by omega,st3⟩,fun b hb=>(hf b hb).1⟩⟩
  done:=by
    intro X hP hw hK hc i pins s σ H E I hf st hg
    subst hP hw hK
    have hi:i=n:=Nat.le_antisymm st.1 hg
    obtain ⟨f0,f1,f2,f3,f4,f5⟩:=hf it (by simp)
    have st2:=st.2
    rw [hi,show (n:Int) - 1 - (n:Int) = -1 by omega] at st2
    refine wpAny_pyNext_rev_end (I.ok.hd hc) st2 fun h2 he=>?_
    exact ⟨rfl,I.turned (t':=s.toks) (fun b o hb e=>he b o hb e) f0 f1 f3 f4 f5⟩
  self:=fun A i s Q E st k=>wpAny_pyIter_revIter st.2 k
section
variable {X:Cx}
noncomputable def iBack (K:PySem.W.Frag) (ta:TA):TI:=fun σ H R=>ta σ H fun vs H1=>∃ a xs,vs=[.ref a]∧SqL K H1 a xs∧R (Itb K a xs.length) H1
theorem pi_back {tg e:Expr} {ta:TA} {p pos:Pos} (hg:Gl X "reversed") (hm:X.mg "reversed" = none) (hv:bootBuiltins "reversed" = some (.type "reversed")) (ha:PA X [e] ta)
    (hs:starEach [e] X.env=[(false,eval e X.env)]:=by rfl):PI X tg (.Call (.Name "reversed" p) [e] [] pos) (iBack X.K ta):=by
  intro pins s σ H R I h
  refine Call_ (ld_blt I hg hm hv (PyProof.Rows.callWith_type1 (thn (ha pos pins s σ H _ I h) fun us s1 zz=>?_) hs rfl))
  · obtain ⟨vs,H1,I1,r1,a,xs,rfl,hq,q⟩:=zz
    obtain ⟨u,rfl,ru⟩:=vals1 r1
    cases ru
    obtain ⟨its,rv,pl,hz⟩:=I1.list hq
    have hl:=rv.length
    refine call_reversed_list pl.isList ?_
    have I2:Inv X pins σ H1 { s1 with heap:=s1.heap.push (revObj a ((its.toArray.size:Int) - 1)) }:=I1.kept (t':=s1.toks) fun b o e=>Heap.get?_push_of_some _ e
    have st:(s1.heap.push (revObj a ((its.toArray.size:Int) - 1))).IsRevIter s1.heap.objs.size a ((xs.length:Int) - 1 - ((0:Nat):Int)):=by
      refine ⟨_,Heap.get?_push_size _ rfl,rfl,?_⟩
      rw [List.size_toArray,← hl]
      show Data.fields _=_
      rw [show (xs.length:Int) - 1 - ((0:Nat):Int)=(xs.length:Int) - 1 by omega]
    refine wpAny_pyIter_revIter st ⟨s1.heap.objs.size,[s1.heap.objs.size],_,_,H1,rfl,I2,turn_back a _ xs.length,⟨Nat.zero_le _,st⟩,fun b hb=>?_,q⟩
    obtain rfl:b=s1.heap.objs.size:=by simpa using hb
    exact I1.fpOk (Nat.le_refl _) (I1.hok.fresh (Nat.le_refl _))
end
end L2

namespace L2
open PySem PySem.Spec PyProof.Rows
section
variable {prog:Program} {w:World} {A:Around} {E:Value→Shared→Prop} {s:Shared}
end
end L2

namespace L2
open PySem
section
variable {prog:Program} {w:World} {A:Around} {E:Value→Shared→Prop} {s:Shared}
theorem enumTurn {k:Bool} {e p l:Addr} {n:Nat} {xs:Array Value} {v old:Value} {Q:Option Value→Shared→Prop} (ie:IsEnum s.heap e p n old) (g:SI k s.heap p l n) (m:SS k s.heap l xs) (hv:xs[n]? = some v) (hne:e≠p)
    (q:∀ h',IsEnumOut h' e p ((n:Int)+1) v s.heap.objs.size→SI k h' p l (n+1)→h'.get? s.heap.objs.size=some { cls:=.type "tuple",data:=.seq #[.int n s.toks,v] }→h'.objs.size=s.heap.objs.size+1 →
      (∀ b o,b≠e→b≠p→s.heap.get? b=some o→h'.get? b=some o)→Q (some (.ref s.heap.objs.size)) { s with heap:=h',toks:=s.toks+1 }):wpAny (model prog w) A (pyNext (.ref e)) Q E s:=by
  have ty:s.TypeIs (.ref e) "enumerate" := ⟨_,ie,rfl⟩
  unfold pyNext
  refine wpAny_bind (wpAny_attempt (wpAny_callSpecial?_slot (name:=Str.ofString "__next__") ty F.slot_enumerate_next (wpAny_call_entry F.slot_enumerate_next ty F.entry_enumerate_next ?_ (F.args_enumerate_next_1 _))))
  obtain ⟨hp,gs,dr,tk,os⟩:=s
  show wpAny _ _ (field (.ref e) 2 >>= _) _ _ _
  refine wpAny_bind (wpAny_field ie rfl (x:=.ref p) rfl (wpAny_bind (seqStep g m hv fun ha ga sa=>?_)))
  replace sa:Heap.SameBut p hp ha:=sa
  have ea:IsEnum ha e p n old:=(sa.2 e hne).trans ie
  show wpAny _ _ (field (.ref e) 3 >>= _) _ _ ⟨ha,gs,dr,tk,os⟩
  refine wpAny_bind (wpAny_field ea rfl (x:=rawInt n) rfl ?_)
  show wpAny _ _ (field (.ref e) 4 >>= _) _ _ ⟨ha,gs,dr,tk,os⟩
  refine wpAny_bind (wpAny_field ea rfl (x:=.none) rfl ?_)
  show wpAny _ _ (mkInt n >>= _) _ _ ⟨ha,gs,dr,tk,os⟩
  refine wpAny_bind (wpAny_mkInt ?_)
  show wpAny _ _ (setField (.ref e) 3 (rawInt ((n:Int)+1)) >>= _) _ _ ⟨ha,gs,dr,tk+1,os⟩
  refine wpAny_bind (wpAny_setField_rec ea (by simp) fun hb eb sb=>?_)
  replace sb:Heap.SameBut e ha hb:=sb
  replace eb:IsEnum hb e p ((n:Int)+1) old:=eb
  show wpAny _ _ (setField (.ref e) 4 .none >>= _) _ _ ⟨hb,gs,dr,tk+1,os⟩
  refine wpAny_bind (wpAny_setField_rec eb (by simp) fun hc ec sc=>?_)
  replace sc:Heap.SameBut e hb hc:=sc
  replace ec:IsEnum hc e p ((n:Int)+1) old:=ec
  show wpAny _ _ (newTuple [.int n tk,v] >>= _) _ _ ⟨hc,gs,dr,tk+1,os⟩
  refine wpAny_bind (wpAny_newTuple ?_)
  have zc:hc.objs.size=hp.objs.size:=by rw [sc.1,sb.1,sa.1]
  have ltE:e<hp.objs.size:=Heap.lt_size ie
  obtain ⟨hd,hhd⟩:∃ hd,hd=hc.push { cls:=.type "tuple",data:=.seq #[.int n tk,v] }:=⟨_,rfl⟩
  have ed:IsEnum hd e p ((n:Int)+1) old:=by rw [hhd]; exact Heap.get?_push_of_some _ ec
  have td:hd.get? hp.objs.size=some { cls:=.type "tuple",data:=.seq #[.int n tk,v] }:=by rw [hhd,← zc]; exact Heap.get?_push_size _ rfl
  have zd:hd.objs.size=hp.objs.size+1:=by rw [hhd,Heap.size_push,zc]
  have kd:∀ b o,b≠e→b≠p→hp.get? b=some o→hd.get? b=some o:=fun b o b1 b2 z=>by rw [hhd]; exact Heap.get?_push_of_some _ (sc.extBut b o b1 (sb.extBut b o b1 (sa.extBut b o b2 z)))
  have gd:SI k hd p l (n+1):=((ga.but sb.extBut (Ne.symm hne)).but sc.extBut (Ne.symm hne)).at fun o z=>by rw [hhd]; exact Heap.get?_push_of_some _ z
  show wpAny _ _ (Builtin.SmallTypes.ownedTupleIsFree (.ref e) >>= _) _ _ ⟨hc.push { cls:=.type "tuple",data:=.seq #[.int n tk,v] },gs,dr,tk+1,os⟩
  rw [← hhd,zc]
  refine wpAny_bind ?_; unfold Builtin.SmallTypes.ownedTupleIsFree
  refine wpAny_bind (wpAny_field ed rfl (x:=.none) rfl (wpAny_pure ?_)); simp only [if_true]
  refine wpAny_bind (wpAny_rule (wpAny_bind (wpAny_field ed rfl (x:=old) rfl (wpAny_bind (wpAny_setField_rec ed (by simp) fun hf ef sf=>?_)))))
  replace sf:Heap.SameBut e hd hf:=sf
  replace ef:IsEnum hf e p ((n:Int)+1) v:=ef
  show wpAny _ _ (Builtin.SmallTypes.ownedTupleHandOut (.ref e) (.ref hp.objs.size) >>= _) _ _ ⟨hf,gs,dr,tk+1,os⟩
  refine wpAny_bind ?_; unfold Builtin.SmallTypes.ownedTupleHandOut
  refine wpAny_bind (wpAny_setField_rec ef (by simp) fun hg eg sg=>?_)
  replace sg:Heap.SameBut e hf hg:=sg
  replace eg:IsEnumOut hg e p ((n:Int)+1) v hp.objs.size:=eg
  refine wpAny_setField_rec eg (by simp) fun hh eh sh=>?_
  replace sh:Heap.SameBut e hg hh:=sh
  replace eh:IsEnumOut hh e p ((n:Int)+1) v hp.objs.size:=eh
  refine wpAny_bind (wpAny_letGo (wpAny_pure ⟨_,rfl,wpAny_pure (q hh eh ?_ ?_ ?_ ?_)⟩))
  · exact ((gd.but sf.extBut (Ne.symm hne)).but sg.extBut (Ne.symm hne)).but sh.extBut (Ne.symm hne)
  · exact sh.extBut _ _ (Nat.ne_of_gt ltE) (sg.extBut _ _ (Nat.ne_of_gt ltE) (sf.extBut _ _ (Nat.ne_of_gt ltE) td))
  · show hh.objs.size=hp.objs.size+1
    rw [sh.1,sg.1,sf.1,zd]
  · exact fun b o b1 b2 z=>sh.extBut b o b1 (sg.extBut b o b1 (sf.extBut b o b1 (kd b o b1 b2 z)))
theorem enumEnd {k:Bool} {e p l:Addr} {n:Nat} {xs:Array Value} {old:Value} {Q:Option Value→Shared→Prop} (hA:A.handled=none) (ie:IsEnum s.heap e p n old) (g:SI k s.heap p l n) (m:SS k s.heap l xs) (hv:xs[n]? = none)
    (q:∀ h',Heap.ExtBut p s.heap h'→Q none { s with heap:=h' }):wpAny (model prog w) A (pyNext (.ref e)) Q E s:=by
  have ty:s.TypeIs (.ref e) "enumerate" := ⟨_,ie,rfl⟩
  unfold pyNext
  refine wpAny_bind (wpAny_attempt (wpAny_callSpecial?_slot (name:=Str.ofString "__next__") ty F.slot_enumerate_next (wpAny_call_entry F.slot_enumerate_next ty F.entry_enumerate_next ?_ (F.args_enumerate_next_1 _))))
  show wpAny _ _ (field (.ref e) 2 >>= _) _ _ _
  refine wpAny_bind (wpAny_field ie rfl (x:=.ref p) rfl (wpAny_bind (seqEnd hA g m hv fun h' x he' zz=>?_)))
  obtain ⟨o,ho,hc⟩:=zz
  exact wpAny_bind (wpAny_isInstance (T := "StopIteration") (b:=true) ⟨o,ho,hc⟩ isSubtype_stop (wpAny_pure (q _ he')))
end
set_option maxHeartbeats 2000000 in
theorem enumNewT (l:Addr) (xs:Array Value) (n:Nat) (dct:Option Addr) (sl:Array (Option Value)) :
    Meets (Builtin.«enumerate.__new__» ⟨[.type "enumerate",.ref l],[]⟩) (fun _ R s=>s.heap.get? l=some { cls:=.type "tuple",dict:=dct,data:=.seq xs n,slots:=sl } ∧
      R (.ok (.ret (.ref (zA false s.heap l).objs.size))) { s with heap:=(zA false s.heap l).push { cls:=.type "enumerate",data:=.fields #[.none,.bool false,.ref s.heap.objs.size,rawInt 0,.none,.none] } }) :=
  .of_wp fun prog w A R s h=>by
    obtain ⟨hp,g,d,tk,os⟩:=s
    obtain ⟨hl,h⟩:=h
    have hsub:=sub_enumerate
    have hT:Heap.IsTuple (Shared.heap ⟨hp,g,d,tk,os⟩) l xs:=⟨_,hl,rfl,n,rfl⟩
    wp_walk using AutoSeq1.wpAny_loadPart' hl
    refine wpAny_stack_any fun st=>wpAny_pure ?_
    split
    · rename_i c _ _ _ _ _
      cases (c == Value.type "enumerate")
      · wp_walk using AutoSeq1.wpAny_loadPart' hl,wpAny_pyIter_tuple hT
        exact ⟨_,rfl,h⟩
      · wp_walk using AutoSeq1.wpAny_loadPart' hl,wpAny_pyIter_tuple hT
        exact ⟨_,rfl,h⟩
    · wp_walk using AutoSeq1.wpAny_loadPart' hl,wpAny_pyIter_tuple hT
      exact ⟨_,rfl,h⟩
section
variable {prog:Program} {w:World} {A:Around} {E:Value→Shared→Prop} {s:Shared}
theorem callEnum {k:Bool} {l:Addr} {xs:Array Value} {Q:Value→Shared→Prop} (m:SS k s.heap l xs)
    (q:∀ h',IsEnum h' (s.heap.objs.size+1) s.heap.objs.size 0 .none→SI k h' s.heap.objs.size l 0→h'.objs.size=s.heap.objs.size+2→(∀ b o,s.heap.get? b=some o→h'.get? b=some o)→Q (.ref (s.heap.objs.size+1)) { s with heap:=h' }) :
    wpAny (model prog w) A (call (.type "enumerate") [.ref l]) Q E s:=by
  cases k with
  | true=>exact call_enumerate_list m q
  | false =>
    obtain ⟨⟨c,dct,dt,sl⟩,hl,hc,n,hd⟩:=m
    simp only at hc hd
    subst hc; subst hd
    refine callType_new F.called_enumerate (by decide) (F.typeCall_enumerate_1 _) (F.newCall_enumerate_1 _) (fun obj=>F.args_object_init_2 obj _) F.entry_enumerate_new (enumNewT l xs n dct sl) ⟨hl,?_⟩
    have s1:(zA false s.heap l).objs.size=s.heap.objs.size+1:=Heap.size_push ..
    have o1:((zA false s.heap l).push { cls:=.type "enumerate",data:=.fields #[.none,.bool false,.ref s.heap.objs.size,rawInt 0,.none,.none] }).get? (zA false s.heap l).objs.size=some _:=Heap.get?_push_size _ rfl
    show _∧_
    rw [s1] at o1 ⊢
    exact ⟨⟨_,o1,rfl⟩,q _ o1 ⟨_,Heap.get?_push_of_some _ (Heap.get?_push_size _ rfl),rfl,rfl⟩ (by rw [Heap.size_push,s1]) fun b o e=>Heap.get?_push_of_some _ (Heap.get?_push_of_some _ e)⟩
end
end L2
namespace L2
open PySem PySem.Spec PyProof.Rows
noncomputable def Ite (K:PySem.W.Frag) (k:Bool) (l:Addr):It :=
  ⟨fun i H=>∃ xs x,SqK K k H l xs∧xs[i]? = some x,
   fun i H v H'=>∃ T x,H T=none∧v = .ref T∧H'=upd H T (.tup [.int i,x])∧∀ xs,SqK K k H l xs→xs[i]? = some x,
   fun i H=>∃ xs,SqK K k H l xs∧xs.length≤i⟩
noncomputable def EnumSt (k:Bool) (e p l:Addr) (i:Nat) (h:Heap):Prop:=(∃ old,IsEnum h e p i old)∧SI k h p l i
theorem turn_enum {P:Program} {w:World} {K:PySem.W.Frag} {elts:List Expr} {kx:Nat} {tp:Pos} {k:Bool} {e p l:Addr} (hne:e≠p):Turn P w K (.Tuple elts kx tp) (Ite K k l) [e,p] e (EnumSt k e p l) where
  mem:=by simp
  obj:=fun i h ⟨⟨old,ie⟩,g⟩ c hc=>by
    simp only [List.mem_cons,List.not_mem_nil,or_false] at hc
    rcases hc with rfl | rfl
    · exact ⟨_,ie,fun v z=>by cases z⟩
    · exact g.obj
  keep:=fun i h h' ⟨⟨old,ie⟩,g⟩ kk=>⟨⟨old,kk e (by simp) _ ie⟩,g.at fun o z=>kk p (by simp) o z⟩
  item:=by
    intro X hP hw hK hc i pins s σ H E I hf st hg
    subst hP hw hK
    obtain ⟨⟨old,ie⟩,g⟩:=st
    obtain ⟨xs,x,q1,hx⟩:=hg
    obtain ⟨is1,r1,m1⟩:=I.sqk q1
    obtain ⟨u1,hu1,ru1⟩:=r1.get hx
    refine enumTurn ie g m1 (v:=u1) (by simpa using hu1) hne fun h' a1 a2 a3 a4 kk=>?_
    refine ⟨_,rfl,?_⟩
    refine wpAny_letOwnedTupleGo_enum (s:={ s with heap:=h',toks:=s.toks+1 }) a1 fun h2 b1 b2=>?_
    have lt:∀ {c o},s.heap.get? c=some o→c≠s.heap.objs.size:=fun z=>Nat.ne_of_lt (Heap.lt_size z)
    have I1:Inv X pins σ (upd H s.heap.objs.size (.tup [.int i,x])) { s with heap:=s.heap.push { cls:=.type "tuple",data:=.seq #[.int i s.toks,u1] },toks:=s.toks+1 } :=
      I.laid (o:=.tup [.int i,x]) (fun b ob q=>Heap.get?_push_of_some _ q) (Nat.le_refl _) ⟨(show 2≤sizeLine by decide),[.int i s.toks,u1],.cons ⟨_,rfl⟩ (.cons ru1 .nil),IsTup.new _ _⟩
    have nfp:∀ c∈[e,p],c≠s.heap.objs.size:=fun c hc=>by
      simp only [List.mem_cons,List.not_mem_nil,or_false] at hc
      rcases hc with rfl | rfl
      · exact lt ie
      · obtain ⟨o,z,_⟩:=g.obj; exact lt z
    have hf':∀ c∈[e,p],FpOk X pins (upd H s.heap.objs.size (.tup [.int i,x])) c:=fun c hc=>by
      obtain ⟨f0,f1⟩:=hf c hc
      exact ⟨by rw [upd_ne (nfp c hc)]; exact f0,f1⟩
    have I2:Inv X pins σ (upd H s.heap.objs.size (.tup [.int i,x])) { s with heap:=h2,toks:=s.toks+1 }:=by
      refine Inv.turnedN (s:={ s with heap:=s.heap.push { cls:=.type "tuple",data:=.seq #[.int i s.toks,u1] },toks:=s.toks+1 }) (t':=s.toks+1) (h':=h2) (ch:=[e,p]) I1 (fun c o hcn z=>?_) hf'
      simp only [List.mem_cons,List.not_mem_nil,or_false,not_or] at hcn
      obtain ⟨n1,n2⟩:=hcn
      refine b2.extBut c o n1 ?_
      have z':(s.heap.push { cls:=.type "tuple",data:=.seq #[.int i s.toks,u1] }).get? c=some o:=z
      by_cases hcs:c=s.heap.objs.size
      · subst hcs
        rw [Heap.get?_push_size _ rfl] at z'
        cases z'
        exact a3
      · rw [Heap.get?_push_ne _ _ _ hcs] at z'
        exact kk c o n1 n2 z'
    refine ⟨.ref s.heap.objs.size,_,I2,rfl,⟨_,x,I.hok.fresh (Nat.le_refl _),rfl,rfl,fun zs hz=>by rw [I.sqk_inj hz q1]; exact hx⟩,?_,fun c hc=>(hf' c hc).1⟩
    have ec:((i+1:Nat):Int)=(i:Int)+1:=by omega
    exact ⟨⟨u1,by rw [ec]; exact b1⟩,a2.at fun o z=>b2.extBut p o (Ne.symm hne) z⟩
  done:=by
    intro X hP hw hK hc i pins s σ H E I hf st hg
    subst hP hw hK
    obtain ⟨⟨old,ie⟩,g⟩:=st
    obtain ⟨xs,q1,hx⟩:=hg
    obtain ⟨is1,r1,m1⟩:=I.sqk q1
    have e1:=r1.length
    refine enumEnd (I.ok.hd hc) ie g m1 (by simp; omega) fun h' kk=>⟨rfl,?_⟩
    refine I.turnedN (t':=s.toks) (ch:=[e,p]) (fun c o hcn z=>?_) hf
    simp only [List.mem_cons,List.not_mem_nil,or_false,not_or] at hcn
    exact kk c o hcn.2 z
  self:=fun _ _ _ _ _ st h=>let ⟨⟨_,ie⟩,_⟩:=st; wpAny_pyIter_enum ie h
noncomputable def iEnum (K:PySem.W.Frag) (ta:TA):TI:=fun σ H R=>ta σ H fun vs H1=>∃ k l,vs=[.ref l]∧(∃ xs,SqK K k H1 l xs)∧R (Ite K k l) H1
theorem pi_enum {X:Cx} {elts:List Expr} {kx:Nat} {tp:Pos} {a:Expr} {ta:TA} {p pos:Pos} (hg:Gl X "enumerate") (hm:X.mg "enumerate" = none) (ha:PA X [a] ta) (hs:starEach [a] X.env=[(false,eval a X.env)]:=by rfl) :
    PI X (.Tuple elts kx tp) (.Call (.Name "enumerate" p) [a] [] pos) (iEnum X.K ta):=by
  intro pins s σ H R I h
  refine Call_ (ld_blt I hg hm PyProof.Rows.boot_enumerate (PyProof.Rows.callWith_type1 (thn (ha pos pins s σ H _ I h) fun us s1 ⟨vs,H1,I1,r1,q1⟩=>?_) hs rfl))
  obtain ⟨k,l,e,⟨xs,q2⟩,q⟩:=q1
  subst e
  cases r1 with
  | cons r rr =>
    cases rr
    cases r
    obtain ⟨is1,_,m1⟩:=I1.sqk q2
    refine callEnum m1 fun h' a1 a2 a3 kk=>?_
    refine wpAny_pyIter_enum (s:={ s1 with heap:=h' }) a1 ?_
    refine ⟨s1.heap.objs.size+1,_,_,_,H1,rfl,I1.kept (t':=s1.toks) kk,turn_enum (Nat.succ_ne_self _),⟨⟨_,a1⟩,a2⟩,fun c hc=>?_,q⟩
    have hge:s1.heap.objs.size≤c:=by
      simp only [List.mem_cons,List.not_mem_nil,or_false] at hc
      rcases hc with rfl | rfl
      · exact Nat.le_add_right _ _
      · exact Nat.le_refl _
    exact I1.fpOk hge (I1.hok.fresh hge)
end L2

namespace L2
open PySem
theorem PE.imp {X:Cx} {x:Expr} {t t':TE} (h:PE X x t) (i:∀ σ H Q,t' σ H Q→t σ H Q):PE X x t':=fun pins s σ H Q I q=>h pins s σ H Q I (i σ H Q q)
theorem PT.imp {X:Cx} {x:Expr} {t t':TT} (h:PT X x t) (i:∀ σ H Q,t' σ H Q→t σ H Q):PT X x t':=fun pins s σ H Q I q=>h pins s σ H Q I (i σ H Q q)
theorem PW.imp {X:Cx} {x:Expr} {t t':TT} (h:PW X x t) (i:∀ σ H Q,t' σ H Q→t σ H Q):PW X x t':=fun wh pins s σ H Q I q=>h wh pins s σ H Q I (i σ H Q q)
theorem PA.imp {X:Cx} {x:List Expr} {t t':TA} (h:PA X x t) (i:∀ σ H Q,t' σ H Q→t σ H Q):PA X x t':=fun pos pins s σ H Q I q=>h pos pins s σ H Q I (i σ H Q q)
theorem PS.imp {X:Cx} {x:Stmt} {t t':TS} (h:PS X x t) (i:∀ E σ H,t' E σ H→t E σ H):PS X x t':=fun pins s σ H D I q=>h pins s σ H D I (i D σ H q)
theorem PSs.imp {X:Cx} {x:List Stmt} {t t':TS} (h:PSs X x t) (i:∀ E σ H,t' E σ H→t E σ H):PSs X x t':=fun pins s σ H D I q=>h pins s σ H D I (i D σ H q)
theorem OpR.imp {X:Cx} {f:Value→Value→Sem Value} {r r':R2} (h:OpR X f r) (i:∀ x y H Q,r' x y H Q→r x y H Q):OpR X f r':=fun pins s σ H x y v u Q I rx ry q=>h pins s σ H x y v u Q I rx ry (i x y H Q q)
theorem IxR.imp {X:Cx} {r r':R2} (h:IxR X r) (i:∀ x y H Q,r' x y H Q→r x y H Q):IxR X r':=fun va sl pins s σ H x y v u Q I rx ry q=>h va sl pins s σ H x y v u Q I rx ry (i x y H Q q)
theorem PG.imp {X:Cx} {x:Expr} {t t':TG} (h:PG X x t) (i:∀ v σ H Q,t' v σ H Q→t v σ H Q):PG X x t':=fun pins s σ H v u Q I r q=>h pins s σ H v u Q I r (i v σ H Q q)
theorem PGs.imp {X:Cx} {x:List Expr} {t t':TGs} (h:PGs X x t) (i:∀ v σ H Q,t' v σ H Q→t v σ H Q):PGs X x t':=fun pins s σ H v u Q I r q=>h pins s σ H v u Q I r (i v σ H Q q)
end L2
namespace DL
open PySem PySem.Spec L2
open PyProof.Rows hiding St


inductive D where
  | non | bl (b:Bool) | int (i:Int) | str (x:Str) | ref (a:Addr) | tup (ds:List D) | vl (ds:List D) | ty (n:String) | dic

noncomputable def KL (K:PySem.W.Frag) (a:Addr) (xs:List V):Prop:=∀ H:Hp,SqL K H a xs

mutual
inductive Has (K:PySem.W.Frag) (H:Hp):V→D→Prop
  | non:Has K H .non .non
  | bl (b:Bool):Has K H (.bl b) (.bl b)
  | int (i:Int):Has K H (.int i) (.int i)
  | str (x:Str):Has K H (.str x) (.str x)
  | ref (a:Addr):Has K H (.ref a) (.ref a)
  | ty (n:String):Has K H (.ty n) (.ty n)
  | tup {a:Addr} {xs:List V} {ds:List D}:SqT K H a xs→HasL K H xs ds→Has K H (.ref a) (.tup ds)
  | vl {a:Addr} {xs:List V} {ds:List D}:((∃ o,H a=some (.frz o (.lst xs)))∨KL K a xs)→HasL K H xs ds→Has K H (.ref a) (.vl ds)
  | dic {a:Addr}:(∃ o:Obj,H a=some (.frz o (.own 0))∧o.cls = .type "dict")→Has K H (.ref a) .dic
inductive HasL (K:PySem.W.Frag) (H:Hp):List V→List D→Prop
  | nil:HasL K H [] []
  | cons {v:V} {d:D} {vs:List V} {ds:List D}:Has K H v d→HasL K H vs ds→HasL K H (v :: vs) (d :: ds)
end

structure KT0 (H H':Hp):Prop where
  tp:∀ a xs,Rd H a (.tup xs)→Rd H' a (.tup xs)
  fz:∀ a o u,H a=some (.frz o u)→H' a=some (.frz o u)
structure KT (H H':Hp):Prop extends KT0 H H' where
  ex:∀ a φ,H a=some (.ext φ)→H' a=some (.ext φ)
theorem KT.refl (H:Hp):KT H H:=⟨⟨fun _ _ h=>h,fun _ _ _ h=>h⟩,fun _ _ h=>h⟩
theorem KT.trans {H H1 H2:Hp} (a:KT H H1) (b:KT H1 H2):KT H H2:=⟨⟨fun p xs h=>b.tp p xs (a.tp p xs h),fun p o xs h=>b.fz p o xs (a.fz p o xs h)⟩,fun p φ h=>b.ex p φ (a.ex p φ h)⟩
theorem KT0.sq {K:PySem.W.Frag} {H H':Hp} (k:KT0 H H') {a:Addr} {xs:List V} (h:SqT K H a xs):SqT K H' a xs:=h.elim (fun z=>.inl (k.tp a xs z)) .inr
theorem KT.sq {K:PySem.W.Frag} {H H':Hp} (k:KT H H') {a:Addr} {xs:List V} (h:SqT K H a xs):SqT K H' a xs:=k.toKT0.sq h
theorem KT0.at {H:Hp} {p:Addr} {o:HO} (h1:∀ xs,¬ Rd H p (.tup xs)) (h2:∀ q u,H p≠some (.frz q u)):KT0 H (upd H p o) where
  tp:=fun a xs r=>by
    have hn:a≠p:=by intro e; subst e; exact h1 xs r
    rcases r with r | ⟨q,r⟩
    · exact .inl (by rw [upd_ne hn]; exact r)
    · exact .inr ⟨q,by rw [upd_ne hn]; exact r⟩
  fz:=fun a q xs r=>by
    have hn:a≠p:=by intro e; subst e; exact h2 q xs r
    rw [upd_ne hn]; exact r
theorem KT.at {H:Hp} {p:Addr} {o:HO} (h1:∀ xs,¬ Rd H p (.tup xs)) (h2:∀ q u,H p≠some (.frz q u)) (h3:∀ φ,H p≠some (.ext φ)):KT H (upd H p o):=⟨KT0.at h1 h2,fun a φ r=>by
    have hn:a≠p:=by intro e; subst e; exact h3 φ r
    rw [upd_ne hn]; exact r⟩
theorem KT.alloc {H:Hp} {p:Addr} {o:HO} (h:H p=none):KT H (upd H p o):=KT.at (fun xs r=>by rcases r with r | ⟨_,r⟩ <;> (rw [h] at r; cases r)) (fun q xs r=>by rw [h] at r; cases r) fun φ r=>by rw [h] at r; cases r
theorem KT.any {H:Hp} {p:Addr} {xs:List V} {o:HO} (h:H p=some (.lst xs)):KT H (upd H p o):=KT.at (fun xs r=>by rcases r with r | ⟨_,r⟩ <;> (rw [h] at r; cases r)) (fun q xs r=>by rw [h] at r; cases r) fun φ r=>by rw [h] at r; cases r
theorem KT.write {H:Hp} {p:Addr} {xs ys:List V} (h:H p=some (.lst xs)):KT H (upd H p (.lst ys)):=KT.any h
theorem KT0.ext {H:Hp} {p:Addr} {φ:Heap→Prop} {o:HO} (h:H p=some (.ext φ)):KT0 H (upd H p o):=KT0.at (fun xs r=>by rcases r with r | ⟨_,r⟩ <;> (rw [h] at r; cases r)) fun q xs r=>by rw [h] at r; cases r
theorem KT.new {H H':Hp} {p:Addr} {o:HO} (k:KT H H') (h:H p=none):KT H (upd H' p o) where
  tp:=fun a xs r=>by
    have hn:a≠p:=by intro e; subst e; rcases r with r | ⟨_,r⟩ <;> (rw [h] at r; cases r)
    rcases k.tp a xs r with r | ⟨q,r⟩
    · exact .inl (by rw [upd_ne hn]; exact r)
    · exact .inr ⟨q,by rw [upd_ne hn]; exact r⟩
  fz:=fun a q xs r=>by
    have hn:a≠p:=by intro e; subst e; rw [h] at r; cases r
    rw [upd_ne hn]; exact k.fz a q xs r
  ex:=fun a φ r=>by
    have hn:a≠p:=by intro e; subst e; rw [h] at r; cases r
    rw [upd_ne hn]; exact k.ex a φ r

mutual
theorem Has.mono0 {K:PySem.W.Frag} {H H':Hp} (k:KT0 H H'):∀ {v:V} {d:D},Has K H v d→Has K H' v d
  | _,_,.non=>.non
  | _,_,.bl b=>.bl b
  | _,_,.int i=>.int i
  | _,_,.str x=>.str x
  | _,_,.ref a=>.ref a
  | _,_,.ty n=>.ty n
  | _,_,.tup s l=>.tup (k.sq s) (HasL.mono0 k l)
  | _,_,.vl h l=>.vl (h.elim (fun ⟨o,e⟩=>.inl ⟨o,k.fz _ _ _ e⟩) .inr) (HasL.mono0 k l)
  | _,_,.dic h=>.dic (let ⟨o,e,c⟩:=h; ⟨o,k.fz _ _ _ e,c⟩)
theorem HasL.mono0 {K:PySem.W.Frag} {H H':Hp} (k:KT0 H H'):∀ {v:List V} {d:List D},HasL K H v d→HasL K H' v d
  | _,_,.nil=>.nil
  | _,_,.cons a b=>.cons (Has.mono0 k a) (HasL.mono0 k b)
end
theorem Has.mono {K:PySem.W.Frag} {H H':Hp} (k:KT H H') {v:V} {d:D} (h:Has K H v d):Has K H' v d:=h.mono0 k.toKT0
theorem HasL.mono {K:PySem.W.Frag} {H H':Hp} (k:KT H H') {v:List V} {d:List D} (h:HasL K H v d):HasL K H' v d:=h.mono0 k.toKT0
section
variable {K:PySem.W.Frag} {H H':Hp}
theorem HasL.length:∀ {vs:List V} {ds:List D},HasL K H vs ds→vs.length=ds.length
  | _,_,.nil=>rfl
  | _,_,.cons _ b=>congrArg Nat.succ (HasL.length b)
theorem HasL.get:∀ {vs:List V} {ds:List D} {i:Nat} {d:D},HasL K H vs ds→ds[i]? = some d→∃ v,vs[i]? = some v∧Has K H v d
  | _,_,_,_,.nil,e=>by simp at e
  | _,_,0,_,.cons a _,e=>by simp at e; subst e; exact ⟨_,rfl,a⟩
  | _,_,i+1,d,.cons _ b,e=>by
    obtain ⟨v,h1,h2⟩:=HasL.get (i:=i) (d:=d) b (by simpa using e)
    exact ⟨v,by simpa using h1,h2⟩
theorem HasL.getV:∀ {vs:List V} {ds:List D} {i:Nat} {v:V},HasL K H vs ds→vs[i]? = some v→∃ d,ds[i]? = some d∧Has K H v d
  | _,_,_,_,.nil,e=>by simp at e
  | _,_,0,_,.cons a _,e=>by simp at e; subst e; exact ⟨_,rfl,a⟩
  | _,_,i+1,d,.cons _ b,e=>by
    obtain ⟨v,h1,h2⟩:=HasL.getV (i:=i) (v:=d) b (by simpa using e)
    exact ⟨v,by simpa using h1,h2⟩
theorem HasL.set {v:V} {d:D} (r:Has K H v d):∀ {vs:List V} {ds:List D} (i:Nat),HasL K H vs ds→HasL K H (vs.set i v) (ds.set i d)
  | _,_,_,.nil=>.nil
  | _,_,0,.cons _ t=>.cons r t
  | _,_,i+1,.cons q t=>.cons q (HasL.set r i t)
theorem HasL.append:∀ {xs ys:List V} {us ws:List D},HasL K H xs us→HasL K H ys ws→HasL K H (xs++ys) (us++ws)
  | _,_,_,_,.nil,s=>s
  | _,_,_,_,.cons r t,s=>.cons r (HasL.append t s)
theorem HasL.take:∀ {xs:List V} {us:List D} (n:Nat),HasL K H xs us→HasL K H (xs.take n) (us.take n)
  | _,_,0,_=>.nil
  | _,_,_+1,.nil=>.nil
  | _,_,n+1,.cons r t=>.cons r (HasL.take n t)
theorem HasL.drop:∀ {xs:List V} {us:List D} (n:Nat),HasL K H xs us→HasL K H (xs.drop n) (us.drop n)
  | _,_,0,r=>r
  | _,_,_+1,.nil=>.nil
  | _,_,n+1,.cons _ t=>HasL.drop n t
theorem HasL.ints:∀ (ns:List Int),HasL K H (ns.map V.int) (ns.map D.int)
  | []=>.nil
  | n :: r=>.cons (.int n) (HasL.ints r)
end


inductive MO where
  | lst (ds:List D)
noncomputable abbrev Mem:=Addr→Option MO
noncomputable def updM (M:Mem) (a:Addr) (o:MO):Mem:=fun b=>if b=a then some o else M b
theorem updM_same {M:Mem} {a:Addr} {o:MO}:updM M a o a=some o:=by unfold updM; rw [if_pos rfl]
theorem updM_ne {M:Mem} {a b:Addr} {o:MO} (h:b≠a):updM M a o b=M b:=by unfold updM; rw [if_neg h]
theorem updM_upd {M:Mem} {a:Addr} {o u:MO}:updM (updM M a o) a u=updM M a u:=by
  funext b; unfold updM; by_cases h:b=a <;> simp [h]
noncomputable def MOk (K:PySem.W.Frag) (H:Hp) (a:Addr):MO→Prop
  | .lst ds=>∃ xs,H a=some (.lst xs)∧HasL K H xs ds
noncomputable def AbsM (K:PySem.W.Frag) (H:Hp) (M:Mem):Prop:=∀ a o,M a=some o→MOk K H a o
section
variable {K:PySem.W.Frag} {H H':Hp} {M:Mem}
theorem AbsM.fresh (h:AbsM K H M) {p:Addr} (e:H p=none):M p=none:=by
  cases q:M p with
  | none=>rfl
  | some o =>
    cases o with
    | lst ds=>obtain ⟨xs,z,_⟩:=h p _ q; rw [e] at z; cases z
theorem AbsM.alloc (h:AbsM K H M) {p:Addr} {u:HO} (e:H p=none):AbsM K (upd H p u) M:=fun a o m=>by
  have k:KT H (upd H p u):=KT.alloc e
  cases o with
  | lst ds =>
    obtain ⟨xs,z,l⟩:=h a _ m
    have hn:a≠p:=ne_of_none z e
    exact ⟨xs,by rw [upd_ne hn]; exact z,l.mono k⟩
theorem AbsM.new (h:AbsM K H M) {p:Addr} {xs:List V} {ds:List D} (e:H p=none) (l:HasL K H xs ds):AbsM K (upd H p (.lst xs)) (updM M p (.lst ds)):=fun a o m=>by
  by_cases q:a=p
  · subst q
    rw [updM_same] at m; cases m
    exact ⟨xs,upd_same,l.mono (KT.alloc e)⟩
  · rw [updM_ne q] at m
    exact h.alloc e a o m
theorem AbsM.write (h:AbsM K H M) {p:Addr} {xs ys:List V} {ds:List D} (e:H p=some (.lst xs)) (l:HasL K H ys ds):AbsM K (upd H p (.lst ys)) (updM M p (.lst ds)):=fun a o m=>by
  have k:KT H (upd H p (.lst ys)):=KT.write e
  by_cases q:a=p
  · subst q
    rw [updM_same] at m; cases m
    exact ⟨ys,upd_same,l.mono k⟩
  · rw [updM_ne q] at m
    cases o with
    | lst es =>
      obtain ⟨zs,z,l⟩:=h a _ m
      exact ⟨zs,by rw [upd_ne q]; exact z,l.mono k⟩
theorem AbsM.lst (h:AbsM K H M) {a:Addr} {ds:List D} (m:M a=some (.lst ds)):∃ xs,H a=some (.lst xs)∧HasL K H xs ds:=h a _ m
end


noncomputable abbrev Ev:=List (Option D)
structure EnvOk (K:PySem.W.Frag) (H:Hp) (σ:St) (e:Ev):Prop where
  len:σ.length=e.length
  has:∀ (i:Nat) (d:D),e[i]? = some (some d)→∃ v,σ[i]? = some (some v)∧Has K H v d
section
variable {K:PySem.W.Frag} {H H':Hp} {σ:St} {e:Ev}
theorem EnvOk.mono (k:KT H H') (h:EnvOk K H σ e):EnvOk K H' σ e:=⟨h.len,fun i d z=>let ⟨v,a,b⟩:=h.has i d z; ⟨v,a,b.mono k⟩⟩
theorem EnvOk.set (h:EnvOk K H σ e) {v:V} {d:D} (r:Has K H v d) (i:Nat):EnvOk K H (σ.set i (some v)) (e.set i (some d)):=by
  refine ⟨by simp [h.len],fun j x z=>?_⟩
  rw [List.getElem?_set] at z ⊢
  by_cases q:i=j
  · subst q
    rw [if_pos rfl] at z ⊢
    by_cases l:i<e.length
    · rw [if_pos l] at z
      rw [if_pos (by rw [h.len]; exact l)]
      cases z
      exact ⟨v,rfl,r⟩
    · rw [if_neg l] at z; cases z
  · rw [if_neg q] at z ⊢
    exact h.has j x z
end
noncomputable def dstart (N:List Str) (ds:List D):Ev:=ds.map some++List.replicate (N.length - ds.length) none
theorem EnvOk.start0 {K:PySem.W.Frag} {H:Hp} {N:List Str} {vs:List V} {ds:List D} (h:HasL K H vs ds):EnvOk K H (L2.start N vs) (dstart N ds):=by
  have hl:=h.length
  refine ⟨by simp [L2.start,dstart,hl],fun i d z=>?_⟩
  unfold dstart at z
  unfold L2.start
  rw [List.getElem?_append] at z ⊢
  simp only [List.length_map] at z ⊢
  rw [hl]
  by_cases q:i<ds.length
  · rw [if_pos q] at z ⊢
    rw [List.getElem?_map] at z ⊢
    cases e:ds[i]? with
    | none=>rw [e] at z; cases z
    | some x =>
      rw [e] at z
      have z':x=d:=by simpa using z
      subst z'
      obtain ⟨v,a,b⟩:=h.get e
      exact ⟨v,by rw [a]; rfl,b⟩
  · rw [if_neg q] at z
    rw [List.getElem?_replicate] at z
    split at z <;> cases z


noncomputable abbrev DK:=D→Mem→Prop
noncomputable abbrev DTE:=Ev→Mem→DK→Prop
noncomputable abbrev DTT:=Ev→Mem→(Bool→Mem→Prop)→Prop
noncomputable abbrev DTA:=Ev→Mem→(List D→Mem→Prop)→Prop
structure DEnds where
  nx:Ev→Mem→Prop
  rt:DK
  bk:Ev→Mem→Prop:=fun _ _=>False
  ct:Ev→Mem→Prop:=fun _ _=>False
noncomputable abbrev DTS:=DEnds→Ev→Mem→Prop
noncomputable def FitV (K:PySem.W.Frag) (H:Hp) (R:DK) (Q:VK):Prop:=∀ d M',R d M'→∀ v H',KT H H'→AbsM K H' M'→Has K H' v d→Q v H'
noncomputable def FitB (K:PySem.W.Frag) (H:Hp) (R:Bool→Mem→Prop) (Q:Bool→Hp→Prop):Prop:=∀ b M',R b M'→∀ H',KT H H'→AbsM K H' M'→Q b H'
noncomputable def FitL (K:PySem.W.Frag) (H:Hp) (R:List D→Mem→Prop) (Q:List V→Hp→Prop):Prop:=∀ ds M',R ds M'→∀ vs H',KT H H'→AbsM K H' M'→HasL K H' vs ds→Q vs H'
noncomputable def FitN (K:PySem.W.Frag) (H:Hp) (R:Ev→Mem→Prop) (Q:St→Hp→Prop):Prop:=∀ e M',R e M'→∀ σ H',KT H H'→AbsM K H' M'→EnvOk K H' σ e→Q σ H'
structure Fit (K:PySem.W.Frag) (H:Hp) (F:DEnds) (E:Ends):Prop where
  nx:FitN K H F.nx E.nx
  rt:FitV K H F.rt E.rt
  bk:FitN K H F.bk E.bk
  ct:FitN K H F.ct E.ct
section
variable {K:PySem.W.Frag} {H H':Hp}
theorem FitV.mono {R:DK} {Q:VK} (h:FitV K H R Q) (k:KT H H'):FitV K H' R Q:=fun d M r v H2 k2 a b=>h d M r v H2 (k.trans k2) a b
theorem FitB.mono {R:Bool→Mem→Prop} {Q:Bool→Hp→Prop} (h:FitB K H R Q) (k:KT H H'):FitB K H' R Q:=fun d M r H2 k2 a=>h d M r H2 (k.trans k2) a
theorem FitL.mono {R:List D→Mem→Prop} {Q:List V→Hp→Prop} (h:FitL K H R Q) (k:KT H H'):FitL K H' R Q:=fun d M r v H2 k2 a b=>h d M r v H2 (k.trans k2) a b
theorem FitN.mono {R:Ev→Mem→Prop} {Q:St→Hp→Prop} (h:FitN K H R Q) (k:KT H H'):FitN K H' R Q:=fun d M r v H2 k2 a b=>h d M r v H2 (k.trans k2) a b
theorem Fit.mono {F:DEnds} {E:Ends} (h:Fit K H F E) (k:KT H H'):Fit K H' F E:=⟨h.nx.mono k,h.rt.mono k,h.bk.mono k,h.ct.mono k⟩
end
noncomputable def up (K:PySem.W.Frag) (t:DTE):TE:=fun σ H Q=>∃ e M R,EnvOk K H σ e∧AbsM K H M∧t e M R∧FitV K H R Q
noncomputable def upT (K:PySem.W.Frag) (t:DTT):TT:=fun σ H Q=>∃ e M R,EnvOk K H σ e∧AbsM K H M∧t e M R∧FitB K H R Q
noncomputable def upA (K:PySem.W.Frag) (t:DTA):TA:=fun σ H Q=>∃ e M R,EnvOk K H σ e∧AbsM K H M∧t e M R∧FitL K H R Q
noncomputable def upS (K:PySem.W.Frag) (t:DTS):TS:=fun E σ H=>∃ e M F,EnvOk K H σ e∧AbsM K H M∧t F e M∧Fit K H F E
noncomputable abbrev DPE (X:Cx) (x:Expr) (t:DTE):Prop:=PE X x (up X.K t)
noncomputable abbrev DPT (X:Cx) (x:Expr) (t:DTT):Prop:=PT X x (upT X.K t)
noncomputable abbrev DPW (X:Cx) (x:Expr) (t:DTT):Prop:=PW X x (upT X.K t)
noncomputable abbrev DPA (X:Cx) (x:List Expr) (t:DTA):Prop:=PA X x (upA X.K t)
noncomputable abbrev DPS (X:Cx) (x:Stmt) (t:DTS):Prop:=PS X x (upS X.K t)
noncomputable abbrev DPSs (X:Cx) (x:List Stmt) (t:DTS):Prop:=PSs X x (upS X.K t)
structure JE (X:Cx) (x:Expr) (t:DTE):Prop where
  out:DPE X x t
structure JT (X:Cx) (x:Expr) (t:DTT):Prop where
  out:DPT X x t
structure JW (X:Cx) (x:Expr) (t:DTT):Prop where
  out:DPW X x t
structure JA (X:Cx) (x:List Expr) (t:DTA):Prop where
  out:DPA X x t
structure JS (X:Cx) (x:Stmt) (t:DTS):Prop where
  out:DPS X x t
structure JSs (X:Cx) (x:List Stmt) (t:DTS):Prop where
  out:DPSs X x t

section
variable {X:Cx} {a b c:Expr} {ta tb tc:DTE} {pos:Pos}

noncomputable def dVar (i:Nat):DTE:=fun e M R=>∃ d,e[i]? = some (some d)∧R d M
noncomputable def dC (d:D):DTE:=fun _ M R=>R d M
theorem d_var (i:Nat) {x:Str} {pos:Pos} (hN:X.N[i]? = some x:=by rfl) (hv:Vis X.env.scope x:=by first | exact Or.inl rfl | exact Or.inr (Or.inl rfl) | exact Or.inr (Or.inr rfl)) (hd:(x == ("__debug__" : Str))=false:=by decide)
    (hcd:(x == ("__classdict__" : Str))=false:=by decide):DPE X (.Name x pos) (dVar i) :=
  (pe_var hN hv hd hcd).imp (by
    rintro σ H Q ⟨e,M,R,ok,am,⟨d,z,r⟩,f⟩
    obtain ⟨v,h1,h2⟩:=ok.has i d z
    exact ⟨v,h1,f d M r v H (KT.refl H) am h2⟩)
theorem jdv (i:Nat) {x:Str} {pos:Pos} (hN:X.N[i]? = some x:=by rfl) (hv:Vis X.env.scope x:=by first | exact Or.inl rfl | exact Or.inr (Or.inl rfl) | exact Or.inr (Or.inr rfl)) (hd:(x == ("__debug__" : Str))=false:=by decide)
    (hcd:(x == ("__classdict__" : Str))=false:=by decide):JE X (.Name x pos) (dVar i):=⟨d_var (i:=i) (hN:=hN) (hv:=hv) (hd:=hd) (hcd:=hcd)⟩
theorem d_const {v:V} {d:D} (h:PE X a (tC v)) (r:∀ H,Has X.K H v d):DPE X a (dC d) :=
  h.imp (by rintro σ H Q ⟨e,M,R,ok,am,z,f⟩; exact f d M z v H (KT.refl H) am (r H))
theorem d_int {i j pos}:DPE X (.Constant (.int i) j pos) (dC (.int i)):=d_const pe_int fun _=>.int i
theorem jdi {i j pos}:JE X (.Constant (.int i) j pos) (dC (.int i)):=⟨d_int ⟩
theorem d_bl {b j pos}:DPE X (.Constant (.bool b) j pos) (dC (.bl b)):=d_const pe_bl fun _=>.bl b
theorem jd_bl {b j pos}:JE X (.Constant (.bool b) j pos) (dC (.bl b)):=⟨d_bl ⟩
theorem d_non {j pos}:DPE X (.Constant .none j pos) (dC .non):=d_const pe_non fun _=>.non
theorem jd_non {j pos}:JE X (.Constant .none j pos) (dC .non):=⟨d_non ⟩
theorem d_str {x j pos}:DPE X (.Constant (.str x) j pos) (dC (.str x)):=d_const pe_str fun _=>.str x
theorem jd_str {x j pos}:JE X (.Constant (.str x) j pos) (dC (.str x)):=⟨d_str ⟩
noncomputable def HasK (K:PySem.W.Frag) (v:V) (d:D):Prop:=∀ H,Has K H v d
theorem d_glob {x:Str} {v:V} {d:D} {u:Value} {pos:Pos} (hg:Gl X x) (hm:X.mg x=some u) (r:RelV v u) (hk:HasK X.K v d) (hd:(x == ("__debug__" : Str))=false:=by decide):DPE X (.Name x pos) (dC d) :=
  d_const (pe_glob hg hm r hd) hk

noncomputable abbrev DR2:=D→D→Mem→DK→Prop
noncomputable def upR (K:PySem.W.Frag) (g:DR2):R2:=fun x y H Q=>∃ dx dy M R,Has K H x dx∧Has K H y dy∧AbsM K H M∧g dx dy M R∧FitV K H R Q
noncomputable def DOp (X:Cx) (f:Value→Value→Sem Value) (g:DR2):Prop:=OpR X f (upR X.K g)
noncomputable def dOp (g:DR2) (ta tb:DTE):DTE:=fun e M R=>ta e M fun x M1=>tb e M1 fun y M2=>g x y M2 R
theorem two_up {ta tb:DTE} {g:DR2} {σ:St} {H:Hp} {Q:VK} (h:up X.K (dOp g ta tb) σ H Q):tOp (upR X.K g) (up X.K ta) (up X.K tb) σ H Q:=by
  obtain ⟨e,M,R,ok,am,t,f⟩:=h
  refine ⟨e,M,_,ok,am,t,fun x M1 h1 v H1 k1 a1 r1=>?_⟩
  refine ⟨e,M1,_,ok.mono k1,a1,h1,fun y M2 h2 u H2 k2 a2 r2=>?_⟩
  exact ⟨x,y,M2,R,r1.mono k2,r2,a2,h2,f.mono (k1.trans k2)⟩
theorem d_op {op:Operator} {g:DR2} (ho:DOp X (binaryOp op) g) (ha:DPE X a ta) (hb:DPE X b tb):DPE X (.BinOp a op b pos) (dOp g ta tb) :=
  (pe_op ho ha hb).imp fun _ _ _ h=>two_up h
theorem jd_op {op:Operator} {g:DR2} (ho:DOp X (binaryOp op) g) (ha:JE X a ta) (hb:JE X b tb):JE X (.BinOp a op b pos) (dOp g ta tb):=⟨d_op (ho:=ho) (ha:=ha.out) (hb:=hb.out)⟩
theorem d_cmp {op:CmpOp} {g:DR2} (ho:DOp X (compareOp op) g) (ha:DPE X a ta) (hb:DPE X b tb) (hm:behindInMarks op b=false):DPE X (.Compare a [op] [b] pos) (dOp g ta tb) :=
  (pe_cmpR ho ha hb hm).imp fun _ _ _ h=>two_up h
theorem jd_cmp {op:CmpOp} {g:DR2} (ho:DOp X (compareOp op) g) (ha:JE X a ta) (hb:JE X b tb) (hm:behindInMarks op b=false):JE X (.Compare a [op] [b] pos) (dOp g ta tb):=⟨d_cmp (ho:=ho) (ha:=ha.out) (hb:=hb.out) (hm:=hm)⟩
noncomputable def dTest (t:DTE):DTT:=fun e M R=>t e M fun x M'=>∃ k,x = .bl k∧R k M'
theorem test_fit {K:PySem.W.Frag} {H:Hp} {R:Bool→Mem→Prop} {Q:Bool→Hp→Prop} (f:FitB K H R Q):FitV K H (fun x M'=>∃ k,x = .bl k∧R k M') (fun x H'=>∃ k,x = .bl k∧Q k H'):=by
  rintro d M' ⟨k,rfl,r⟩ v H' kt am h
  cases h
  exact ⟨k,rfl,f k M' r H' kt am⟩
theorem d_tcmp {op:CmpOp} {g:DR2} (ho:DOp X (compareOp op) g) (ha:DPE X a ta) (hb:DPE X b tb) (hm:behindInMarks op b=false):DPT X (.Compare a [op] [b] pos) (dTest (dOp g ta tb)) :=
  (pt_cmpR ho ha hb hm).imp (by rintro σ H Q ⟨e,M,R,ok,am,t,f⟩; exact two_up (Q:=fun x H'=>∃ k,x = .bl k∧Q k H') ⟨e,M,_,ok,am,t,test_fit f⟩)
theorem jd_tcmp {op:CmpOp} {g:DR2} (ho:DOp X (compareOp op) g) (ha:JE X a ta) (hb:JE X b tb) (hm:behindInMarks op b=false):JT X (.Compare a [op] [b] pos) (dTest (dOp g ta tb)):=⟨d_tcmp (ho:=ho) (ha:=ha.out) (hb:=hb.out) (hm:=hm)⟩
theorem d_tval {x:Expr} {t:DTE} (h:DPE X x t) (he:∀ whole,isTrue x X.env whole=(do let v ← whole; standAt x.pos; holding [v] (truthy v)):=by intro _; rfl):DPT X x (dTest t) :=
  (pt_val h he).imp (by rintro σ H Q ⟨e,M,R,ok,am,t,f⟩; exact ⟨e,M,_,ok,am,t,test_fit f⟩)
theorem jd_tval {x:Expr} {t:DTE} (h:JE X x t) (he:∀ whole,isTrue x X.env whole=(do let v ← whole; standAt x.pos; holding [v] (truthy v)):=by intro _; rfl):JT X x (dTest t):=⟨d_tval (h:=h.out) (he:=he)⟩

noncomputable def fI (f:Int→Int→D):D→D→Option D
  | .int i,.int j=>some (f i j)
  | _,_=>none
noncomputable def gF (f:D→D→Option D):DR2:=fun x y M R=>∃ z,f x y=some z∧R z M
noncomputable def gI (C:Int→Int→Prop) (f:Int→Int→D):DR2:=fun x y M R=>∃ i j,x = .int i∧y = .int j∧C i j∧R (f i j) M
theorem fI_some {f:Int→Int→D} {x y z:D} (h:fI f x y=some z):∃ i j,x = .int i∧y = .int j∧z=f i j:=by
  cases x with
  | int i =>
    cases y with
    | int j=>exact ⟨i,j,rfl,rfl,(Option.some.inj h).symm⟩
    | _=>cases h
  | _=>cases h
theorem dop_I {f:Value→Value→Sem Value} {C:Int→Int→Prop} {g:Int→Int→V} {g':Int→Int→D} (h:OpR X f (rI C g)) (hg:∀ i j H,Has X.K H (g i j) (g' i j)):DOp X f (gI C g') :=
  OpR.imp h (by
    rintro x y H Q ⟨dx,dy,M,R,hx,hy,am,⟨i,j,e1,e2,hc,r⟩,f⟩
    subst e1; subst e2
    cases hx; cases hy
    exact ⟨i,j,rfl,rfl,hc,f _ M r _ H (KT.refl H) am (hg i j H)⟩)
theorem dop_I0 {f:Value→Value→Sem Value} {g:Int→Int→V} {g':Int→Int→D} (h:OpR X f (rI0 g)) (hg:∀ i j H,Has X.K H (g i j) (g' i j)):DOp X f (gF (fI g')) :=
  OpR.imp h (by
    rintro x y H Q ⟨dx,dy,M,R,hx,hy,am,⟨z,e,r⟩,f⟩
    obtain ⟨i,j,e1,e2,e3⟩:=fI_some e
    subst e1; subst e2; subst e3
    cases hx; cases hy
    exact ⟨i,j,rfl,rfl,f _ M r _ H (KT.refl H) am (hg i j H)⟩)
theorem o_add:DOp X (binaryOp .Add) (gF (fI fun i j=>.int (i+j))):=dop_I0 op_add fun _ _ _=>.int _
theorem o_sub:DOp X (binaryOp .Sub) (gF (fI fun i j=>.int (i - j))):=dop_I0 op_sub fun _ _ _=>.int _
theorem o_lt:DOp X (compareOp .Lt) (gF (fI fun i j=>.bl (decide (i<j)))):=dop_I0 op_lt fun _ _ _=>.bl _
theorem o_le:DOp X (compareOp .LtE) (gF (fI fun i j=>.bl (decide (i≤j)))):=dop_I0 op_le fun _ _ _=>.bl _
theorem o_gt:DOp X (compareOp .Gt) (gF (fI fun i j=>.bl (decide (j<i)))):=dop_I0 op_gt fun _ _ _=>.bl _
theorem o_ge:DOp X (compareOp .GtE) (gF (fI fun i j=>.bl (decide (j≤i)))):=dop_I0 op_ge fun _ _ _=>.bl _
theorem o_mod:DOp X (binaryOp .Mod) (gI (fun _ j=>0<j) fun i j=>.int (i % j)):=dop_I op_mod fun _ _ _=>.int _
theorem o_pow:DOp X (binaryOp .Pow) (gI CPow fun i j=>.int (i ^ j.toNat)):=dop_I op_pow fun _ _ _=>.int _
noncomputable def gU (f:Int→D):D→Mem→DK→Prop:=fun x M R=>∃ i,x = .int i∧R (f i) M
noncomputable def dUn (g:D→Mem→DK→Prop) (ta:DTE):DTE:=fun e M R=>ta e M fun x M1=>g x M1 R
theorem d_neg (ha:DPE X a ta):DPE X (.UnaryOp .USub a pos) (dUn (gU fun i=>.int (-i)) ta) :=
  (pe_un un_neg ha).imp (by rintro σ H Q ⟨e,M,R,ok,am,t,f⟩; exact ⟨e,M,_,ok,am,t,fun x M1 ⟨i,z,r⟩ v H1 k1 a1 r1=>by
    subst z; cases r1; exact ⟨i,rfl,f _ M1 r _ H1 k1 a1 (.int _)⟩⟩)
theorem jd_neg (ha:JE X a ta):JE X (.UnaryOp .USub a pos) (dUn (gU fun i=>.int (-i)) ta):=⟨d_neg (ha:=ha.out)⟩

variable {tA tB':DTT} {rest:List Expr}
noncomputable def dAnd (t u:DTT):DTT:=fun e M R=>t e M fun c M1=>if c=true then u e M1 R else R false M1
noncomputable def dOr (t u:DTT):DTT:=fun e M R=>t e M fun c M1=>if c=true then R true M1 else u e M1 R
noncomputable def dNot (t:DTT):DTT:=fun e M R=>t e M fun c M1=>R (!c) M1
theorem d_and1 (ha:DPT X a tA):DPW X (.BoolOp .And [a] pos) tA:=pw_and1 ha
theorem jd_and1 (ha:JT X a tA):JW X (.BoolOp .And [a] pos) tA:=⟨d_and1 (ha:=ha.out)⟩
theorem d_or1 (ha:DPT X a tA):DPW X (.BoolOp .Or [a] pos) tA:=pw_or1 ha
theorem jd_or1 (ha:JT X a tA):JW X (.BoolOp .Or [a] pos) tA:=⟨d_or1 (ha:=ha.out)⟩
theorem d_and (ha:DPT X a tA) (hb:DPW X (.BoolOp .And (b :: rest) pos) tB'):DPW X (.BoolOp .And (a :: b :: rest) pos) (dAnd tA tB') :=
  (pw_and ha hb).imp (by rintro σ H Q ⟨e,M,R,ok,am,t,f⟩; exact ⟨e,M,_,ok,am,t,fun k M1 h1 H1 k1 a1=>by
    cases k with
    | true=>exact ⟨e,M1,R,ok.mono k1,a1,h1,f.mono k1⟩
    | false=>exact f false M1 h1 H1 k1 a1⟩)
theorem jd_and (ha:JT X a tA) (hb:JW X (.BoolOp .And (b :: rest) pos) tB'):JW X (.BoolOp .And (a :: b :: rest) pos) (dAnd tA tB'):=⟨d_and (ha:=ha.out) (hb:=hb.out)⟩
theorem d_or (ha:DPT X a tA) (hb:DPW X (.BoolOp .Or (b :: rest) pos) tB'):DPW X (.BoolOp .Or (a :: b :: rest) pos) (dOr tA tB') :=
  (pw_or ha hb).imp (by rintro σ H Q ⟨e,M,R,ok,am,t,f⟩; exact ⟨e,M,_,ok,am,t,fun k M1 h1 H1 k1 a1=>by
    cases k with
    | true=>exact f true M1 h1 H1 k1 a1
    | false=>exact ⟨e,M1,R,ok.mono k1,a1,h1,f.mono k1⟩⟩)
theorem jd_or (ha:JT X a tA) (hb:JW X (.BoolOp .Or (b :: rest) pos) tB'):JW X (.BoolOp .Or (a :: b :: rest) pos) (dOr tA tB'):=⟨d_or (ha:=ha.out) (hb:=hb.out)⟩
theorem d_not (ha:DPT X a tA):DPT X (.UnaryOp .Not a pos) (dNot tA) :=
  (pt_not ha).imp (by rintro σ H Q ⟨e,M,R,ok,am,t,f⟩; exact ⟨e,M,_,ok,am,t,fun k M1 h1 H1 k1 a1=>f (!k) M1 h1 H1 k1 a1⟩)
theorem jd_not (ha:JT X a tA):JT X (.UnaryOp .Not a pos) (dNot tA):=⟨d_not (ha:=ha.out)⟩
theorem d_tw {x:Expr} {t:DTT} (h:DPW X x t):DPT X x t:=PW.pt h
theorem jd_tw {x:Expr} {t:DTT} (h:JW X x t):JT X x t:=⟨d_tw (h:=h.out)⟩
noncomputable def dAndV (ta tb:DTE):DTE:=fun e M R=>ta e M fun x M1=>∃ c,x = .bl c∧if c=true then tb e M1 R else R (.bl false) M1
noncomputable def dOrV (ta tb:DTE):DTE:=fun e M R=>ta e M fun x M1=>∃ c,x = .bl c∧if c=true then R (.bl true) M1 else tb e M1 R
noncomputable def dNotV (ta:DTE):DTE:=fun e M R=>ta e M fun x M1=>∃ c,x = .bl c∧R (.bl (!c)) M1
theorem d_vone {op} {t:DTE} (h:DPE X a t):DPE X (.BoolOp op [a] pos) t:=pe_one h
theorem jd_vone {op} {t:DTE} (h:JE X a t):JE X (.BoolOp op [a] pos) t:=⟨d_vone (h:=h.out)⟩
theorem d_vand (ha:DPE X a ta) (hb:DPE X (.BoolOp .And (b :: rest) pos) tb):DPE X (.BoolOp .And (a :: b :: rest) pos) (dAndV ta tb) :=
  (pe_and ha hb).imp (by rintro σ H Q ⟨e,M,R,ok,am,t,f⟩; exact ⟨e,M,_,ok,am,t,fun x M1 ⟨k,z,h1⟩ v H1 k1 a1 r1=>by
    subst z; cases r1
    refine ⟨k,rfl,?_⟩
    cases k with
    | true=>exact ⟨e,M1,R,ok.mono k1,a1,h1,f.mono k1⟩
    | false=>exact f _ M1 h1 _ H1 k1 a1 (.bl _)⟩)
theorem jd_vand (ha:JE X a ta) (hb:JE X (.BoolOp .And (b :: rest) pos) tb):JE X (.BoolOp .And (a :: b :: rest) pos) (dAndV ta tb):=⟨d_vand (ha:=ha.out) (hb:=hb.out)⟩
theorem d_vor (ha:DPE X a ta) (hb:DPE X (.BoolOp .Or (b :: rest) pos) tb):DPE X (.BoolOp .Or (a :: b :: rest) pos) (dOrV ta tb) :=
  (pe_or ha hb).imp (by rintro σ H Q ⟨e,M,R,ok,am,t,f⟩; exact ⟨e,M,_,ok,am,t,fun x M1 ⟨k,z,h1⟩ v H1 k1 a1 r1=>by
    subst z; cases r1
    refine ⟨k,rfl,?_⟩
    cases k with
    | true=>exact f _ M1 h1 _ H1 k1 a1 (.bl _)
    | false=>exact ⟨e,M1,R,ok.mono k1,a1,h1,f.mono k1⟩⟩)
theorem jd_vor (ha:JE X a ta) (hb:JE X (.BoolOp .Or (b :: rest) pos) tb):JE X (.BoolOp .Or (a :: b :: rest) pos) (dOrV ta tb):=⟨d_vor (ha:=ha.out) (hb:=hb.out)⟩
theorem d_vnot (ha:DPE X a ta):DPE X (.UnaryOp .Not a pos) (dNotV ta) :=
  (pe_not ha).imp (by rintro σ H Q ⟨e,M,R,ok,am,t,f⟩; exact ⟨e,M,_,ok,am,t,fun x M1 ⟨k,z,h1⟩ v H1 k1 a1 r1=>by
    subst z; cases r1
    exact ⟨k,rfl,f _ M1 h1 _ H1 k1 a1 (.bl _)⟩⟩)
theorem jd_vnot (ha:JE X a ta):JE X (.UnaryOp .Not a pos) (dNotV ta):=⟨d_vnot (ha:=ha.out)⟩
noncomputable def dIf (t:DTT) (ta tb:DTE):DTE:=fun e M R=>t e M fun c M1=>if c=true then ta e M1 R else tb e M1 R
theorem d_ifExp (hc:DPT X c tA) (ha:DPE X a ta) (hb:DPE X b tb):DPE X (.IfExp c a b pos) (dIf tA ta tb) :=
  (pe_ifExp hc ha hb).imp (by rintro σ H Q ⟨e,M,R,ok,am,t,f⟩; exact ⟨e,M,_,ok,am,t,fun k M1 h1 H1 k1 a1=>by
    cases k with
    | true=>exact ⟨e,M1,R,ok.mono k1,a1,h1,f.mono k1⟩
    | false=>exact ⟨e,M1,R,ok.mono k1,a1,h1,f.mono k1⟩⟩)
theorem jd_ifExp (hc:JT X c tA) (ha:JE X a ta) (hb:JE X b tb):JE X (.IfExp c a b pos) (dIf tA ta tb):=⟨d_ifExp (hc:=hc.out) (ha:=ha.out) (hb:=hb.out)⟩

noncomputable def dNil:DTA:=fun _ M R=>R [] M
noncomputable def dCons (ta:DTE) (tr:DTA):DTA:=fun e M R=>ta e M fun x M1=>tr e M1 fun xs M2=>R (x :: xs) M2
variable {es:List Expr} {tr:DTA}
theorem da_nil:DPA X [] dNil:=pa_nil.imp (by rintro σ H Q ⟨e,M,R,ok,am,t,f⟩; exact f [] M t [] H (KT.refl H) am .nil)
theorem jan  : JA X [] dNil:=⟨da_nil ⟩
theorem da_cons (ha:DPE X a ta) (hr:DPA X es tr) (hs:starEach (a :: es) X.env=(false,eval a X.env) :: starEach es X.env:=by rfl):DPA X (a :: es) (dCons ta tr) :=
  (pa_cons ha hr hs).imp (by rintro σ H Q ⟨e,M,R,ok,am,t,f⟩; exact ⟨e,M,_,ok,am,t,fun x M1 h1 v H1 k1 a1 r1 =>
    ⟨e,M1,_,ok.mono k1,a1,h1,fun xs M2 h2 vs H2 k2 a2 r2=>f _ M2 h2 _ H2 (k1.trans k2) a2 (.cons (r1.mono k2) r2)⟩⟩)
theorem jac (ha:JE X a ta) (hr:JA X es tr) (hs:starEach (a :: es) X.env=(false,eval a X.env) :: starEach es X.env:=by rfl):JA X (a :: es) (dCons ta tr):=⟨da_cons (ha:=ha.out) (hr:=hr.out) (hs:=hs)⟩
noncomputable def dTup (t:DTA):DTE:=fun e M R=>t e M fun ds M1=>ds.length≤sizeLine∧R (.tup ds) M1
noncomputable def dLst (t:DTA):DTE:=fun e M R=>t e M fun ds M1=>ds.length≤sizeLine∧∀ p,M1 p=none→R (.ref p) (updM M1 p (.lst ds))
theorem d_tup {x1} (h:DPA X es tr):DPE X (.Tuple es x1 pos) (dTup tr) :=
  (pe_tup h).imp (by rintro σ H Q ⟨e,M,R,ok,am,t,f⟩; exact ⟨e,M,_,ok,am,t,fun ds M1 ⟨hz,h1⟩ vs H1 k1 a1 r1=>by
    refine ⟨by rw [r1.length]; exact hz,fun p hp=>?_⟩
    have k2:KT H1 (upd H1 p (.tup vs)):=KT.alloc hp
    exact f _ M1 h1 _ _ (k1.trans k2) (a1.alloc hp) (.tup (SqT.of upd_same) (r1.mono k2))⟩)
theorem jd_tup {x1} (h:JA X es tr):JE X (.Tuple es x1 pos) (dTup tr):=⟨d_tup (h:=h.out)⟩
theorem d_lst (h:DPA X es tr):DPE X (.List es pos) (dLst tr) :=
  (pe_lst h).imp (by rintro σ H Q ⟨e,M,R,ok,am,t,f⟩; exact ⟨e,M,_,ok,am,t,fun ds M1 ⟨hz,h1⟩ vs H1 k1 a1 r1=>by
    refine ⟨by rw [r1.length]; exact hz,fun p hp=>?_⟩
    have k2:KT H1 (upd H1 p (.lst vs)):=KT.alloc hp
    exact f _ _ (h1 p (a1.fresh hp)) _ _ (k1.trans k2) (a1.new hp r1) (.ref p)⟩)
theorem jd_lst (h:JA X es tr):JE X (.List es pos) (dLst tr):=⟨d_lst (h:=h.out)⟩

theorem HasL.at {K:PySem.W.Frag} {H:Hp} {vs:List V} {ds:List D} (h:HasL K H vs ds) {i:Int} {z:D} (e:atI ds i=some z):∃ v,atI vs i=some v∧Has K H v z:=by
  unfold atI at e ⊢
  rw [h.length]
  cases q:ixN ds.length i with
  | none=>rw [q] at e; cases e
  | some j =>
    rw [q] at e
    exact h.get e
noncomputable def DIx (X:Cx) (g:DR2):Prop:=IxR X (upR X.K g)
theorem d_ix {g:DR2} (hr:DIx X g) (ha:DPE X a ta) (hb:DPE X b tb) (hs:PlainIx b):DPE X (.Subscript a b pos) (dOp g ta tb) :=
  (pe_ix hr ha hb hs).imp fun _ _ _ h=>two_up h

theorem jd_ix {g:DR2} (hr:DIx X g) (ha:JE X a ta) (hb:JE X b tb) (hs:PlainIx b):JE X (.Subscript a b pos) (dOp g ta tb):=⟨d_ix (hr:=hr) (ha:=ha.out) (hb:=hb.out) (hs:=hs)⟩

noncomputable abbrev DXK:=Value→Mem→Prop
noncomputable abbrev DSp:=List D→Mem→DK→DXK→Prop
noncomputable def FitX (K:PySem.W.Frag) (H:Hp) (Y:DXK) (E:XK):Prop:=∀ c M',Y c M'→∀ o H',KT H H'→AbsM K H' M'→E c o H'
noncomputable def upSp (K:PySem.W.Frag) (sp:DSp):Sp:=fun vs H Q E=>∃ ds M R Y,HasL K H vs ds∧AbsM K H M∧sp ds M R Y∧FitV K H R Q∧FitX K H Y E
noncomputable def dCall (sp:DSp) (dds:List D) (Y:DXK) (t:DTA):DTE:=fun e M R=>t e M fun ds M1=>sp (ds++dds) M1 R Y
end
section
variable {X:Cx} {CX:CXT} {k:Nat} {f C:Addr} {fd:FuncData} {ps:List Str} {sp:DSp} {dvs:List V} {dds:List D} {ds:List Value} {E:XK} {Y:DXK} {x m:Str} {p pos apos:Pos} {e o:Expr} {es:List Expr} {t:DTA}
theorem d_call (F:FnOk X.prog X.w X.K X.mg X.base CX k f fd ps (upSp X.K sp)) (hr:Room k X.A) (hg:Gl X x) (hm:X.mg x=some (.ref f)) (hk:PySem.W.keepIn X.K (.ref f)=true) (hb:Binds X.K fd ps ds) (hd:Vals dvs ds) (hdd:∀ H,HasL X.K H dvs dds) (hx:Passes CX X E) (hY:∀ H,FitX X.K H Y E)
    (ha:DPA X (e :: es) t) (hdb:(x == ("__debug__" : Str))=false:=by decide) (he:starEach (e :: es) X.env=(false,eval e X.env) :: starEach es X.env:=by rfl) (hpl:(backTo pos (starEach es X.env)).any (·.1)=false:=by rfl) :
    DPE X (.Call (.Name x p) (e :: es) [] pos) (dCall sp dds Y t) :=
  (pe_call F hr hg hm hk hb hd hx ha hdb he hpl).imp (by rintro σ H Q ⟨e,M,R,ok,am,t,f⟩; exact ⟨e,M,_,ok,am,t,fun xs M1 h1 vs H1 k1 a1 r1 =>
    ⟨xs++dds,M1,R,Y,r1.append (hdd H1),a1,h1,f.mono k1,hY H1⟩⟩)
end


section
variable {X:Cx} {st:Stmt} {rest:List Stmt} {t u:DTS} {e:Expr} {te:DTE} {pos:Pos}
noncomputable def dNext:DTS:=fun F e M=>F.nx e M
noncomputable def dSeq (t u:DTS):DTS:=fun F e M=>t { F with nx:=u F } e M
theorem ds_nil:DPSs X [] dNext:=pss_nil.imp (by rintro E σ H ⟨e,M,F,ok,am,t,f⟩; exact f.nx e M t σ H (KT.refl H) am ok)
theorem jds_nil  : JSs X [] dNext:=⟨ds_nil ⟩
theorem ds_cons (h1:DPS X st t) (h2:DPSs X rest u):DPSs X (st :: rest) (dSeq t u) :=
  (pss_cons h1 h2).imp (by rintro E σ H ⟨e,M,F,ok,am,t,f⟩; exact ⟨e,M,{ F with nx:=u F },ok,am,t,⟨fun e' M' h σ' H' k a o=>⟨e',M',F,o,a,h,f.mono k⟩,f.rt,f.bk,f.ct⟩⟩)
theorem jsc (h1:JS X st t) (h2:JSs X rest u):JSs X (st :: rest) (dSeq t u):=⟨ds_cons (h1:=h1.out) (h2:=h2.out)⟩
theorem ds_one (h1:DPS X st t):DPSs X [st] t:=pss_one h1
theorem js1 (h1:JS X st t):JSs X [st] t:=⟨ds_one (h1:=h1.out)⟩
noncomputable def dDrop (te:DTE):DTS:=fun F e M=>te e M fun _ M1=>F.nx e M1
theorem ds_expr (he:DPE X e te) (hs:swapsWith e none pos.line X.env=pure false:=by rfl):DPS X (.Expr e pos) (dDrop te) :=
  (ps_expr he hs).imp (by rintro E σ H ⟨e,M,F,ok,am,t,f⟩; exact ⟨e,M,_,ok,am,t,fun d M1 h1 v H1 k1 a1 r1=>f.nx e M1 h1 σ H1 k1 a1 (ok.mono k1)⟩)
theorem jds_expr (he:JE X e te) (hs:swapsWith e none pos.line X.env=pure false:=by rfl):JS X (.Expr e pos) (dDrop te):=⟨ds_expr (he:=he.out) (hs:=hs)⟩
noncomputable def dRet (te:DTE):DTS:=fun F e M=>te e M F.rt
theorem ds_ret (he:DPE X e te):DPS X (.Return (some e) pos) (dRet te) :=
  (ps_ret he).imp (by rintro E σ H ⟨e,M,F,ok,am,t,f⟩; exact ⟨e,M,_,ok,am,t,f.rt⟩)
theorem jds_ret (he:JE X e te):JS X (.Return (some e) pos) (dRet te):=⟨ds_ret (he:=he.out)⟩
noncomputable def dIfS (c:DTT) (t u:DTS):DTS:=fun F e M=>c e M fun b M1=>if b=true then t F e M1 else u F e M1
theorem ds_if {c:Expr} {a b:List Stmt} {tc:DTT} (hc:DPT X c tc) (ha:DPSs X a t) (hb:DPSs X b u):DPS X (.If c a b pos) (dIfS tc t u) :=
  (ps_if hc ha hb).imp (by rintro E σ H ⟨e,M,F,ok,am,t,f⟩; exact ⟨e,M,_,ok,am,t,fun k M1 h1 H1 k1 a1=>by
    cases k with
    | true=>exact ⟨e,M1,F,ok.mono k1,a1,h1,f.mono k1⟩
    | false=>exact ⟨e,M1,F,ok.mono k1,a1,h1,f.mono k1⟩⟩)
theorem jds_if {c:Expr} {a b:List Stmt} {tc:DTT} (hc:JT X c tc) (ha:JSs X a t) (hb:JSs X b u):JS X (.If c a b pos) (dIfS tc t u):=⟨ds_if (hc:=hc.out) (ha:=ha.out) (hb:=hb.out)⟩
noncomputable def dNever:DTS:=fun _ _ _=>False
theorem ds_never:DPS X st dNever:=ps_never.imp (by rintro E σ H ⟨_,_,_,_,_,t,_⟩; exact t)
theorem jds_never  : JS X st dNever:=⟨ds_never ⟩
noncomputable abbrev DTG:=D→Ev→Mem→(Ev→Mem→Prop)→Prop
noncomputable abbrev DTGs:=List D→Ev→Mem→(Ev→Mem→Prop)→Prop
noncomputable def upG (K:PySem.W.Frag) (g:DTG):TG:=fun v σ H Q=>∃ d e M R,Has K H v d∧EnvOk K H σ e∧AbsM K H M∧g d e M R∧FitN K H R Q
noncomputable def upGs (K:PySem.W.Frag) (g:DTGs):TGs:=fun vs σ H Q=>∃ ds e M R,HasL K H vs ds∧EnvOk K H σ e∧AbsM K H M∧g ds e M R∧FitN K H R Q
noncomputable abbrev DPG (X:Cx) (x:Expr) (g:DTG):Prop:=PG X x (upG X.K g)
noncomputable abbrev DPGs (X:Cx) (x:List Expr) (g:DTGs):Prop:=PGs X x (upGs X.K g)
structure JG (X:Cx) (x:Expr) (g:DTG):Prop where
  out:DPG X x g
structure JGs (X:Cx) (x:List Expr) (g:DTGs):Prop where
  out:DPGs X x g
noncomputable def dgName (i:Nat):DTG:=fun d e M R=>R (e.set i (some d)) M
theorem dg_name {i:Nat} {x:Str} (hN:X.N.Nodup) (hi:X.N[i]? = some x) (hx:Loc X.env.scope x) (hf:X.fn x=true∨X.env.scope.names.lookup x=some .local:=by first | exact .inl rfl | exact .inr rfl | assumption):DPG X (.Name x pos) (dgName i) :=
  PG.imp (pg_name hN hi hx hf) (by rintro v σ H Q ⟨d,e,M,R,r,ok,am,g,f⟩; exact f _ M g _ H (KT.refl H) am (ok.set r i))
theorem jdg_name {i:Nat} {x:Str} (hN:X.N.Nodup) (hi:X.N[i]? = some x) (hx:Loc X.env.scope x) (hf:X.fn x=true∨X.env.scope.names.lookup x=some .local:=by first | exact .inl rfl | exact .inr rfl | assumption):JG X (.Name x pos) (dgName i):=⟨dg_name (hN:=hN) (hi:=hi) (hx:=hx) (hf:=hf)⟩
noncomputable def dgNil:DTGs:=fun ds e M R=>ds=[]∧R e M
noncomputable def dgCons (t:DTG) (u:DTGs):DTGs:=fun ds e M R=>∃ d r,ds=d :: r∧t d e M fun e' M'=>u r e' M' R
theorem dgs_nil:DPGs X [] dgNil:=PGs.imp pgs_nil (by
  rintro v σ H Q ⟨ds,e,M,R,r,ok,am,⟨z,g⟩,f⟩
  subst z; cases r; exact ⟨rfl,f e M g σ H (KT.refl H) am ok⟩)
theorem jdgs_nil  : JGs X [] dgNil:=⟨dgs_nil ⟩
end
end DL

namespace DL
open PySem PySem.Spec L2
open PyProof.Rows hiding St
section
variable {X:Cx} {st:Stmt} {rest:List Stmt} {t u:DTS} {e:Expr} {te:DTE} {pos:Pos}
theorem dgs_cons {x:Expr} {xs:List Expr} {t:DTG} {u:DTGs} (h1:DPG X x t) (h2:DPGs X xs u)
    (hs:(assignEach (x :: xs) X.env).map (·.2)=assign x X.env :: (assignEach xs X.env).map (·.2):=by rfl):DPGs X (x :: xs) (dgCons t u) :=
  PGs.imp (pgs_cons h1 h2 hs) (by
    rintro vs σ H Q ⟨ds,e,M,R,r,ok,am,⟨d,dr,z,g⟩,f⟩
    subst z
    cases r with
    | cons r rr=>exact ⟨_,_,rfl,d,e,M,_,r,ok,am,g,fun e1 M1 h1 σ1 H1 k1 a1 ok1=>⟨dr,e1,M1,R,rr.mono k1,ok1,a1,h1,f.mono k1⟩⟩)
theorem jdgs_cons {x:Expr} {xs:List Expr} {t:DTG} {u:DTGs} (h1:JG X x t) (h2:JGs X xs u)
    (hs:(assignEach (x :: xs) X.env).map (·.2)=assign x X.env :: (assignEach xs X.env).map (·.2):=by rfl):JGs X (x :: xs) (dgCons t u):=⟨dgs_cons (h1:=h1.out) (h2:=h2.out) (hs:=hs)⟩
noncomputable def dgTup (n:Nat) (t:DTGs):DTG:=fun d e M R=>∃ ds,d = .tup ds∧ds.length=n∧t ds e M R
theorem dg_tup {xs:List Expr} {k:Nat} {t:DTGs} {n:Nat} (hc:X.calm=true) (h:DPGs X xs t)
    (hn:(assignEach xs X.env).length=n:=by rfl) (hst:(assignEach xs X.env).findIdx? (·.1)=none:=by rfl):DPG X (.Tuple xs k pos) (dgTup n t) :=
  PG.imp (pg_tup hc h hn hst) (by
    rintro v σ H Q ⟨d,e,M,R,r,ok,am,⟨ds,z,hl,g⟩,f⟩
    subst z
    cases r with
    | tup s l=>exact ⟨_,_,rfl,s,by rw [l.length]; exact hl,ds,e,M,R,l,ok,am,g,f⟩)
theorem jdg_tup {xs:List Expr} {k:Nat} {t:DTGs} {n:Nat} (hc:X.calm=true) (h:JGs X xs t)
    (hn:(assignEach xs X.env).length=n:=by rfl) (hst:(assignEach xs X.env).findIdx? (·.1)=none:=by rfl):JG X (.Tuple xs k pos) (dgTup n t):=⟨dg_tup (hc:=hc) (h:=h.out) (hn:=hn) (hst:=hst)⟩
noncomputable abbrev DTSet:=D→D→D→Mem→(Mem→Prop)→Prop
noncomputable def gSetL:DTSet:=fun o i v M R=>∃ p ds k j,o = .ref p∧i = .int k∧M p=some (.lst ds)∧ixN ds.length k=some j∧R (updM M p (.lst (ds.set j v)))
noncomputable def dgSub (to ti:DTE) (t:DTSet):DTG:=fun d e M R=>to e M fun o M1=>ti e M1 fun i M2=>t o i d M2 fun M3=>R e M3
theorem dg_sub {o i:Expr} {to ti:DTE} (ho:DPE X o to) (hi:DPE X i ti)
    (ha:∀ v,assign (.Subscript o i pos) X.env v=(do
      let ov ← holding [v] (eval o X.env)
      let iv ← holding [v,ov] (eval i X.env)
      standAt pos
      holding [v,ov,iv] (setItem ov iv v)
      release [v,ov,iv] []):=by intro _; rfl):DPG X (.Subscript o i pos) (dgSub to ti gSetL) :=
  PG.imp (pg_sub ho hi set_list ha) fun v σ H Q ⟨d,e,M,R,r,ok,am,g,f⟩ =>
    ⟨e,M,_,ok,am,g,fun x M1 h1 vo H1 k1 a1 r1=>⟨e,M1,_,ok.mono k1,a1,h1,fun y M2 ⟨p,ds,k,j,e1,e2,e3,e4,h2⟩ vi H2 k2 a2 r2=>by
      subst e1; subst e2
      cases r1; cases r2
      obtain ⟨xs,hx,l⟩:=a2.lst e3
      have kt:KT H H2:=k1.trans k2
      have kw:KT H2 (upd H2 p (.lst (xs.set j v))):=KT.write hx
      exact ⟨p,xs,k,j,rfl,rfl,hx,by rw [l.length]; exact e4,f e _ h2 σ _ (kt.trans kw) (a2.write hx (l.set (r.mono kt) j)) ((ok.mono kt).mono kw)⟩⟩⟩
theorem jdg_sub {o i:Expr} {to ti:DTE} (ho:JE X o to) (hi:JE X i ti)
    (ha:∀ v,assign (.Subscript o i pos) X.env v=(do
      let ov ← holding [v] (eval o X.env)
      let iv ← holding [v,ov] (eval i X.env)
      standAt pos
      holding [v,ov,iv] (setItem ov iv v)
      release [v,ov,iv] []):=by intro _; rfl):JG X (.Subscript o i pos) (dgSub to ti gSetL):=⟨dg_sub (ho:=ho.out) (hi:=hi.out) (ha:=ha)⟩
noncomputable def dAsg (te:DTE) (g:DTG):DTS:=fun F e M=>te e M fun x M1=>g x e M1 F.nx
theorem ds_asg {tg x:Expr} {tx:DTE} {g:DTG} (he:DPE X x tx) (hg:DPG X tg g) (hs:swapsWithSole [tg] x pos.line X.env=pure false:=by rfl) (hw:swappedStores [tg] x X.env=pure none:=by rfl)
    (h1:(assignEach [tg] X.env).map (·.2)=[assign tg X.env]:=by rfl):DPS X (.Assign [tg] x pos) (dAsg tx g) :=
  (ps_asg he hg hs hw h1).imp (by rintro E σ H ⟨e,M,F,ok,am,t,f⟩; exact ⟨e,M,_,ok,am,t,fun d M1 h1 v H1 k1 a1 r1=>⟨d,e,M1,F.nx,r1,ok.mono k1,a1,h1,f.nx.mono k1⟩⟩)
theorem jds_asg {tg x:Expr} {tx:DTE} {g:DTG} (he:JE X x tx) (hg:JG X tg g) (hs:swapsWithSole [tg] x pos.line X.env=pure false:=by rfl) (hw:swappedStores [tg] x X.env=pure none:=by rfl)
    (h1:(assignEach [tg] X.env).map (·.2)=[assign tg X.env]:=by rfl):JS X (.Assign [tg] x pos) (dAsg tx g):=⟨ds_asg (he:=he.out) (hg:=hg.out) (hs:=hs) (hw:=hw) (h1:=h1)⟩
theorem ds_set {i:Nat} {x:Str} {tx:DTE} {pos':Pos} (hN:X.N.Nodup) (hi:X.N[i]? = some x) (hx:Loc X.env.scope x) (he:DPE X e tx) (hs:swapsWith e (some (.Name x pos')) pos.line X.env=pure false:=by rfl) (hf:X.fn x=true∨X.env.scope.names.lookup x=some .local:=by first | exact .inl rfl | exact .inr rfl | assumption) :
    DPS X (.Assign [.Name x pos'] e pos) (dAsg tx (dgName i)) :=
  (ps_set hN hi hx he hs hf).imp (by rintro E σ H ⟨e,M,F,ok,am,t,f⟩; exact ⟨e,M,_,ok,am,t,fun d M1 h1 v H1 k1 a1 r1=>f.nx _ M1 h1 _ H1 k1 a1 ((ok.mono k1).set r1 i)⟩)
theorem jds_set {i:Nat} {x:Str} {tx:DTE} {pos':Pos} (hN:X.N.Nodup) (hi:X.N[i]? = some x) (hx:Loc X.env.scope x) (he:JE X e tx) (hs:swapsWith e (some (.Name x pos')) pos.line X.env=pure false:=by rfl) (hf:X.fn x=true∨X.env.scope.names.lookup x=some .local:=by first | exact .inl rfl | exact .inr rfl | assumption):JS X (.Assign [.Name x pos'] e pos) (dAsg tx (dgName i)):=⟨ds_set (hN:=hN) (hi:=hi) (hx:=hx) (he:=he.out) (hs:=hs) (hf:=hf)⟩
noncomputable def dPar (i j:Nat) (ta:DTA):DTS:=fun F e M=>ta e M fun ds M1=>∃ x y,ds=[x,y]∧F.nx ((e.set i (some x)).set j (some y)) M1
theorem ds_par {i j:Nat} {x y:Str} {a b:Expr} {ta:DTA} {px py pt:Pos} {kt k2 pt2} (hc:X.calm=true) (hN:X.N.Nodup) (hi:X.N[i]? = some x) (hj:X.N[j]? = some y) (hij:i≠j)
    (hx:X.env.scope.names.lookup x=some .local) (hy:X.env.scope.names.lookup y=some .local) (ha:DPA X [a,b] ta)
    (hw:swappedStores [.Tuple [.Name x px,.Name y py] kt pt] (.Tuple [a,b] k2 pt2) X.env=pure (some [x,y]):=by rfl)
    (hs:swapsWithSole [.Tuple [.Name x px,.Name y py] kt pt] (.Tuple [a,b] k2 pt2) pos.line X.env=pure false:=by rfl):DPS X (.Assign [.Tuple [.Name x px,.Name y py] kt pt] (.Tuple [a,b] k2 pt2) pos) (dPar i j ta) :=
  (ps_par hc hN hi hj hij hx hy ha hw hs).imp (by rintro E σ H ⟨e,M,F,ok,am,t,f⟩; exact ⟨e,M,_,ok,am,t,fun ds M1 ⟨x,y,z,h1⟩ vs H1 k1 a1 r1=>by
    subst z
    cases r1 with
    | cons r1 rr =>
      cases rr with
      | cons r2 rr =>
        cases rr
        exact ⟨_,_,rfl,f.nx _ M1 h1 _ H1 k1 a1 (((ok.mono k1).set r1 i).set r2 j)⟩⟩)
theorem jds_par {i j:Nat} {x y:Str} {a b:Expr} {ta:DTA} {px py pt:Pos} {kt k2 pt2} (hc:X.calm=true) (hN:X.N.Nodup) (hi:X.N[i]? = some x) (hj:X.N[j]? = some y) (hij:i≠j)
    (hx:X.env.scope.names.lookup x=some .local) (hy:X.env.scope.names.lookup y=some .local) (ha:JA X [a,b] ta)
    (hw:swappedStores [.Tuple [.Name x px,.Name y py] kt pt] (.Tuple [a,b] k2 pt2) X.env=pure (some [x,y]):=by rfl)
    (hs:swapsWithSole [.Tuple [.Name x px,.Name y py] kt pt] (.Tuple [a,b] k2 pt2) pos.line X.env=pure false:=by rfl):JS X (.Assign [.Tuple [.Name x px,.Name y py] kt pt] (.Tuple [a,b] k2 pt2) pos) (dPar i j ta):=⟨ds_par (hc:=hc) (hN:=hN) (hi:=hi) (hj:=hj) (hij:=hij) (hx:=hx) (hy:=hy) (ha:=ha.out) (hw:=hw) (hs:=hs)⟩

noncomputable def dWhile (c:DTT) (tb:DTS):DTS:=fun F e M=>∃ W:Nat→Ev→Mem→Prop,(∃ m,W m e M)∧∀ m e M,W m e M →
  c e M fun b M1=>if b=true then tb { F with nx:=fun e' M'=>∃ m',m'<m∧W m' e' M',ct:=fun e' M'=>∃ m',m'<m∧W m' e' M',bk:=F.nx } e M1 else F.nx e M1
theorem ds_while {c:Expr} {body:List Stmt} {tc:DTT} {tb:DTS} (hp:PassesOwn (model X.prog X.w) X.A X.env X.xe) (hc:DPT X c tc) (hb:DPSs X body tb):DPS X (.While c body [] pos) (dWhile tc tb) :=
  (ps_while hp hc hb).imp (by
    rintro E σ H ⟨e,M,F,ok,am,⟨W,⟨m0,w0⟩,turn⟩,f⟩
    refine ⟨fun m σ' H'=>∃ e' M',KT H H'∧EnvOk X.K H' σ' e'∧AbsM X.K H' M'∧W m e' M',⟨m0,e,M,KT.refl H,ok,am,w0⟩,?_⟩
    rintro m σ1 H1 ⟨e1,M1,k1,ok1,a1,w1⟩
    refine ⟨e1,M1,_,ok1,a1,turn m e1 M1 w1,fun b M2 h2 H2 k2 a2=>?_⟩
    cases b with
    | false=>exact f.nx e1 M2 h2 σ1 H2 (k1.trans k2) a2 (ok1.mono k2)
    | true =>
      refine ⟨fun σ' H'=>∃ m',m'<m∧∃ e' M',KT H H'∧EnvOk X.K H' σ' e'∧AbsM X.K H' M'∧W m' e' M',fun σ' H' h=>h,e1,M2,_,ok1.mono k2,a2,h2,?_⟩
      have kk:=k1.trans k2
      exact ⟨fun e' M' ⟨m',l,w⟩ σ' H' k' a' o'=>⟨m',l,e',M',kk.trans k',o',a',w⟩,f.rt.mono kk,f.nx.mono kk,fun e' M' ⟨m',l,w⟩ σ' H' k' a' o'=>⟨m',l,e',M',kk.trans k',o',a',w⟩⟩)
theorem jds_while {c:Expr} {body:List Stmt} {tc:DTT} {tb:DTS} (hp:PassesOwn (model X.prog X.w) X.A X.env X.xe) (hc:JT X c tc) (hb:JSs X body tb):JS X (.While c body [] pos) (dWhile tc tb):=⟨ds_while (hp:=hp) (hc:=hc.out) (hb:=hb.out)⟩
noncomputable abbrev DTI:=Ev→Mem→(List D→(Mem→Prop)→Mem→Prop)→Prop
noncomputable def dFor (ti:DTI) (g:DTG) (tb:DTS):DTS:=fun F e M=>ti e M fun ds stay M1=>∃ W:Nat→Ev→Mem→Prop,W 0 e M1∧(∀ i e M,i≤ds.length→W i e M→stay M) ∧
  (∀ (i:Nat) (d:D) e M,ds[i]? = some d→W i e M→g d e M fun e2 M2=>tb { F with nx:=W (i+1),ct:=W (i+1),bk:=F.nx } e2 M2)∧∀ e M,W ds.length e M→F.nx e M
noncomputable def rangeD (lo:Int) (n:Nat):List D:=(List.range n).map fun (i:Nat)=>D.int (lo+(i:Int))
theorem rangeD_length (lo:Int) (n:Nat):(rangeD lo n).length=n:=by simp [rangeD]
theorem rangeD_get {lo:Int} {n i:Nat} (h:i<n):(rangeD lo n)[i]? = some (D.int (lo+(i:Int))):=by simp [rangeD,h]
theorem rangeD_of {lo:Int} {n i:Nat} {d:D} (h:(rangeD lo n)[i]? = some d):i<n∧d=D.int (lo+(i:Int)):=by
  have hl:i<n:=by
    have:=(List.getElem?_eq_some_iff.mp h).1
    rw [rangeD_length] at this; exact this
  rw [rangeD_get hl] at h
  exact ⟨hl,(Option.some.inj h).symm⟩
noncomputable def diRng (ta:DTA):DTI:=fun e M R=>ta e M fun ds M1=>∃ j:Int,ds=[.int j]∧-(2 ^ 62)≤j∧j<2 ^ 62∧R (rangeD 0 j.toNat) (fun _=>True) M1
noncomputable def diRng2 (ta:DTA):DTI:=fun e M R=>ta e M fun ds M1=>∃ i j:Int,ds=[.int i,.int j]∧(-(2 ^ 62)≤i∧i<2 ^ 62∧-(2 ^ 62)≤j∧j<2 ^ 62)∧R (rangeD i (j - i).toNat) (fun _=>True) M1
theorem for_turn {K:PySem.W.Frag} {H H1 H2:Hp} {F:DEnds} {E:Ends} {W:Nat→Ev→Mem→Prop} {g:DTG} {tb:DTS} {i:Nat} {x:V} {d:D} {σ2:St} {e2:Ev} {M2:Mem} (f:Fit K H F E) (k1:KT H H1) (k2:KT H1 H2) (ok2:EnvOk K H2 σ2 e2) (a2:AbsM K H2 M2) (r:Has K H2 x d)
    (h:g d e2 M2 fun e3 M3=>tb { F with nx:=W (i+1),ct:=W (i+1),bk:=F.nx } e3 M3) :
    upG K g x σ2 H2 fun σ3 H3=>upS K tb { E with nx:=fun σ' H'=>∃ e' M',KT H1 H'∧EnvOk K H' σ' e'∧AbsM K H' M'∧W (i+1) e' M',ct:=fun σ' H'=>∃ e' M',KT H1 H'∧EnvOk K H' σ' e'∧AbsM K H' M'∧W (i+1) e' M',bk:=E.nx } σ3 H3:=by
  refine ⟨d,e2,M2,_,r,ok2,a2,h,fun e3 M3 h3 σ3 H3 k3 a3 ok3=>⟨e3,M3,_,ok3,a3,h3,?_⟩⟩
  have kk:KT H H3:=k1.trans (k2.trans k3)
  exact ⟨fun e' M' w σ' H' k' a' o'=>⟨e',M',k2.trans (k3.trans k'),o',a',w⟩,f.rt.mono kk,f.nx.mono kk,fun e' M' w σ' H' k' a' o'=>⟨e',M',k2.trans (k3.trans k'),o',a',w⟩⟩
variable {tg iter:Expr} {body:List Stmt} {ti:DTE} {ta:DTA} {g:DTG} {tb:DTS}
theorem Has.il {K:PySem.W.Frag} {H:Hp} {v:V} {ds:List D} (h:Has K H v (.vl ds)):∃ a xs,v = .ref a∧SqL K H a xs∧HasL K H xs ds:=by
  cases h with
  | vl h l=>exact ⟨_,_,rfl,h.elim (fun ⟨o,e⟩=>.inl (.inr ⟨o,e⟩)) (fun k=>k H),l⟩
end


section
variable {P:Program} {w:World} {K:PySem.W.Frag} {mg:Str→Option Value} {base:Heap}
end


section
variable {X:Cx} {x:Str} {p pos:Pos} {e:Expr} {es:List Expr} {t:DTA} {id T:String}
noncomputable abbrev DRC:=List D→Mem→DK→Prop
noncomputable def upC (K:PySem.W.Frag) (g:DRC):List V→Hp→VK→Prop:=fun xs H Q=>∃ ds M R,HasL K H xs ds∧AbsM K H M∧g ds M R∧FitV K H R Q
noncomputable def DCall (X:Cx) (f:Value) (g:DRC):Prop:=CallR X f (upC X.K g)
noncomputable def dCB (g:DRC) (t:DTA):DTE:=fun e M R=>t e M fun ds M1=>g ds M1 R
theorem cb_up {g:DRC} {σ:St} {H:Hp} {Q:VK} (h:up X.K (dCB g t) σ H Q):tCB (upC X.K g) (upA X.K t) σ H Q:=by
  obtain ⟨e,M,R,ok,am,t,f⟩:=h
  exact ⟨e,M,_,ok,am,t,fun ds M1 h1 vs H1 k1 a1 r1=>⟨ds,M1,R,r1,a1,h1,f.mono k1⟩⟩
theorem CallR.imp {f:Value} {r r':List V→Hp→VK→Prop} (h:CallR X f r) (i:∀ xs H Q,r' xs H Q→r xs H Q):CallR X f r':=fun pins s σ H xs us Q I rv q=>h pins s σ H xs us Q I rv (i xs H Q q)
theorem HasL.one {K:PySem.W.Frag} {H:Hp} {vs:List V} {d:D} (h:HasL K H vs [d]):∃ v,vs=[v]∧Has K H v d:=by
  cases h with
  | cons r rr=>cases rr; exact ⟨_,rfl,r⟩
theorem HasL.two {K:PySem.W.Frag} {H:Hp} {vs:List V} {d d':D} (h:HasL K H vs [d,d']):∃ v v',vs=[v,v']∧Has K H v d∧Has K H v' d':=by
  cases h with
  | cons r rr=>cases rr with | cons r2 rr=>cases rr; exact ⟨_,_,rfl,r,r2⟩
noncomputable def gAbs:DRC:=fun ds M R=>∃ i:Int,ds=[.int i]∧R (.int (i.natAbs:Int)) M
theorem c_abs:DCall X (.builtin "abs") gAbs:=CallR.imp call_abs (by
  rintro xs H Q ⟨ds,M,R,hl,am,⟨i,z,r⟩,f⟩
  subst z
  obtain ⟨v,rfl,h⟩:=hl.one
  cases h
  have e:(if i<0 then -i else i)=(i.natAbs:Int):=by split <;> omega
  exact ⟨i,rfl,by rw [e]; exact f _ M r _ H (KT.refl H) am (.int _)⟩)
noncomputable def gMax:DRC:=fun ds M R=>∃ i j:Int,ds=[.int i,.int j]∧R (.int (max i j)) M
theorem c_max (hc:X.calm=true):DCall X (.builtin "max") gMax:=CallR.imp (call_max2 hc) (by
  rintro xs H Q ⟨ds,M,R,hl,am,⟨i,j,z,r⟩,f⟩
  subst z
  obtain ⟨v,v',rfl,h,h'⟩:=hl.two
  cases h; cases h'
  have e:(if j > i then j else i)=max i j:=by
    rw [Int.max_def]; split <;> split <;> omega
  exact ⟨i,j,rfl,by rw [e]; exact f _ M r _ H (KT.refl H) am (.int _)⟩)
noncomputable def lenD (M:Mem):D→Option Nat
  | .tup ds=>some ds.length
  | .ref p=>match M p with
    | some (.lst ds)=>some ds.length
    | _=>none
  | .vl ds=>some ds.length
  | _=>none
noncomputable def gLen:DRC:=fun ds M R=>∃ d n,ds=[d]∧lenD M d=some n∧R (.int (n:Int)) M
theorem c_len:DCall X (.builtin "len") gLen:=CallR.imp call_len_seq (by
  rintro xs H Q ⟨ds,M,R,hl,am,⟨d,n,z,hn,r⟩,f⟩
  subst z
  obtain ⟨v,rfl,h⟩:=hl.one
  cases d with
  | tup es =>
    cases h with
    | tup s l =>
      cases hn
      exact ⟨_,_,rfl,.inr s,by rw [l.length]; exact f _ M r _ H (KT.refl H) am (.int _)⟩
  | ref p =>
    cases h
    unfold lenD at hn
    cases q:M p with
    | none=>simp [q] at hn
    | some o =>
      cases o with
      | lst es =>
        simp only [q] at hn
        cases hn
        obtain ⟨ys,hy,l⟩:=am.lst q
        exact ⟨p,ys,rfl,.inl (SqL.of hy),by rw [l.length]; exact f _ M r _ H (KT.refl H) am (.int _)⟩
  | vl es =>
    cases hn
    obtain ⟨a,xs,rfl,sq,l⟩:=h.il
    exact ⟨a,_,rfl,.inl sq,by rw [l.length]; exact f _ M r _ H (KT.refl H) am (.int _)⟩
  | _=>cases hn)
end
end DL

namespace DL
open PySem PySem.Spec L2
open PyProof.Rows hiding St
theorem bt_abs:bootBuiltins "abs" = some (.builtin "abs"):=by decide +kernel
theorem bt_max:bootBuiltins "max" = some (.builtin "max"):=by decide +kernel
theorem bt_len:bootBuiltins "len" = some (.builtin "len"):=by decide +kernel
theorem bt_isinstance:bootBuiltins "isinstance" = some (.builtin "isinstance"):=by decide +kernel
theorem bt_int:bootBuiltins "int" = some (.type "int"):=by decide +kernel
theorem bt_bool:bootBuiltins "bool" = some (.type "bool"):=by decide +kernel
theorem bt_tuple:bootBuiltins "tuple" = some (.type "tuple"):=by decide +kernel
theorem bt_list:bootBuiltins "list" = some (.type "list"):=by decide +kernel
theorem bt_reversed:bootBuiltins "reversed" = some (.type "reversed"):=by decide +kernel
section
variable {X:Cx} {a b c:Expr} {ta tb tc:DTE} {pos:Pos}

theorem op_mulB:OpR X (binaryOp .Mult) (rI IntMulOk fun i j=>.int (i*j)):=opI fun _ _ _ _ _ _ _ hc q=>mul_int q hc
noncomputable def CFd (i j:Int):Prop:=j≠0∧j.natAbs.log2<9000
theorem op_fdiv9:OpR X (binaryOp .FloorDiv) (rI CFd fun i j=>.int (i.fdiv j)):=opI fun _ _ _ _ _ _ _ hc q=>floordiv_int hc.1 q (.inl (PyProof.noPylong_of_log2 hc.2))
theorem o_mul:DOp X (binaryOp .Mult) (gI IntMulOk fun i j=>.int (i*j)):=dop_I op_mulB fun _ _ _=>.int _
theorem o_fdiv:DOp X (binaryOp .FloorDiv) (gI CFd fun i j=>.int (i.fdiv j)):=dop_I op_fdiv9 fun _ _ _=>.int _

noncomputable def ixD (M:Mem):D→D→Option D
  | .tup ds,.int i=>atI ds i
  | .ref p,.int i=>match M p with
    | some (.lst ds)=>atI ds i
    | _=>none
  | .vl ds,.int i=>atI ds i
  | _,_=>none
noncomputable def gIx:DR2:=fun x y M R=>∃ z,ixD M x y=some z∧R z M
theorem IxR.or' {r r':R2} (h:IxR X r) (h':IxR X r') {g:R2} (i:∀ x y H Q,g x y H Q→r x y H Q∨r' x y H Q):IxR X g:=IxR.imp (IxR.or h h') i
theorem i_any:DIx X gIx:=IxR.or' ix_tup ix_list (by
  rintro x y H Q ⟨dx,dy,M,R,hx,hy,am,⟨z,e,r⟩,f⟩
  cases dy with
  | int i =>
    cases hy
    cases dx with
    | tup ds =>
      cases hx with
      | tup s l =>
        obtain ⟨v,h1,h2⟩:=l.at (show atI ds i=some z from e)
        exact .inl ⟨_,_,i,v,rfl,rfl,s,h1,f z M r v H (KT.refl H) am h2⟩
    | ref p =>
      cases hx
      unfold ixD at e
      cases q:M p with
      | none=>simp [q] at e
      | some o =>
        cases o with
        | lst ds =>
          simp only [q] at e
          obtain ⟨xs,h1,h2⟩:=am.lst q
          obtain ⟨v,h3,h4⟩:=h2.at e
          exact .inr ⟨_,_,i,v,rfl,rfl,SqL.of h1,h3,f z M r v H (KT.refl H) am h4⟩
    | vl ds =>
      obtain ⟨a,xs,rfl,sq,l⟩:=hx.il
      obtain ⟨v,h1,h2⟩:=l.at (show atI ds i=some z from e)
      exact .inr ⟨_,_,i,v,rfl,rfl,sq,h1,f z M r v H (KT.refl H) am h2⟩
    | _=>simp [ixD] at e
  | _=>cases dx <;> simp [ixD] at e)
theorem ixD_lst {M:Mem} {p:Addr} {ds:List D} {i:Int} {z:D} (m:M p=some (.lst ds)) (h:atI ds i=some z):ixD M (.ref p) (.int i)=some z:=by
  unfold ixD; simp only [m]; exact h

noncomputable def isD:D→D→Option Bool
  | .bl a,.bl b=>some (a == b)
  | .non,.non=>some true
  | .bl _,.non=>some false
  | .int _,.non=>some false
  | .str _,.non=>some false
  | .ref _,.non=>some false
  | .tup _,.non=>some false
  | .vl _,.non=>some false
  | _,_=>none
theorem isD_shape {x y:D} {b:Bool} (h:isD x y=some b):(∃ p q,x = .bl p∧y = .bl q∧b=(p == q))∨(y = .non∧((x = .non∧b=true)∨(x ≠ .non∧b=false))):=by
  cases x <;> cases y <;> simp [isD] at h <;> simp [h]
theorem isD_val {K:PySem.W.Frag} {H:Hp} {v:V} {x:D} (h:Has K H v x) (n:x ≠ .non):v ≠ .non:=by
  intro e; subst e; cases h; exact n rfl
noncomputable def gIs (neg:Bool):DR2:=fun x y M R=>∃ b,isD x y=some b∧R (.bl (neg.xor b)) M
theorem o_is:DOp X (compareOp .Is) (gIs false):=by
  intro pins s σ H x y v u Q I rx ry h
  obtain ⟨dx,dy,M,R,hx,hy,am,⟨b,e,r⟩,f⟩:=h
  have fin:EP X pins σ Q (.bool b) s:=⟨.bl b,H,I,rfl,by have:=f _ M r (.bl b) H (KT.refl H) am (by simpa using Has.bl (K:=X.K) (H:=H) b); exact this⟩
  rcases isD_shape e with ⟨p,q,rfl,rfl,rfl⟩ | ⟨rfl,hx'⟩
  · cases hx; cases hy; cases rx; cases ry
    exact is_bool fin
  · cases hy; cases ry
    refine is_none_gen ?_
    rw [RelV.none_iff rx]
    rcases hx' with ⟨rfl,rfl⟩ | ⟨n,rfl⟩
    · cases hx; exact fin
    · rw [decide_eq_false (isD_val hx n)]; exact fin
theorem o_isnot:DOp X (compareOp .IsNot) (gIs true):=by
  intro pins s σ H x y v u Q I rx ry h
  obtain ⟨dx,dy,M,R,hx,hy,am,⟨b,e,r⟩,f⟩:=h
  have fin:EP X pins σ Q (.bool (!b)) s:=⟨.bl (!b),H,I,rfl,by have:=f _ M r (.bl (!b)) H (KT.refl H) am (by simpa using Has.bl (K:=X.K) (H:=H) (!b)); exact this⟩
  rcases isD_shape e with ⟨p,q,rfl,rfl,rfl⟩ | ⟨rfl,hx'⟩
  · cases hx; cases hy; cases rx; cases ry
    exact isnot_bool fin
  · cases hy; cases ry
    refine isnot_none_gen ?_
    rw [RelV.none_iff rx]
    rcases hx' with ⟨rfl,rfl⟩ | ⟨n,rfl⟩
    · cases hx; exact fin
    · rw [decide_eq_false (isD_val hx n)]; exact fin

mutual
inductive PyR (M:Mem):D→PyData→Prop
  | non:PyR M .non .none
  | bl (b:Bool):PyR M (.bl b) (.bool b)
  | int (i:Int):PyR M (.int i) (.int i)
  | str (x:Str):PyR M (.str x) (.str x)
  | tup {ds:List D} {ps:List PyData}:PyRL M ds ps→PyR M (.tup ds) (.tuple ps)
  | lst {p:Addr} {ds:List D} {ps:List PyData}:M p=some (.lst ds)→PyRL M ds ps→PyR M (.ref p) (.list ps)
  | vl {ds:List D} {ps:List PyData}:PyRL M ds ps→PyR M (.vl ds) (.list ps)
inductive PyRL (M:Mem):List D→List PyData→Prop
  | nil:PyRL M [] []
  | cons {d:D} {p:PyData} {ds:List D} {ps:List PyData}:PyR M d p→PyRL M ds ps→PyRL M (d :: ds) (p :: ps)
end
mutual
theorem reads_of {pins:List (Addr × Obj)} {s:Shared} {σ:St} {H:Hp} {M:Mem} (I:Inv X pins σ H s) (am:AbsM X.K H M):∀ {d:D} {p:PyData},PyR M d p→∀ {v:V} {u:Value},Has X.K H v d→RelV v u→∃ as,Reads s.heap u p as
  | _,_,.non,_,_,h,r=>by cases h; cases r; exact ⟨_,.none⟩
  | _,_,.bl b,_,_,h,r=>by cases h; cases r; exact ⟨_,.bool b⟩
  | _,_,.int i,_,_,h,r=>by cases h; obtain ⟨t,rfl⟩:=r; exact ⟨_,.int i t⟩
  | _,_,.str x,_,_,h,r=>by cases h; obtain ⟨t,rfl⟩:=r; exact ⟨_,.str x t⟩
  | _,_,.tup l,_,_,h,r=>by
    cases h with
    | tup s' hl =>
      cases r
      obtain ⟨its,rv,⟨o,e,hc,n,hd⟩,_⟩:=I.tuple s'
      obtain ⟨as,ra⟩:=readsL_of I am l hl rv
      exact ⟨as,.tuple e hc hd (by simpa using ra)⟩
  | _,_,.lst m l,_,_,h,r=>by
    cases h
    cases r
    obtain ⟨xs,hx,hl⟩:=am.lst m
    obtain ⟨its,rv,⟨o,n,e,hc,_,hd⟩,_⟩:=I.list (SqL.of hx)
    obtain ⟨as,ra⟩:=readsL_of I am l hl rv
    exact ⟨_,.list e hc hd (by simpa using ra)⟩
  | _,_,.vl l,_,_,h,r=>by
    obtain ⟨a,xs,rfl,sq,hl⟩:=h.il
    cases r
    obtain ⟨its,rv,⟨o,n,e,hc,_,hd⟩,_⟩:=I.list sq
    obtain ⟨as,ra⟩:=readsL_of I am l hl rv
    exact ⟨_,.list e hc hd (by simpa using ra)⟩
theorem readsL_of {pins:List (Addr × Obj)} {s:Shared} {σ:St} {H:Hp} {M:Mem} (I:Inv X pins σ H s) (am:AbsM X.K H M):∀ {ds:List D} {ps:List PyData},PyRL M ds ps→∀ {vs:List V} {us:List Value},HasL X.K H vs ds→Vals vs us→∃ as,ReadsAll s.heap us ps as
  | _,_,.nil,_,_,h,r=>by cases h; cases r; exact ⟨_,.nil⟩
  | _,_,.cons a l,_,_,h,r=>by
    cases h with
    | cons h hl =>
      cases r with
      | cons r rl =>
        obtain ⟨as,q⟩:=reads_of I am a h r
        obtain ⟨bs,q2⟩:=readsL_of I am l hl rl
        exact ⟨_,.cons q q2⟩
end
noncomputable def gEq (neg:Bool):DR2:=fun x y M R=>∃ px py,PyR M x px∧PyR M y py∧SeqAt.shaped px=true∧SeqAt.shaped py=true∧R (.bl (neg.xor (PyData.eqv px py))) M
theorem o_eq (hu:X.A.units+64<cLine):DOp X (compareOp .Eq) (gEq false):=by
  intro pins s σ H x y v u Q I rx ry h
  obtain ⟨dx,dy,M,R,hx,hy,am,⟨px,py,p1,p2,s1,s2,r⟩,f⟩:=h
  obtain ⟨as,r1⟩:=reads_of I am p1 hx rx
  obtain ⟨bs,r2⟩:=reads_of I am p2 hy ry
  exact eq_dataH r1 r2 s1 s2 hu ⟨.bl _,H,I,rfl,by have:=f _ M r _ H (KT.refl H) am (.bl _); simpa using this⟩
theorem o_ne (hu:X.A.units+64<cLine):DOp X (compareOp .NotEq) (gEq true):=by
  intro pins s σ H x y v u Q I rx ry h
  obtain ⟨dx,dy,M,R,hx,hy,am,⟨px,py,p1,p2,s1,s2,r⟩,f⟩:=h
  obtain ⟨as,r1⟩:=reads_of I am p1 hx rx
  obtain ⟨bs,r2⟩:=reads_of I am p2 hy ry
  exact ne_dataH r1 r2 s1 s2 hu ⟨.bl _,H,I,rfl,by have:=f _ M r _ H (KT.refl H) am (.bl _); simpa using this⟩

mutual
noncomputable def pyD:D→PyData
  | .int i=>.int i
  | .str x=>.str x
  | .bl b=>.bool b
  | .tup ds=>.tuple (pyDL ds)
  | .vl ds=>.list (pyDL ds)
  | _=>.none
noncomputable def pyDL:List D→List PyData
  | []=>[]
  | d :: r=>pyD d :: pyDL r
end
mutual
/-- ints, None, plain texts and tuples of such, k deep -/
noncomputable def cl:Nat→D→Bool
  | _,.int _=>true
  | _,.non=>true
  | _,.str x=>PyData.canLay0 (.str x)
  | k+1,.tup ds=>clL k ds
  | k+1,.vl ds=>clL k ds
  | _,_=>false
noncomputable def clL:Nat→List D→Bool
  | _,[]=>true
  | k,d :: r=>cl k d && clL k r
end
mutual
theorem cl_py {M:Mem}:∀ {k:Nat} {d:D},cl k d=true→PyR M d (pyD d)∧(pyD d).canLay0=true∧(pyD d).depth≤k
  | _,.int i,_=>⟨.int i,rfl,Nat.zero_le _⟩
  | _,.non,_=>⟨.non,rfl,Nat.zero_le _⟩
  | 0,.tup ds,h=>by simp [cl] at h
  | k+1,.tup ds,h=>by
    obtain ⟨a,b,c⟩:=clL_py (M:=M) (k:=k) (ds:=ds) (by simpa [cl] using h)
    exact ⟨.tup a,by simpa [pyD,PyData.canLay0] using b,by simp only [pyD,PyData.depth]; omega⟩
  | _,.str x,h=>⟨.str x,by simpa [cl,pyD] using h,Nat.zero_le _⟩
  | _,.bl _,h=>by simp [cl] at h
  | _,.ref _,h=>by simp [cl] at h
  | 0,.vl ds,h=>by simp [cl] at h
  | k+1,.vl ds,h=>by
    obtain ⟨a,b,c⟩:=clL_py (M:=M) (k:=k) (ds:=ds) (by simpa [cl] using h)
    exact ⟨.vl a,by simpa [pyD,PyData.canLay0] using b,by simp only [pyD,PyData.depth]; omega⟩
  | _,.ty _,h=>by simp [cl] at h
theorem clL_py {M:Mem}:∀ {k:Nat} {ds:List D},clL k ds=true→PyRL M ds (pyDL ds)∧PyData.canLayAll0 (pyDL ds)=true∧PyData.depthAll (pyDL ds)≤k
  | _,[],_=>⟨.nil,rfl,Nat.zero_le _⟩
  | k,d :: r,h=>by
    have h':cl k d=true∧clL k r=true:=by simpa [clL] using h
    obtain ⟨a,b,c⟩:=cl_py (M:=M) h'.1
    obtain ⟨a2,b2,c2⟩:=clL_py (M:=M) h'.2
    exact ⟨.cons a a2,by simp [pyDL,PyData.canLayAll0,b,b2],by simp only [pyDL,PyData.depthAll]; omega⟩
end
mutual
theorem cl_eqv:∀ {k j:Nat} {x y:D},cl k x=true→cl j y=true→(PyData.eqv (pyD x) (pyD y)=true↔x=y)
  | _,_,.int i,.int j,_,_=>by simp [pyD,PyData.eqv]
  | _,_,.int i,.non,_,_=>by simp [pyD,PyData.eqv]
  | _,_,.non,.int i,_,_=>by simp [pyD,PyData.eqv]
  | _,_,.non,.non,_,_=>by simp [pyD,PyData.eqv]
  | _,_,.int i,.tup ds,_,_=>by simp [pyD,PyData.eqv]
  | _,_,.non,.tup ds,_,_=>by simp [pyD,PyData.eqv]
  | _,_,.tup ds,.int i,_,_=>by simp [pyD,PyData.eqv]
  | _,_,.tup ds,.non,_,_=>by simp [pyD,PyData.eqv]
  | k+1,j+1,.tup ds,.tup es,h,h'=>by
    have:=clL_eqv (k:=k) (j:=j) (xs:=ds) (ys:=es) (by simpa [cl] using h) (by simpa [cl] using h')
    simp only [pyD,PyData.eqv,D.tup.injEq]
    exact this
  | 0,_,.tup ds,.tup es,h,_=>by simp [cl] at h
  | _,0,.tup ds,.tup es,_,h=>by simp [cl] at h
  | _,_,.str x,.str y,_,_=>by simp [pyD,PyData.eqv]
  | _,_,.str x,.int i,_,_=>by simp [pyD,PyData.eqv]
  | _,_,.str x,.non,_,_=>by simp [pyD,PyData.eqv]
  | _,_,.str x,.tup ds,_,_=>by simp [pyD,PyData.eqv]
  | _,_,.int i,.str x,_,_=>by simp [pyD,PyData.eqv]
  | _,_,.non,.str x,_,_=>by simp [pyD,PyData.eqv]
  | _,_,.tup ds,.str x,_,_=>by simp [pyD,PyData.eqv]
  | k+1,j+1,.vl ds,.vl es,h,h'=>by
    have:=clL_eqv (k:=k) (j:=j) (xs:=ds) (ys:=es) (by simpa [cl] using h) (by simpa [cl] using h')
    simp only [pyD,PyData.eqv,D.vl.injEq]
    exact this
  | 0,_,.vl ds,.vl es,h,_=>by simp [cl] at h
  | _,0,.vl ds,.vl es,_,h=>by simp [cl] at h
  | _,_,.vl ds,.int i,_,_=>by simp [pyD,PyData.eqv]
  | _,_,.vl ds,.non,_,_=>by simp [pyD,PyData.eqv]
  | _,_,.vl ds,.str x,_,_=>by simp [pyD,PyData.eqv]
  | _,_,.vl ds,.tup es,_,_=>by simp [pyD,PyData.eqv]
  | _,_,.int i,.vl ds,_,_=>by simp [pyD,PyData.eqv]
  | _,_,.non,.vl ds,_,_=>by simp [pyD,PyData.eqv]
  | _,_,.str x,.vl ds,_,_=>by simp [pyD,PyData.eqv]
  | _,_,.tup es,.vl ds,_,_=>by simp [pyD,PyData.eqv]
  | _,_,.bl _,_,h,_=>by simp [cl] at h
  | _,_,.ref _,_,h,_=>by simp [cl] at h
  | _,_,.ty _,_,h,_=>by simp [cl] at h
  | _,_,_,.bl _,_,h=>by simp [cl] at h
  | _,_,_,.ref _,_,h=>by simp [cl] at h
  | _,_,_,.ty _,_,h=>by simp [cl] at h
theorem clL_eqv:∀ {k j:Nat} {xs ys:List D},clL k xs=true→clL j ys=true→(PyData.eqvAll (pyDL xs) (pyDL ys)=true↔xs=ys)
  | _,_,[],[],_,_=>by simp [pyDL,PyData.eqvAll]
  | _,_,[],_ :: _,_,_=>by simp [pyDL,PyData.eqvAll]
  | _,_,_ :: _,[],_,_=>by simp [pyDL,PyData.eqvAll]
  | k,j,x :: xs,y :: ys,h,h'=>by
    have h1:cl k x=true∧clL k xs=true:=by simpa [clL] using h
    have h2:cl j y=true∧clL j ys=true:=by simpa [clL] using h'
    have e1:=cl_eqv h1.1 h2.1
    have e2:=clL_eqv h1.2 h2.2
    simp only [pyDL,PyData.eqvAll,Bool.and_eq_true,e1,e2,List.cons.injEq]
end
open Classical in
/-- == of clean data -/
theorem gEq_cl {neg:Bool} {x y:D} {M:Mem} {R:DK} (h:R (.bl (neg.xor (decide (x=y)))) M) (hx:cl 60 x=true:=by rfl) (hy:cl 60 y=true:=by rfl):gEq neg x y M R:=by
  obtain ⟨a,b,c⟩:=cl_py (M:=M) hx
  obtain ⟨a2,b2,c2⟩:=cl_py (M:=M) hy
  refine ⟨_,_,a,a2,?_,?_,?_⟩
  · simp only [SeqAt.shaped,b,Bool.true_and]; exact decide_eq_true (by omega)
  · simp only [SeqAt.shaped,b2,Bool.true_and]; exact decide_eq_true (by omega)
  · have e:PyData.eqv (pyD x) (pyD y)=decide (x=y):=by
      have:=cl_eqv hx hy
      by_cases q:x=y
      · rw [decide_eq_true q]; exact this.mpr q
      · rw [decide_eq_false q]
        cases z:PyData.eqv (pyD x) (pyD y) with
        | false=>rfl
        | true=>exact absurd (this.mp z) q
    rw [e]; exact h

noncomputable def tyD (M:Mem):D→Option String
  | .non=>some "NoneType"
  | .bl _=>some "bool"
  | .int _=>some "int"
  | .str _=>some "str"
  | .tup _=>some "tuple"
  | .ref p=>match M p with
    | some (.lst _)=>some "list"
    | _=>none
  | .vl _=>some "list"
  | .ty _=>none
  | .dic=>some "dict"
noncomputable def subT (t T:String):Option Bool:=if t=T then some true else
  match t,T with
  | "bool", "int" => some true
  | _,_=>if (t∈["NoneType", "bool", "int", "str", "tuple", "list", "dict"])∧(T∈["bool", "int", "str", "tuple", "list"]) then some false else none
noncomputable def SubOk (K:PySem.W.Frag):Prop:=∀ t T b,subT t T=some b→PySem.W.kitOne K (.type t) (.type T)=some b
theorem d_ty {x:Str} {n:String} (hg:Gl X x) (hm:X.mg x=none) (hv:bootBuiltins x=some (.type n)) (hn:x ≠ "__name__" := by decide) (hd:(x == ("__debug__" : Str))=false:=by decide):DPE X (.Name x pos) (dC (.ty n)) :=
  d_const (v:=.ty n) (pe_bltn hg hm hv rfl hn hd) fun _=>.ty n
theorem jd_ty {x:Str} {n:String} (hg:Gl X x) (hm:X.mg x=none) (hv:bootBuiltins x=some (.type n)) (hn:x ≠ "__name__" := by decide) (hd:(x == ("__debug__" : Str))=false:=by decide):JE X (.Name x pos) (dC (.ty n)):=⟨d_ty (hg:=hg) (hm:=hm) (hv:=hv) (hn:=hn) (hd:=hd)⟩
noncomputable def gIsi:DRC:=fun ds M R=>∃ d t T b,ds=[d,.ty T]∧tyD M d=some t∧subT t T=some b∧R (.bl b) M
theorem c_isi (hk:SubOk X.K):DCall X (.builtin "isinstance") gIsi:=by
  intro pins s σ H xs us Q I rv h
  obtain ⟨ds,M,R,hl,am,⟨d,t,T,b,rfl,ht,hb,r⟩,f⟩:=h
  obtain ⟨v,v',rfl,h1,h2⟩:=hl.two
  cases h2
  obtain ⟨u,w',rfl,r1,r2⟩:=vals2 rv
  cases (show w'=Value.type T from r2)
  have e:=hk t T b hb
  have fin:∀ tk,EP X pins σ Q (.bool b) { s with toks:=tk }:=fun tk=>⟨.bl b,H,I.tok tk,rfl,f _ M r _ H (KT.refl H) am (.bl b)⟩
  cases h1 with
  | non=>cases ht; exact isinst_ok I r1 .non e fin
  | bl q=>cases ht; exact isinst_ok I r1 (.bl q) e fin
  | int q=>cases ht; exact isinst_ok I r1 (.int q) e fin
  | str q=>cases ht; exact isinst_ok I r1 (.str q) e fin
  | ty q=>cases ht
  | ref p =>
    unfold tyD at ht
    cases q:M p with
    | none=>simp [q] at ht
    | some o =>
      cases o with
      | lst es =>
        simp only [q] at ht
        cases ht
        obtain ⟨ys,hy,_⟩:=am.lst q
        exact isinst_ok I r1 (.lst hy) e fin
  | tup s' l =>
    cases ht
    cases (show u=Value.ref _ from r1)
    obtain ⟨its,_,⟨o,h1,h2,_⟩,_⟩:=I.tuple s'
    exact PySem.W.kia_one PySem.W.kitx_tuple I.kIn ⟨o,h1,h2⟩ e (fun z=>nomatch z) fin
  | vl hq hl' =>
    cases ht
    cases (show u=Value.ref _ from r1)
    obtain ⟨_,_,ea,sq,_⟩:=Has.il (.vl hq hl')
    cases ea
    obtain ⟨its,_,⟨o,n,h1,h2,_⟩,_⟩:=I.list sq
    exact PySem.W.kia_one PySem.W.kitx_list I.kIn ⟨o,h1,h2⟩ e (fun z=>nomatch z) fin
  | dic hq =>
    cases ht
    cases (show u=Value.ref _ from r1)
    obtain ⟨o,g1,g2⟩:=hq
    exact PySem.W.kia_one PySem.W.kitx_dict I.kIn ⟨o,(I.hok _ _ g1).1,g2⟩ e (fun z=>nomatch z) fin

theorem mt_bits:MtR X "int.bit_length" (fun x xs H Q=>∃ i,x = .int i∧xs=[]∧Q (.int (Builtin.Int.intBits i:Nat)) H):=by
  intro pins s σ H x xs v us Q I rx rv h
  obtain ⟨i,rfl,rfl,q⟩:=h
  cases rv
  obtain ⟨t,rfl⟩:=rx
  exact call_int_bit_length ⟨.int _,H,I.tok _,⟨_,rfl⟩,q⟩
end
end DL

namespace DL
open PySem PySem.Spec L2
open PyProof.Rows hiding St
section
variable {X:Cx} {a b c:Expr} {ta tb tc:DTE} {pos:Pos}

noncomputable def Y0:DXK:=fun _ _=>False
theorem fit0 {K:PySem.W.Frag} {H:Hp} {E:XK}:FitX K H Y0 E:=fun _ _ h=>h.elim
structure FunD (K:PySem.W.Frag) (x:Str) (st:Stmt) (f:Addr) (fd:FuncData):Prop where
  ex:∃ (oc:Value) (od:Option Addr) (dV kV doc pm:Value) (an:Option Addr) (cdv ct:Value) (osl:Array (Option Value)),
    fd=PySem.W.fnOf x x (defArgs st) (defBody st) (defScope st) dV kV doc pm an cdv ct∧K.lookup f=some ⟨oc,od,.func fd,osl⟩∧PySem.W.codeIn K cdv x=true
  kp:PySem.W.keepIn K (.ref f)=true
structure Df (K:PySem.W.Frag) (mg:Str→Option Value) (x:Str) (st:Stmt) (ps:List Str):Prop where
  ex:∃ (f:Addr) (fd:FuncData),FunD K x st f fd∧mg x=some (.ref f)∧Binds K fd ps []
structure DfL (K:PySem.W.Frag) (mg:Str→Option Value) (x:Str) (st:Stmt) (ps:List Str):Prop where
  ex:∃ (f:Addr) (fd:FuncData),FunD K x st f fd∧mg x=some (.ref f)∧∀ us:List Value,us.length=ps.length→bindArgs fd ⟨us,[]⟩=pure (ps.zip us)
structure Fn (P:Program) (w:World) (K:PySem.W.Frag) (mg:Str→Option Value) (base:Heap) (x:Str) (k:Nat) (ps:List Str) (sp:DSp):Prop where
  ex:∃ (f:Addr) (fd:FuncData),FnOk P w K mg base CX0 k f fd ps (upSp K sp)∧mg x=some (.ref f)∧PySem.W.keepIn K (.ref f)=true∧Binds K fd ps []
theorem d_callF {x:Str} {j:Nat} {ps:List Str} {sp:DSp} {p:Pos} {e:Expr} {es:List Expr} {t:DTA} (G:Fn X.prog X.w X.K X.mg X.base x j ps sp) (hr:Room j X.A) (hg:Gl X x) (ha:DPA X (e :: es) t)
    (hdb:(x == ("__debug__" : Str))=false:=by decide) (he:starEach (e :: es) X.env=(false,eval e X.env) :: starEach es X.env:=by rfl) (hpl:(backTo pos (starEach es X.env)).any (·.1)=false:=by rfl) :
    DPE X (.Call (.Name x p) (e :: es) [] pos) (dCall sp [] Y0 t):=by
  obtain ⟨f,fd,F,hm,hk,hb⟩:=G.ex
  exact d_call F hr hg hm hk hb .nil (fun _=>.nil) pass0 (fun _=>fit0) ha hdb he hpl
theorem jcF {x:Str} {j:Nat} {ps:List Str} {sp:DSp} {p:Pos} {e:Expr} {es:List Expr} {t:DTA} (G:Fn X.prog X.w X.K X.mg X.base x j ps sp) (hr:Room j X.A) (hg:Gl X x) (ha:JA X (e :: es) t)
    (hdb:(x == ("__debug__" : Str))=false:=by decide) (he:starEach (e :: es) X.env=(false,eval e X.env) :: starEach es X.env:=by rfl) (hpl:(backTo pos (starEach es X.env)).any (·.1)=false:=by rfl):JE X (.Call (.Name x p) (e :: es) [] pos) (dCall sp [] Y0 t):=⟨d_callF (G:=G) (hr:=hr) (hg:=hg) (ha:=ha.out) (hdb:=hdb) (he:=he) (hpl:=hpl)⟩
end
section
variable {P:Program} {w:World} {K:PySem.W.Frag} {mg:Str→Option Value} {base:Heap}
theorem fn_ok {x:Str} {st:Stmt} {f:Addr} {fd:FuncData} {N ps:List Str} {k:Nat} {sp:DSp} (F:FunD K x st f fd) (S:FnScope N ps (defScope st)) (len:∀ ds M R Y,sp ds M R Y→ds.length=ps.length)
    (hbody:∀ (cdv:Value) (A:Around) (outer:List Env) (s:Shared) (H:Hp) (E:XK) (ds:List D) (M:Mem) (R:DK) (Y:DXK),Room k (A.deeper (envOfC x (defScope st) s.heap.objs.size f cdv))→sp ds M R Y →
      ∃ t,JSs (cxOf CX0 P w K mg base N x (defScope st) f cdv A outer s H E).nox (defBody st) t∧t { nx:=fun _ M'=>R .non M',rt:=R } (dstart N ds) M):FnOk P w K mg base CX0 (k+1) f fd ps (upSp K sp):=by
  obtain ⟨oc,od,dV,kV,doc,pm,an,cdv,ct,osl,rfl,lk,hcd⟩:=F.ex
  refine fn_of lk hcd S (fun vs H Q E ⟨ds,M,R,Y,hl,_,hs,_,_⟩=>by rw [hl.length]; exact len ds M R Y hs) fun A outer s H vs Q E hr zz=>?_
  obtain ⟨ds,M,R,Y,hl,am,hs,fv,fx⟩:=zz
  obtain ⟨t,h1,h2⟩:=hbody cdv A outer s H E ds M R Y hr hs
  refine ⟨_,h1.out.nox,dstart N ds,M,_,EnvOk.start0 hl,am,h2,⟨?_,fv,fun _ _ h=>h.elim,fun _ _ h=>h.elim⟩⟩
  exact fun e M' h σ' H' kt a o=>fv .non M' h .non H' kt a .non
theorem fn_by {x:Str} {st:Stmt} {N ps:List Str} {k:Nat} {sp:DSp} (d:Df K mg x st ps) (S:FnScope N ps (defScope st)) (len:∀ ds M R Y,sp ds M R Y→ds.length=ps.length)
    (hbody:∀ (f:Addr) (cdv:Value) (A:Around) (outer:List Env) (s:Shared) (H:Hp) (E:XK) (ds:List D) (M:Mem) (R:DK) (Y:DXK),Room k (A.deeper (envOfC x (defScope st) s.heap.objs.size f cdv))→sp ds M R Y →
      ∃ t,JSs (cxOf CX0 P w K mg base N x (defScope st) f cdv A outer s H E).nox (defBody st) t∧t { nx:=fun _ M'=>R .non M',rt:=R } (dstart N ds) M):Fn P w K mg base x (k+1) ps sp:=by
  obtain ⟨f,fd,F,hm,hb⟩:=d.ex
  exact ⟨f,fd,fn_ok F S len (hbody f),hm,F.kp,hb⟩
theorem df_mk {x:Str} {st:Stmt} {ps:List Str} {h:Heap} {f:Addr} {oc:Value} {od an:Option Addr} {osl:Array (Option Value)} {dV kV doc pm cdv ct:Value} (X:K.In h) (G:h.Ns mainGlobals mg)
    (n:PySem.W.nsIn K mainGlobals x=some (some (.ref f)))
    (l:K.lookup f=some ⟨oc,od,.func (PySem.W.fnOf x x (defArgs st) (defBody st) (defScope st) dV kV doc pm an cdv ct),osl⟩)
    (c:PySem.W.codeIn K cdv x=true) (k:PySem.W.keepIn K (.ref f)=true)
    (hb:∀ us:List Value,us.length=ps.length→bindArgs (PySem.W.fnOf x x (defArgs st) (defBody st) (defScope st) dV kV doc pm an cdv ct) ⟨us,[]⟩=pure (ps.zip us)):Df K mg x st ps :=
  ⟨f,_,⟨⟨oc,od,dV,kV,doc,pm,an,cdv,ct,osl,rfl,l,c⟩,k⟩,PySem.W.mg_of X G n,.all hb⟩
theorem dfl_mk {x:Str} {st:Stmt} {ps:List Str} {h:Heap} {f:Addr} {oc:Value} {od an:Option Addr} {osl:Array (Option Value)} {dV kV doc pm cdv ct:Value} (X:K.In h) (G:h.Ns mainGlobals mg)
    (n:PySem.W.nsIn K mainGlobals x=some (some (.ref f)))
    (l:K.lookup f=some ⟨oc,od,.func (PySem.W.fnOf x x (defArgs st) (defBody st) (defScope st) dV kV doc pm an cdv ct),osl⟩)
    (c:PySem.W.codeIn K cdv x=true) (k:PySem.W.keepIn K (.ref f)=true)
    (hb:∀ us:List Value,us.length=ps.length→bindArgs (PySem.W.fnOf x x (defArgs st) (defBody st) (defScope st) dV kV doc pm an cdv ct) ⟨us,[]⟩=pure (ps.zip us)):DfL K mg x st ps :=
  ⟨f,_,⟨⟨oc,od,dV,kV,doc,pm,an,cdv,ct,osl,rfl,l,c⟩,k⟩,PySem.W.mg_of X G n,hb⟩
theorem dfd_mk {x:Str} {st:Stmt} {ps:List Str} {h:Heap} {f:Addr} {oc:Value} {od an:Option Addr} {osl:Array (Option Value)} {dV kV doc pm cdv ct:Value} (X:K.In h) (G:h.Ns mainGlobals mg)
    (n:PySem.W.nsIn K mainGlobals x=some (some (.ref f)))
    (l:K.lookup f=some ⟨oc,od,.func (PySem.W.fnOf x x (defArgs st) (defBody st) (defScope st) dV kV doc pm an cdv ct),osl⟩)
    (c:PySem.W.codeIn K cdv x=true) (k:PySem.W.keepIn K (.ref f)=true)
    (hb:∀ us:List Value,us.length=ps.length→∀ S,PySem.W.peek K S (bindArgs (PySem.W.fnOf x x (defArgs st) (defBody st) (defScope st) dV kV doc pm an cdv ct) ⟨us,[]⟩)=some (ps.zip us)):Df K mg x st ps :=
  ⟨f,_,⟨⟨oc,od,dV,kV,doc,pm,an,cdv,ct,osl,rfl,l,c⟩,k⟩,PySem.W.mg_of X G n,fun s us X' hl=>by rw [List.append_nil] at hl ⊢; exact PySem.W.kp_binds X' (hb us hl)⟩
end
section
variable {X:Cx} {x:Str} {p pos:Pos} {e:Expr} {es:List Expr} {t:DTA} {id T:String} {o:Expr} {to:DTE} {a b c:Expr} {ta tb tc:DTE}
theorem d_blt {g:DRC} (hc:DCall X (.builtin id) g) (hg:Gl X x) (hm:X.mg x=none) (hv:bootBuiltins x=some (.builtin id)) (ha:DPA X (e :: es) t)
    (hn:x ≠ "__name__" := by decide) (hdb:(x == ("__debug__" : Str))=false:=by decide) (he:starEach (e :: es) X.env=(false,eval e X.env) :: starEach es X.env:=by rfl) (hpl:(backTo pos (starEach es X.env)).any (·.1)=false:=by rfl):DPE X (.Call (.Name x p) (e :: es) [] pos) (dCB g t) :=
  (pe_callB hc hg hm hv ha hn hdb he hpl).imp fun _ _ _ h=>cb_up h
theorem jd_blt {g:DRC} (hc:DCall X (.builtin id) g) (hg:Gl X x) (hm:X.mg x=none) (hv:bootBuiltins x=some (.builtin id)) (ha:JA X (e :: es) t)
    (hn:x ≠ "__name__" := by decide) (hdb:(x == ("__debug__" : Str))=false:=by decide) (he:starEach (e :: es) X.env=(false,eval e X.env) :: starEach es X.env:=by rfl) (hpl:(backTo pos (starEach es X.env)).any (·.1)=false:=by rfl):JE X (.Call (.Name x p) (e :: es) [] pos) (dCB g t):=⟨d_blt (hc:=hc) (hg:=hg) (hm:=hm) (hv:=hv) (ha:=ha.out) (hn:=hn) (hdb:=hdb) (he:=he) (hpl:=hpl)⟩
theorem d_blty {g:DRC} (hc:DCall X (.type T) g) (hg:Gl X x) (hm:X.mg x=none) (hv:bootBuiltins x=some (.type T)) (ha:DPA X (e :: es) t)
    (hn:x ≠ "__name__" := by decide) (hdb:(x == ("__debug__" : Str))=false:=by decide) (he:starEach (e :: es) X.env=(false,eval e X.env) :: starEach es X.env:=by rfl) (hpl:(backTo pos (starEach es X.env)).any (·.1)=false:=by rfl):DPE X (.Call (.Name x p) (e :: es) [] pos) (dCB g t) :=
  (pe_callTy hc hg hm hv ha hn hdb he hpl).imp fun _ _ _ h=>cb_up h
theorem jd_blty {g:DRC} (hc:DCall X (.type T) g) (hg:Gl X x) (hm:X.mg x=none) (hv:bootBuiltins x=some (.type T)) (ha:JA X (e :: es) t)
    (hn:x ≠ "__name__" := by decide) (hdb:(x == ("__debug__" : Str))=false:=by decide) (he:starEach (e :: es) X.env=(false,eval e X.env) :: starEach es X.env:=by rfl) (hpl:(backTo pos (starEach es X.env)).any (·.1)=false:=by rfl):JE X (.Call (.Name x p) (e :: es) [] pos) (dCB g t):=⟨d_blty (hc:=hc) (hg:=hg) (hm:=hm) (hv:=hv) (ha:=ha.out) (hn:=hn) (hdb:=hdb) (he:=he) (hpl:=hpl)⟩

noncomputable def gBits:D→Mem→DK→Prop:=fun x M R=>∃ i,x = .int i∧R (.int (Builtin.Int.intBits i:Nat)) M
theorem d_bits {apos cpos:Pos} (ho:DPE X o to) (hbase:attributeBase o "bit_length" X.env (eval o X.env)=eval o X.env:=by rfl) (hline:(apos.endLine == cpos.line)=true:=by rfl) :
    DPE X (.Call (.Attribute o "bit_length" apos) [] [] cpos) (dUn gBits to) :=
  (pe_bm0 PySem.F.plainAttrs_int PySem.F.slot_int_bit_length PySem.F.type_int_bit_length mt_bits ho hbase hline).imp (by rintro σ H Q ⟨e,M,R,ok,am,t,f⟩; exact ⟨e,M,_,ok,am,t,fun x M1 ⟨i,z,r⟩ v H1 k1 a1 r1=>by
    subst z; cases r1; exact ⟨rfl,i,rfl,rfl,f _ M1 r _ H1 k1 a1 (.int _)⟩⟩)
theorem jd_bits {apos cpos:Pos} (ho:JE X o to) (hbase:attributeBase o "bit_length" X.env (eval o X.env)=eval o X.env:=by rfl) (hline:(apos.endLine == cpos.line)=true:=by rfl):JE X (.Call (.Attribute o "bit_length" apos) [] [] cpos) (dUn gBits to):=⟨d_bits (ho:=ho.out) (hbase:=hbase) (hline:=hline)⟩

theorem op_catS:OpR X (binaryOp .Add) (fun x y H Q=>∃ l b xs zs,x = .ref l∧y = .ref b∧SqL X.K H l xs∧SqL X.K H b zs∧xs.length+zs.length≤sizeLine∧∀ p,H p=none→Q (.ref p) (upd H p (.lst (xs++zs)))):=by
  intro pins s σ H x y v u Q I rx ry h
  obtain ⟨l,b,xs,zs,rfl,rfl,hH,hB,hz,q⟩:=h
  cases rx
  cases ry
  obtain ⟨its,r,pl,z1⟩:=I.list hH
  obtain ⟨its2,r2,pl2,z2⟩:=I.list hB
  have hl:=r.length
  have hl2:=r2.length
  obtain ⟨⟨cls,dd,data,sl⟩,ho,hc,n,hd⟩:=pl.isList
  obtain ⟨⟨cls2,dd2,data2,sl2⟩,ho2,hc2,n2,hd2⟩:=pl2.isList
  simp only at hc hd hc2 hd2
  subst hc hd hc2 hd2
  have ea:its.toArray++its2.toArray=(its++its2).toArray:=by simp
  refine concat_meets ⟨_,ho,rfl⟩ ⟨_,ho2,rfl⟩ noFill_list_add seq_list_add PySem.F.slot_list_add PySem.F.entry_list_add (PySem.F.args_list_add_2 _ _) (list_addW l b its.toArray its2.toArray n n2 dd dd2 sl sl2 (by simp only [List.size_toArray]; omega)) ⟨ho,ho2,?_⟩
  rw [ea]
  exact ⟨.ref _,_,I.lnew (t':=s.toks) (r.append r2) (by rw [List.length_append]; omega),rfl,q _ I.fresh⟩
noncomputable def itemsD (M:Mem):D→Option (List D)
  | .ref p=>match M p with
    | some (.lst ds)=>some ds
    | _=>none
  | .vl ds=>some ds
  | _=>none
theorem itemsD_has {K:PySem.W.Frag} {H:Hp} {M:Mem} {v:V} {d:D} {ds:List D} (am:AbsM K H M) (h:Has K H v d) (e:itemsD M d=some ds):∃ a xs,v = .ref a∧SqL K H a xs∧HasL K H xs ds:=by
  cases h with
  | ref p =>
    unfold itemsD at e
    cases q:M p with
    | none=>simp [q] at e
    | some o =>
      cases o with
      | lst es =>
        simp only [q] at e
        cases e
        obtain ⟨xs,hx,l⟩:=am.lst q
        exact ⟨p,xs,rfl,SqL.of hx,l⟩
  | vl hq hl =>
    cases e
    exact Has.il (.vl hq hl)
  | _=>cases e
end
end DL
namespace DL
open PySem PySem.Spec L2
open PyProof.Rows hiding St

end DL

namespace DL
open PySem PySem.Spec L2
open PyProof.Rows hiding St
theorem sl (n:Nat) (h:n≤1000:=by decide):n≤sizeLine:=Nat.le_trans h (by decide)
section
variable {X:Cx}
open Classical in
/-- == and != of clean data, of scalars -/
noncomputable def gEqC (neg:Bool):DR2:=fun x y M R=>cl 60 x=true∧cl 60 y=true∧R (.bl (neg.xor (decide (x=y)))) M
theorem o_eqC (hu:X.A.units+64<cLine):DOp X (compareOp .Eq) (gEqC false):=OpR.imp (o_eq hu) (by rintro _ _ _ _ ⟨dx,dy,M,R,hx,hy,am,⟨h1,h2,h3⟩,f⟩; exact ⟨dx,dy,M,R,hx,hy,am,gEq_cl h3 h1 h2,f⟩)
theorem o_neC (hu:X.A.units+64<cLine):DOp X (compareOp .NotEq) (gEqC true):=OpR.imp (o_ne hu) (by rintro _ _ _ _ ⟨dx,dy,M,R,hx,hy,am,⟨h1,h2,h3⟩,f⟩; exact ⟨dx,dy,M,R,hx,hy,am,gEq_cl h3 h1 h2,f⟩)
theorem o_eqI:DOp X (compareOp .Eq) (gF (fI fun i j=>.bl (decide (i=j)))):=OpR.imp op_eq (by
  rintro x y H Q ⟨dx,dy,M,R,hx,hy,am,⟨z,e,r⟩,f⟩
  obtain ⟨i,j,e1,e2,e3⟩:=fI_some e
  subst e1; subst e2; subst e3
  cases hx; cases hy
  refine ⟨rfl,?_⟩
  have e:decide (V.int i=V.int j)=decide (i=j):=by simp
  rw [e]
  exact f _ M r _ H (KT.refl H) am (.bl _))
theorem o_neI:DOp X (compareOp .NotEq) (gF (fI fun i j=>.bl (!decide (i=j)))):=OpR.imp op_ne (by
  rintro x y H Q ⟨dx,dy,M,R,hx,hy,am,⟨z,e,r⟩,f⟩
  obtain ⟨i,j,e1,e2,e3⟩:=fI_some e
  subst e1; subst e2; subst e3
  cases hx; cases hy
  refine ⟨rfl,?_⟩
  have e:decide (V.int i=V.int j)=decide (i=j):=by simp
  rw [e]
  exact f _ M r _ H (KT.refl H) am (.bl _))
end
theorem iteD {c:Prop} [Decidable c] {A B:Prop} (h1:c→A) (h2:¬ c→B):if decide c=true then A else B:=by
  by_cases h:c
  · rw [if_pos (decide_eq_true h)]; exact h1 h
  · rw [if_neg (by rw [decide_eq_false h]; exact Bool.false_ne_true)]; exact h2 h
theorem iteND {c:Prop} [Decidable c] {A B:Prop} (h1:¬ c→A) (h2:c→B):if (!decide c)=true then A else B:=by
  by_cases h:c
  · rw [decide_eq_true h]; rw [if_neg (by decide)]; exact h2 h
  · rw [decide_eq_false h]; rw [if_pos (by decide)]; exact h1 h
theorem log_lt {n k:Nat} (h:n<2 ^ k) (hk:0<k):n.log2<k:=by
  rcases Nat.eq_zero_or_pos n with h0 | h0
  · subst h0; rw [Nat.log2_zero]; exact hk
  · exact (Nat.log2_lt (Nat.pos_iff_ne_zero.mp h0)).mpr h
theorem mulOk {a b:Int} (m n:Nat) (ha:a.natAbs<2 ^ m) (hb:b.natAbs<2 ^ n) (h:m+n≤100000):IntMulOk a b:=by
  have hx:∀ (x:Int) (k:Nat),x.natAbs<2 ^ k→Builtin.Int.intBits x≤k:=fun x k hx=>by
    unfold Builtin.Int.intBits
    split
    · exact Nat.zero_le _
    · rename_i h0
      have:x.natAbs≠0:=by
        intro z; apply h0
        first | exact (by simpa using Int.natAbs_eq_zero.mp z) | (simp; omega)
      have:=(Nat.log2_lt this).mpr hx
      omega
  exact PySem.IntMulOk.of_le (hx a m ha) (hx b n hb) (by omega)
end DL
namespace DL
open PySem PySem.Spec L2
open PyProof.Rows hiding St
noncomputable def kit0 (t T:String):Option Bool:=if PySem.W.kitMeta T=true then (fastBuiltinMro t).map (·.contains (.type T)) else none
theorem subOk (K:PySem.W.Frag):SubOk K:=by
  intro t T b h
  unfold subT at h
  by_cases e:t=T
  · subst e
    rw [if_pos rfl] at h
    cases h
    unfold PySem.W.kitOne
    rw [if_pos (beq_self_eq_true _)]
  · rw [if_neg e] at h
    have hne:¬ (Value.type t == Value.type T)=true:=fun z=>e (by have:=eq_of_beq z; injection this)
    unfold PySem.W.kitOne
    rw [if_neg hne]
    show kit0 t T=some b
    split at h
    · cases h; decide +kernel
    · split at h
      · rename_i hh
        obtain ⟨ht,hT⟩:=hh
        simp only [List.mem_cons,List.not_mem_nil,or_false] at ht hT
        cases h
        rcases ht with rfl | rfl | rfl | rfl | rfl | rfl | rfl <;> rcases hT with rfl | rfl | rfl | rfl | rfl <;> first | exact absurd rfl e | decide +kernel | (exfalso; simp_all)
      · cases h
theorem has_script {K:PySem.W.Frag} {H:Hp} {a:Addr} {ns:List Int} (hO:Only H) (hS:SqL K H a (ns.map V.int)):Has K H (.ref a) (.vl (ns.map D.int)):=by
  rcases hS with (h | ⟨o,h⟩) | h
  · rcases hO a with z | ⟨o,xs,z⟩
    · rw [z] at h; cases h
    · rw [z] at h; cases h
  · exact .vl (.inl ⟨o,h⟩) (HasL.ints ns)
  · exact .vl (.inr fun _=>.inr h) (HasL.ints ns)
theorem law_sp {K:PySem.W.Frag} {H:Hp} {a:Addr} {ns:List Int} {sp:DSp} (hO:Only H) (hS:SqL K H a (ns.map V.int)) (h:sp [.vl (ns.map D.int)] (fun _=>none) (fun d _=>d = .bl true) Y0) :
    upSp K sp [.ref a] H (fun v _=>v = .bl true) (fun _ _ _=>False) :=
  ⟨[.vl (ns.map D.int)],fun _=>none,fun d _=>d = .bl true,Y0,.cons (has_script hO hS) .nil,fun _ _ z=>(by cases z),h,fun d M' e v H' _ _ hv=>by subst e; cases hv; rfl,fun _ _ z=>z.elim⟩
end DL

namespace DL
open PySem PySem.Spec L2
open PyProof.Rows hiding St
section
variable {X:Cx} {o e:Expr} {es:List Expr} {to:DTE} {t:DTA} {name:Str} {apos cpos:Pos} {id:String}

noncomputable abbrev DRM:=D→List D→Mem→DK→Prop
noncomputable def upM (K:PySem.W.Frag) (g:DRM):V→List V→Hp→VK→Prop:=fun x xs H Q=>∃ dx ds M R,Has K H x dx∧HasL K H xs ds∧AbsM K H M∧g dx ds M R∧FitV K H R Q
noncomputable def DMt (X:Cx) (id:String) (g:DRM):Prop:=MtR X id (upM X.K g)
theorem MtR.imp {r r':V→List V→Hp→VK→Prop} (h:MtR X id r) (i:∀ x xs H Q,r' x xs H Q→r x xs H Q):MtR X id r':=fun pins s σ H x xs v us Q I rx rv q=>h pins s σ H x xs v us Q I rx rv (i x xs H Q q)
noncomputable def dLM (g:DRM) (to:DTE) (t:DTA):DTE:=fun e M R=>to e M fun x M1=>(∃ l ds,x = .ref l∧M1 l=some (.lst ds))∧t e M1 fun xs M2=>g x xs M2 R
theorem d_lm {g:DRM} (slot:Slot "list" name id) (hty:typeOf (.builtin id)=pure (.type "method_descriptor")) (hm:DMt X id g) (ho:DPE X o to) (ha:DPA X (e :: es) t)
    (hbase:attributeBase o name X.env (eval o X.env)=eval o X.env:=by rfl)
    (hfew:((backTo cpos (starEach (e :: es) X.env)).all (fun x=>!x.1) && (backToKw cpos (keywordEach [] X.env)).all (fun x=>x.1.isSome)
      && decide ((e :: es).length+([]:List Keyword).length+(if ([]:List Keyword).isEmpty then 0 else 1)<30))=true:=by rfl)
    (hline:(apos.endLine == cpos.line)=true:=by rfl) (hs:starEach (e :: es) X.env=(false,eval e X.env) :: starEach es X.env:=by rfl) (hplain:(backTo cpos (starEach es X.env)).any (·.1)=false:=by rfl) :
    DPE X (.Call (.Attribute o name apos) (e :: es) [] cpos) (dLM g to t) :=
  (pe_bm PySem.F.plainAttrs_list slot hty hm ho ha hbase hfew hline hs hplain).imp (by rintro σ H Q ⟨e,M,R,ok,am,t,f⟩; exact ⟨e,M,_,ok,am,t,fun x M1 ⟨⟨l,ds,z,hM⟩,h1⟩ v H1 k1 a1 r1=>by
    subst z
    have r1':=r1
    cases r1
    obtain ⟨xs,hx,_⟩:=a1.lst hM
    refine ⟨.inl ⟨rfl,xs,SqL.of hx⟩,e,M1,_,ok.mono k1,a1,h1,fun zs M2 h2 vs H2 k2 a2 r2=>?_⟩
    exact ⟨_,zs,M2,R,r1'.mono k2,r2,a2,h2,f.mono (k1.trans k2)⟩⟩)
theorem jd_lm {g:DRM} (slot:Slot "list" name id) (hty:typeOf (.builtin id)=pure (.type "method_descriptor")) (hm:DMt X id g) (ho:JE X o to) (ha:JA X (e :: es) t)
    (hbase:attributeBase o name X.env (eval o X.env)=eval o X.env:=by rfl)
    (hfew:((backTo cpos (starEach (e :: es) X.env)).all (fun x=>!x.1) && (backToKw cpos (keywordEach [] X.env)).all (fun x=>x.1.isSome)
      && decide ((e :: es).length+([]:List Keyword).length+(if ([]:List Keyword).isEmpty then 0 else 1)<30))=true:=by rfl)
    (hline:(apos.endLine == cpos.line)=true:=by rfl) (hs:starEach (e :: es) X.env=(false,eval e X.env) :: starEach es X.env:=by rfl) (hplain:(backTo cpos (starEach es X.env)).any (·.1)=false:=by rfl):JE X (.Call (.Attribute o name apos) (e :: es) [] cpos) (dLM g to t):=⟨d_lm (slot:=slot) (hty:=hty) (hm:=hm) (ho:=ho.out) (ha:=ha.out) (hbase:=hbase) (hfew:=hfew) (hline:=hline) (hs:=hs) (hplain:=hplain)⟩
noncomputable def fB (f:Bool→Bool→D):D→D→Option D
  | .bl i,.bl j=>some (f i j)
  | _,_=>none
theorem fB_some {f:Bool→Bool→D} {x y z:D} (h:fB f x y=some z):∃ i j,x = .bl i∧y = .bl j∧z=f i j:=by
  cases x with
  | bl i =>
    cases y with
    | bl j=>exact ⟨i,j,rfl,rfl,(Option.some.inj h).symm⟩
    | _=>cases h
  | _=>cases h
theorem o_neB:DOp X (compareOp .NotEq) (gF (fB fun i j=>.bl (!(i == j)))):=OpR.imp op_ne (by
  rintro x y H Q ⟨dx,dy,M,R,hx,hy,am,⟨z,e,r⟩,f⟩
  obtain ⟨i,j,e1,e2,e3⟩:=fB_some e
  subst e1; subst e2; subst e3
  cases hx; cases hy
  exact ⟨rfl,by rw [dec_bl]; exact f _ M r _ H (KT.refl H) am (.bl _)⟩)
end
end DL

namespace DL
open PySem PySem.Spec L2
open PyProof.Rows hiding St

section
variable {X:Cx}

noncomputable def gTupL:DRC:=fun ds M R=>∃ x ys,ds=[x]∧itemsD M x=some ys∧R (.tup ys) M
theorem c_tupL:DCall X (.type "tuple") gTupL:=CallR.imp call_tuple_of (by
  rintro xs H Q ⟨ds,M,R,hl,am,⟨x,ys,z,e,r⟩,f⟩
  subst z
  obtain ⟨v,rfl,hv⟩:=hl.one
  obtain ⟨a,vs,rfl,s,l⟩:=itemsD_has am hv e
  exact ⟨a,vs,rfl,.inl ⟨s,fun p hp=>f _ M r _ _ (KT.alloc hp) (am.alloc hp) (.tup (SqT.of upd_same) (l.mono (KT.alloc hp)))⟩⟩)

end
end DL

namespace DL
open PySem PySem.Spec L2
open PyProof.Rows hiding St

section
variable {X:Cx} {st:Stmt} {rest:List Stmt} {t u:DTS}
noncomputable def dSeqM (t u:DTS):DTS:=fun F e M=>∃ P:Ev→Mem→Prop,t { F with nx:=P } e M∧∀ e' M',P e' M'→u F e' M'
theorem ds_consM (h1:DPS X st t) (h2:DPSs X rest u):DPSs X (st :: rest) (dSeqM t u) :=
  (pss_cons h1 h2).imp (by rintro E σ H ⟨e,M,F,ok,am,⟨P,t,hP⟩,f⟩; exact ⟨e,M,{ F with nx:=P },ok,am,t,⟨fun e' M' h σ' H' k a o=>⟨e',M',F,o,a,hP e' M' h,f.mono k⟩,f.rt,f.bk,f.ct⟩⟩)
theorem jds_consM (h1:JS X st t) (h2:JSs X rest u):JSs X (st :: rest) (dSeqM t u):=⟨ds_consM (h1:=h1.out) (h2:=h2.out)⟩
end
section
variable {X:Cx}
end
structure GlD (K:PySem.W.Frag) (mg:Str→Option Value) (x:Str) (d:D):Prop where
  ex:∃ (v:V) (u:Value),mg x=some u∧RelV v u∧HasK K v d
theorem d_globD {X:Cx} {x:Str} {d:D} {pos:Pos} (hg:Gl X x) (g:GlD X.K X.mg x d) (hd:(x == ("__debug__" : Str))=false:=by decide):DPE X (.Name x pos) (dC d):=by
  obtain ⟨v,u,h1,h2,h3⟩:=g.ex
  exact d_glob hg h1 h2 h3 hd
theorem jd_globD {X:Cx} {x:Str} {d:D} {pos:Pos} (hg:Gl X x) (g:GlD X.K X.mg x d) (hd:(x == ("__debug__" : Str))=false:=by decide):JE X (.Name x pos) (dC d):=⟨d_globD (hg:=hg) (g:=g) (hd:=hd)⟩
theorem gl_pair {K:PySem.W.Frag} {mg:Str→Option Value} {h:Heap} {x:Str} {a:Addr} {od:Option Addr} {osl:Array (Option Value)} {i j:Int} {t u:Tok} {cap:Nat} (X:K.In h) (G:h.Ns mainGlobals mg)
    (n:PySem.W.nsIn K mainGlobals x=some (some (.ref a))) (l:K.lookup a=some ⟨.type "tuple",od,.seq #[.int i t,.int j u] cap,osl⟩):GlD K mg x (.tup [.int i,.int j]) :=
  ⟨.ref a,.ref a,PySem.W.mg_of X G n,rfl,fun H=>.tup (xs:=[.int i,.int j]) (.inr ⟨_,_,_,l,rfl,rfl,(show 2≤sizeLine by decide),.cons (show RelV (.int i) (.int i t) from ⟨t,rfl⟩) (.cons (show RelV (.int j) (.int j u) from ⟨u,rfl⟩) .nil)⟩) (.cons (.int i) (.cons (.int j) .nil))⟩
noncomputable def fS (f:Str→Str→D):D→D→Option D
  | .str i,.str j=>some (f i j)
  | _,_=>none
theorem fS_some {f:Str→Str→D} {x y z:D} (h:fS f x y=some z):∃ i j,x = .str i∧y = .str j∧z=f i j:=by
  cases x with
  | str i =>
    cases y with
    | str j=>exact ⟨i,j,rfl,rfl,(Option.some.inj h).symm⟩
    | _=>cases h
  | _=>cases h
section
variable {X:Cx}
theorem o_eqS:DOp X (compareOp .Eq) (gF (fS fun i j=>.bl (decide (i=j)))):=OpR.imp op_eq (by
  rintro x y H Q ⟨dx,dy,M,R,hx,hy,am,⟨z,e,r⟩,f⟩
  obtain ⟨i,j,e1,e2,e3⟩:=fS_some e
  subst e1; subst e2; subst e3
  cases hx; cases hy
  refine ⟨rfl,?_⟩
  have e:decide (V.str i=V.str j)=decide (i=j):=by simp
  rw [e]
  exact f _ M r _ H (KT.refl H) am (.bl _))
theorem o_neS:DOp X (compareOp .NotEq) (gF (fS fun i j=>.bl (!decide (i=j)))):=OpR.imp op_ne (by
  rintro x y H Q ⟨dx,dy,M,R,hx,hy,am,⟨z,e,r⟩,f⟩
  obtain ⟨i,j,e1,e2,e3⟩:=fS_some e
  subst e1; subst e2; subst e3
  cases hx; cases hy
  refine ⟨rfl,?_⟩
  have e:decide (V.str i=V.str j)=decide (i=j):=by simp
  rw [e]
  exact f _ M r _ H (KT.refl H) am (.bl _))
end
end DL

namespace DL
open PySem PySem.Spec L2
open PyProof.Rows hiding St

structure Walk (K:PySem.W.Frag) (H1:Hp) (J:It) (ds:List D) (stay:Mem→Prop):Prop where
  go:∀ i H' M',i<ds.length→KT H1 H'→AbsM K H' M'→stay M'→J.go i H'
  yld:∀ i H' M' x H'',i<ds.length→KT H1 H'→AbsM K H' M'→stay M'→J.yld i H' x H''→∃ d,ds[i]? = some d∧KT H' H''∧AbsM K H'' M'∧Has K H'' x d
  stop:∀ i H' M',ds.length≤i→KT H1 H'→AbsM K H' M'→stay M'→J.stop i H'
  up:∀ M' p o,stay M'→M' p=none→stay (updM M' p o)
noncomputable def upI (K:PySem.W.Frag) (ti:DTI):TI:=fun σ H R=>∃ e M R',EnvOk K H σ e∧AbsM K H M∧ti e M R'∧∀ ds stay M1,R' ds stay M1→∀ H1,KT H H1→AbsM K H1 M1→∀ J,Walk K H1 J ds stay→R J H1
noncomputable def DPI (X:Cx) (tg iter:Expr) (ti:DTI):Prop:=PI X tg iter (upI X.K ti)
structure JI (X:Cx) (tg iter:Expr) (ti:DTI):Prop where
  out:DPI X tg iter ti
theorem PI.imp {X:Cx} {tg iter:Expr} {wi wi':TI} (h:PI X tg iter wi) (i:∀ σ H R,wi' σ H R→wi σ H R):PI X tg iter wi':=fun pins s σ H R I q=>h pins s σ H R I (i σ H R q)
section
variable {X:Cx} {tg iter:Expr} {ti:DTE} {ta:DTA}
theorem walk_tup {K:PySem.W.Frag} {H1:Hp} {a:Addr} {xs:List V} {ds:List D} (s:SqT K H1 a xs) (l:HasL K H1 xs ds):Walk K H1 (Itt K a) ds (fun _=>True) where
  go:=fun i H' M' hi k _ _=>⟨xs,_,k.sq s,List.getElem?_eq_getElem (by rw [l.length]; exact hi)⟩
  yld:=fun i H' M' x H'' hi k am _ zz=>by
    obtain ⟨e,y⟩:=zz
    subst e
    obtain ⟨d,hd,r⟩:=l.getV (y xs (k.sq s))
    exact ⟨d,hd,KT.refl _,am,r.mono k⟩
  stop:=fun i H' M' hi k _ _=>⟨xs,k.sq s,by rw [l.length]; exact hi⟩
  up:=fun _ _ _ _ _=>trivial
theorem walk_lst {K:PySem.W.Frag} {H1:Hp} {p:Addr} {ds:List D}:Walk K H1 (Itl K p) ds (fun M'=>M' p=some (.lst ds)) where
  go:=fun i H' M' hi k am st=>by
    obtain ⟨ys,hy,ly⟩:=am.lst st
    exact ⟨ys,_,SqL.of hy,List.getElem?_eq_getElem (by rw [ly.length]; exact hi)⟩
  yld:=fun i H' M' x H'' hi k am st zz=>by
    obtain ⟨e,y⟩:=zz
    subst e
    obtain ⟨ys,hy,ly⟩:=am.lst st
    obtain ⟨d,hd,r⟩:=ly.getV (y ys (SqL.of hy))
    exact ⟨d,hd,KT.refl _,am,r⟩
  stop:=fun i H' M' hi k am st=>by
    obtain ⟨ys,hy,ly⟩:=am.lst st
    exact ⟨ys,SqL.of hy,by rw [ly.length]; exact hi⟩
  up:=fun M' q o st hq=>by rw [updM_ne (by intro e; subst e; rw [hq] at st; cases st)]; exact st
theorem walk_rng {K:PySem.W.Frag} {H1:Hp} {lo:Int} {n:Nat}:Walk K H1 (Itr lo n) (rangeD lo n) (fun _=>True) where
  go:=fun i H' M' hi k am st=>by rw [rangeD_length] at hi; exact hi
  yld:=fun i H' M' x H'' hi k am st zz=>by
    obtain ⟨e,y⟩:=zz
    subst e; subst y
    rw [rangeD_length] at hi
    exact ⟨_,rangeD_get hi,KT.refl _,am,.int _⟩
  stop:=fun i H' M' hi k am st=>by rw [rangeD_length] at hi; exact hi
  up:=fun _ _ _ _ _=>trivial
theorem pd_rng {a:Expr} {p p2:Pos} (hr:Gl X "range") (hm:X.mg "range" = none) (ha:DPA X [a] ta) (hs0:starEach [a] X.env=[(false,eval a X.env)]:=by rfl):DPI X tg (.Call (.Name "range" p) [a] [] p2) (diRng ta) :=
  PI.imp (pi_range1 hr hm ha hs0) (by rintro σ H R ⟨e,M,R',ok,am,t,f⟩; exact ⟨e,M,_,ok,am,t,fun ds M1 ⟨j,z,b1,b2,r⟩ vs H1 k1 a1 r1=>by
    subst z
    obtain ⟨v,rfl,hv⟩:=r1.one
    cases hv
    exact ⟨j,rfl,b1,b2,f _ _ M1 r H1 k1 a1 _ walk_rng⟩⟩)
theorem jpd_rng {a:Expr} {p p2:Pos} (hr:Gl X "range") (hm:X.mg "range" = none) (ha:JA X [a] ta) (hs0:starEach [a] X.env=[(false,eval a X.env)]:=by rfl):JI X tg (.Call (.Name "range" p) [a] [] p2) (diRng ta):=⟨pd_rng (hr:=hr) (hm:=hm) (ha:=ha.out) (hs0:=hs0)⟩
theorem pd_rng2 {a b:Expr} {p p2:Pos} (hr:Gl X "range") (hm:X.mg "range" = none) (ha:DPA X [a,b] ta) (hs0:starEach [a,b] X.env=[(false,eval a X.env),(false,eval b X.env)]:=by rfl) (hs1:starEach [b] X.env=[(false,eval b X.env)]:=by rfl):DPI X tg (.Call (.Name "range" p) [a,b] [] p2) (diRng2 ta) :=
  PI.imp (pi_range2 hr hm ha hs0 hs1) (by rintro σ H R ⟨e,M,R',ok,am,t,f⟩; exact ⟨e,M,_,ok,am,t,fun ds M1 ⟨i,j,z,b1,r⟩ vs H1 k1 a1 r1=>by
    subst z
    cases r1 with
    | cons h1 r1 =>
      obtain ⟨v,rfl,hv⟩:=r1.one
      cases h1
      cases hv
      exact ⟨i,j,rfl,b1,f _ _ M1 r H1 k1 a1 _ walk_rng⟩⟩)
theorem jpd_rng2 {a b:Expr} {p p2:Pos} (hr:Gl X "range") (hm:X.mg "range" = none) (ha:JA X [a,b] ta) (hs0:starEach [a,b] X.env=[(false,eval a X.env),(false,eval b X.env)]:=by rfl) (hs1:starEach [b] X.env=[(false,eval b X.env)]:=by rfl):JI X tg (.Call (.Name "range" p) [a,b] [] p2) (diRng2 ta):=⟨pd_rng2 (hr:=hr) (hm:=hm) (ha:=ha.out) (hs0:=hs0) (hs1:=hs1)⟩

noncomputable def seqD (M:Mem) (x:D) (ds:List D):Prop:=x = .tup ds∨(∃ p,x = .ref p∧M p=some (.lst ds))∨x = .vl ds
noncomputable def kindD:D→Bool
  | .tup _=>false
  | _=>true
theorem seqD_has {K:PySem.W.Frag} {H:Hp} {M:Mem} {v:V} {x:D} {ds:List D} (h:seqD M x ds) (am:AbsM K H M) (r:Has K H v x):∃ a xs,v = .ref a∧SqK K (kindD x) H a xs∧HasL K H xs ds:=by
  rcases h with rfl | ⟨p,rfl,m⟩ | rfl
  rotate_left 2
  · obtain ⟨a,xs,e,sq,l⟩:=r.il
    exact ⟨a,xs,e,sq,l⟩
  · cases r with
    | tup s l=>exact ⟨_,_,rfl,s,l⟩
  · cases r
    obtain ⟨xs,hx,l⟩:=am.lst m
    exact ⟨p,xs,rfl,SqL.of hx,l⟩
theorem seqD_up {M:Mem} {x:D} {ds:List D} {q:Addr} {o:MO} (h:seqD M x ds) (hq:M q=none):seqD (updM M q o) x ds:=by
  rcases h with h | ⟨p,e,h⟩ | h
  · exact .inl h
  · exact .inr (.inl ⟨p,e,by rw [updM_ne (by intro e; subst e; rw [hq] at h; cases h)]; exact h⟩)
  · exact .inr (.inr h)
noncomputable def zipD (ds es:List D):List D:=List.zipWith (fun a b=>.tup [a,b]) ds es
theorem zipD_length (ds es:List D):(zipD ds es).length=min ds.length es.length:=by simp [zipD]
theorem zipD_get {ds es:List D} {i:Nat} {a b:D} (h1:ds[i]? = some a) (h2:es[i]? = some b):(zipD ds es)[i]? = some (.tup [a,b]):=by
  unfold zipD
  rw [List.getElem?_zipWith,h1,h2]
theorem walk_zip {K:PySem.W.Frag} {H1:Hp} {x y:D} {l1 l2:Addr} {ds es:List D} (h1:Has K H1 (.ref l1) x) (h2:Has K H1 (.ref l2) y) :
    Walk K H1 (Itz K (kindD x) (kindD y) l1 l2) (zipD ds es) (fun M'=>seqD M' x ds∧seqD M' y es) where
  go:=fun i H' M' hi k am zz=>by
    obtain ⟨s1,s2⟩:=zz
    rw [zipD_length] at hi
    obtain ⟨a,xs,e1,q1,m1⟩:=seqD_has s1 am (h1.mono k)
    obtain ⟨b,ys,e2,q2,m2⟩:=seqD_has s2 am (h2.mono k)
    cases e1; cases e2
    exact ⟨xs,ys,_,_,q1,q2,List.getElem?_eq_getElem (by rw [m1.length]; omega),List.getElem?_eq_getElem (by rw [m2.length]; omega)⟩
  yld:=fun i H' M' v H'' hi k am ⟨s1,s2⟩ ⟨T,a,b,hT,ev,eH,u1,u2⟩=>by
    subst ev; subst eH
    obtain ⟨a',xs,e1,q1,m1⟩:=seqD_has s1 am (h1.mono k)
    obtain ⟨b',ys,e2,q2,m2⟩:=seqD_has s2 am (h2.mono k)
    cases e1; cases e2
    obtain ⟨d1,g1,r1⟩:=m1.getV (u1 xs q1)
    obtain ⟨d2,g2,r2⟩:=m2.getV (u2 ys q2)
    have kt:KT H' (upd H' T (.tup [a,b])):=KT.alloc hT
    exact ⟨_,zipD_get g1 g2,kt,am.alloc hT,.tup (SqT.of upd_same) (.cons (r1.mono kt) (.cons (r2.mono kt) .nil))⟩
  stop:=fun i H' M' hi k am zz=>by
    obtain ⟨s1,s2⟩:=zz
    rw [zipD_length] at hi
    obtain ⟨a,xs,e1,q1,m1⟩:=seqD_has s1 am (h1.mono k)
    obtain ⟨b,ys,e2,q2,m2⟩:=seqD_has s2 am (h2.mono k)
    cases e1; cases e2
    refine ⟨xs,ys,q1,q2,?_⟩
    rw [m1.length,m2.length]
    omega
  up:=fun _ _ _ st hq=>⟨seqD_up st.1 hq,seqD_up st.2 hq⟩
noncomputable def diZip (ta:DTA):DTI:=fun e M R=>ta e M fun xs M1=>∃ x y ds es,xs=[x,y]∧seqD M1 x ds∧seqD M1 y es∧R (zipD ds es) (fun M'=>seqD M' x ds∧seqD M' y es) M1
theorem pd_zip {elts:List Expr} {kx:Nat} {tp:Pos} {a b:Expr} {p pos:Pos} (hg:Gl X "zip") (hm:X.mg "zip" = none) (ha:DPA X [a,b] ta)
    (hs:starEach [a,b] X.env=[(false,eval a X.env),(false,eval b X.env)]:=by rfl) (hs2:starEach [b] X.env=[(false,eval b X.env)]:=by rfl):DPI X (.Tuple elts kx tp) (.Call (.Name "zip" p) [a,b] [] pos) (diZip ta) :=
  PI.imp (pi_zip hg hm ha hs hs2) (by rintro σ H R ⟨e,M,R',ok,am,t,f⟩; exact ⟨e,M,_,ok,am,t,fun xs M1 ⟨x,y,ds,es,z,s1,s2,r⟩ vs H1 k1 a1 r1=>by
    subst z
    obtain ⟨v,v',rfl,hv,hv'⟩:=r1.two
    obtain ⟨a,zs,rfl,q1,m1⟩:=seqD_has s1 a1 hv
    obtain ⟨b,ws,rfl,q2,m2⟩:=seqD_has s2 a1 hv'
    exact ⟨_,_,a,b,rfl,⟨zs,q1⟩,⟨ws,q2⟩,f _ _ M1 r H1 k1 a1 _ (walk_zip hv hv')⟩⟩)
theorem jpd_zip {elts:List Expr} {kx:Nat} {tp:Pos} {a b:Expr} {p pos:Pos} (hg:Gl X "zip") (hm:X.mg "zip" = none) (ha:JA X [a,b] ta)
    (hs:starEach [a,b] X.env=[(false,eval a X.env),(false,eval b X.env)]:=by rfl) (hs2:starEach [b] X.env=[(false,eval b X.env)]:=by rfl):JI X (.Tuple elts kx tp) (.Call (.Name "zip" p) [a,b] [] pos) (diZip ta):=⟨pd_zip (hg:=hg) (hm:=hm) (ha:=ha.out) (hs:=hs) (hs2:=hs2)⟩
end

section
variable {X:Cx} {tg iter:Expr} {body:List Stmt} {ti:DTI} {g:DTG} {tb:DTS} {pos:Pos}
theorem ds_forI (hp:PassesOwn (model X.prog X.w) X.A X.env X.xe) (hc:X.calm=true) (hi:DPI X tg iter ti) (hg:DPG X tg g) (hb:DPSs X body tb)
    (hs:∀ x,foldedSetIterable iter X.env x=pure x:=by intro _; rfl):DPS X (.For tg iter body [] pos) (dFor ti g tb) :=
  (ps_for hp hc hi hg hb hs).imp (by rintro E σ H ⟨e,M,F,ok,am,t,f⟩; exact ⟨e,M,_,ok,am,t,fun ds stay M1 ⟨W,w0,hst,step,done⟩ H1 k1 a1 J wk=>by
    refine ⟨fun i m σ' H'=>m=ds.length - i∧i≤ds.length∧∃ e' M',KT H1 H'∧EnvOk X.K H' σ' e'∧AbsM X.K H' M'∧W i e' M',⟨ds.length,by simp,Nat.zero_le _,e,M1,KT.refl H1,ok.mono k1,a1,w0⟩,?_⟩
    rintro i m σ2 H2 ⟨rfl,hi,e2,M2,k2,ok2,a2,w2⟩
    have st:=hst i e2 M2 hi w2
    by_cases hlt:i<ds.length
    · refine .inr ⟨wk.go i H2 M2 hlt k2 a2 st,fun σ' H'=>∃ e' M',KT H1 H'∧EnvOk X.K H' σ' e'∧AbsM X.K H' M'∧W (i+1) e' M',fun σ' H' h=>⟨ds.length - (i+1),by omega,rfl,hlt,h⟩,fun y H' yl=>?_⟩
      obtain ⟨d,hd,k3,a3,r⟩:=wk.yld i H2 M2 y H' hlt k2 a2 st yl
      exact for_turn f k1 (k2.trans k3) (ok2.mono k3) a3 r (step i d e2 M2 hd w2)
    · have e':i=ds.length:=by omega
      subst e'
      exact .inl ⟨wk.stop _ H2 M2 (Nat.le_refl _) k2 a2 st,f.nx e2 M2 (done e2 M2 w2) σ2 H2 (k1.trans k2) a2 ok2⟩⟩)
theorem jds_forI (hp:PassesOwn (model X.prog X.w) X.A X.env X.xe) (hc:X.calm=true) (hi:JI X tg iter ti) (hg:JG X tg g) (hb:JSs X body tb)
    (hs:∀ x,foldedSetIterable iter X.env x=pure x:=by intro _; rfl):JS X (.For tg iter body [] pos) (dFor ti g tb):=⟨ds_forI (hp:=hp) (hc:=hc) (hi:=hi.out) (hg:=hg.out) (hb:=hb.out) (hs:=hs)⟩
end

noncomputable def capE (n:Nat) (caps:List Nat) (e:Ev):Ev:=List.replicate n none++caps.map fun i=>(e[i]?).getD none
theorem env_cap {K:PySem.W.Frag} {H:Hp} {σ:St} {e:Ev} (n:Nat) (caps:List Nat) (ok:EnvOk K H σ e):EnvOk K H (capF n caps σ) (capE n caps e):=by
  refine ⟨by simp [capF,capE],fun i d h=>?_⟩
  unfold capE at h
  unfold capF
  rw [List.getElem?_append] at h ⊢
  rw [List.length_replicate] at h ⊢
  by_cases hi:i<n
  · rw [if_pos hi] at h
    rw [List.getElem?_replicate] at h
    split at h <;> cases h
  · rw [if_neg hi] at h ⊢
    rw [List.getElem?_map] at h ⊢
    cases hj:caps[i - n]? with
    | none=>rw [hj] at h; cases h
    | some j =>
      rw [hj] at h
      have h':(e[j]?).getD none=some d:=by simpa using h
      have he:e[j]? = some (some d):=by
        cases q:e[j]? with
        | none=>rw [q] at h'; cases h'
        | some z => rw [q] at h'; have : z = some d := by simpa using h'
                    rw [this]
      obtain ⟨v,h1,h2⟩:=ok.has j d he
      exact ⟨v,by simp [h1],h2⟩
theorem all1 {p:Str→Prop} {a:Str} (h:p a):∀ x∈[a],p x:=fun x hx=>by
  simp only [List.mem_cons,List.not_mem_nil,or_false] at hx
  subst hx; exact h
theorem all2 {p:Str→Prop} {a b:Str} (h:p a) (h2:p b):∀ x∈[a,b],p x:=fun x hx=>by
  simp only [List.mem_cons,List.not_mem_nil,or_false] at hx
  rcases hx with rfl | rfl
  · exact h
  · exact h2
end DL

namespace DL
open PySem PySem.Spec L2
open PyProof.Rows hiding St

section
variable {X:Cx}
noncomputable def iSeq (K:PySem.W.Frag) (tl:TE):TI:=fun σ H R=>tl σ H fun x H1=>∃ (a:Addr) (k:Bool),x = .ref a∧(∃ xs,SqK K k H1 a xs)∧R (if k=true then Itl K a else Itt K a) H1
theorem pi_seq {tg l:Expr} {tl:TE} (hl:PE X l tl):PI X tg l (iSeq X.K tl):=by
  intro pins s σ H R I h
  refine thn (hl pins s σ H _ I h) fun v s1 zz=>?_
  obtain ⟨x,H1,I1,r1,q1⟩:=zz
  obtain ⟨a,k,e,⟨xs,hq⟩,q⟩:=q1
  subst e
  cases r1
  obtain ⟨its,rv,p⟩:=I1.sqk hq
  have nf:∀ b∈[s1.heap.objs.size],FpOk X pins H1 b:=fun b hb=>by
    have e:b=s1.heap.objs.size:=by simpa using hb
    subst e
    exact I1.fpOk (Nat.le_refl _) (I1.hok.fresh (Nat.le_refl _))
  cases k with
  | true=>exact wpAny_pyIter_list p ⟨s1.heap.objs.size,[s1.heap.objs.size],_,_,H1,rfl,I1.kept (t':=s1.toks) fun b o e=>Heap.get?_push_of_some _ e,turn_list a _,⟨_,Heap.get?_push_size _ rfl,rfl,rfl⟩,nf,q⟩
  | false=>exact wpAny_pyIter_tuple p ⟨s1.heap.objs.size,[s1.heap.objs.size],_,_,H1,rfl,I1.kept (t':=s1.toks) fun b o e=>Heap.get?_push_of_some _ e,turn_tuple a _,⟨_,Heap.get?_push_size _ rfl,rfl,rfl⟩,nf,q⟩
noncomputable def diSeq (ti:DTE):DTI:=fun e M R=>ti e M fun x M1=>∃ ds,seqD M1 x ds∧R ds (fun M'=>seqD M' x ds) M1
theorem pd_seq {tg iter:Expr} {ti:DTE} (hi:DPE X iter ti):DPI X tg iter (diSeq ti):=PI.imp (pi_seq hi) (by rintro σ H R ⟨e,M,R',ok,am,t,f⟩; exact ⟨e,M,_,ok,am,t,fun x M1 ⟨ds,sq,r⟩ v H1 k1 a1 r1=>by
  have sq':=sq
  rcases sq with rfl | ⟨p,rfl,hm⟩ | rfl
  rotate_left 2
  · obtain ⟨a,xs,rfl,sq,l⟩:=r1.il
    have wk:Walk X.K H1 (Itl X.K a) ds (fun M'=>seqD M' (.vl ds) ds):=⟨fun i H' M' hi k am _=>by
        obtain ⟨a',ys,e,sq',l'⟩:=(r1.mono k).il
        cases e
        exact ⟨ys,_,sq',List.getElem?_eq_getElem (by rw [l'.length]; exact hi)⟩,
      fun i H' M' x H'' hi k am _ zz=>by
        obtain ⟨e,y⟩:=zz
        subst e
        obtain ⟨a',ys,e,sq',l'⟩:=(r1.mono k).il
        cases e
        obtain ⟨d,hd,r⟩:=l'.getV (y ys sq')
        exact ⟨d,hd,KT.refl _,am,r⟩,
      fun i H' M' hi k am _=>by
        obtain ⟨a',ys,e,sq',l'⟩:=(r1.mono k).il
        cases e
        exact ⟨ys,sq',by rw [l'.length]; exact hi⟩,fun _ _ _ st hq=>seqD_up st hq⟩
    exact ⟨a,true,rfl,⟨xs,sq⟩,f ds _ M1 r H1 k1 a1 _ wk⟩
  · cases r1 with
    | tup s l =>
      refine ⟨_,false,rfl,⟨_,s⟩,f ds _ M1 r H1 k1 a1 _ ?_⟩
      have w:=walk_tup (K:=X.K) s l
      exact ⟨fun i H' M' a b c _=>w.go i H' M' a b c trivial,fun i H' M' y H2 a b c _ g=>w.yld i H' M' y H2 a b c trivial g,fun i H' M' a b c _=>w.stop i H' M' a b c trivial,fun _ _ _ st hq=>seqD_up st hq⟩
  · cases r1
    obtain ⟨xs,hx,l⟩:=a1.lst hm
    refine ⟨p,true,rfl,⟨xs,SqL.of hx⟩,f ds _ M1 r H1 k1 a1 _ ?_⟩
    have w:=walk_lst (K:=X.K) (H1:=H1) (p:=p) (ds:=ds)
    have cv:∀ {M':Mem},seqD M' (.ref p) ds→M' p=some (.lst ds):=fun z=>by
      rcases z with z | ⟨p',z,h⟩ | z
      · cases z
      · cases z; exact h
      · cases z
    exact ⟨fun i H' M' a b c z=>w.go i H' M' a b c (cv z),fun i H' M' y H2 a b c z g=>w.yld i H' M' y H2 a b c (cv z) g,fun i H' M' a b c z=>w.stop i H' M' a b c (cv z),fun _ _ _ st hq=>seqD_up st hq⟩⟩)
theorem jpd_seq {tg iter:Expr} {ti:DTE} (hi:JE X iter ti):JI X tg iter (diSeq ti):=⟨pd_seq (hi:=hi.out)⟩
end

theorem gl_ray {K:PySem.W.Frag} {mg:Str→Option Value} {h:Heap} {x:Str} {a b c:Addr} {od od1 od2:Option Addr} {osl osl1 osl2:Array (Option Value)} {i j k l:Int} {t1 t2 t3 t4:Tok} {cap cap1 cap2:Nat} (X:K.In h) (G:h.Ns mainGlobals mg)
    (n:PySem.W.nsIn K mainGlobals x=some (some (.ref a))) (l0:K.lookup a=some ⟨.type "tuple",od,.seq #[.ref b,.ref c] cap,osl⟩)
    (l1:K.lookup b=some ⟨.type "tuple",od1,.seq #[.int i t1,.int j t2] cap1,osl1⟩) (l2:K.lookup c=some ⟨.type "tuple",od2,.seq #[.int k t3,.int l t4] cap2,osl2⟩):GlD K mg x (.tup [.tup [.int i,.int j],.tup [.int k,.int l]]):=by
  have two:(2:Nat)≤sizeLine:=by decide
  have p1:∀ H:Hp,Has K H (.ref b) (.tup [.int i,.int j]):=fun H=>.tup (xs:=[.int i,.int j]) (.inr ⟨_,_,_,l1,rfl,rfl,two,.cons (show RelV (.int i) (.int i t1) from ⟨t1,rfl⟩) (.cons (show RelV (.int j) (.int j t2) from ⟨t2,rfl⟩) .nil)⟩) (.cons (.int i) (.cons (.int j) .nil))
  have p2:∀ H:Hp,Has K H (.ref c) (.tup [.int k,.int l]):=fun H=>.tup (xs:=[.int k,.int l]) (.inr ⟨_,_,_,l2,rfl,rfl,two,.cons (show RelV (.int k) (.int k t3) from ⟨t3,rfl⟩) (.cons (show RelV (.int l) (.int l t4) from ⟨t4,rfl⟩) .nil)⟩) (.cons (.int k) (.cons (.int l) .nil))
  exact ⟨.ref a,.ref a,PySem.W.mg_of X G n,rfl,fun H=>.tup (xs:=[.ref b,.ref c]) (.inr ⟨_,_,_,l0,rfl,rfl,two,.cons (show RelV (.ref b) (.ref b) from rfl) (.cons (show RelV (.ref c) (.ref c) from rfl) .nil)⟩) (.cons (p1 H) (.cons (p2 H) .nil))⟩
theorem gl_tab {K:PySem.W.Frag} {mg:Str→Option Value} {h:Heap} {x:Str} {a b c e g:Addr} {od od1 od2 od3 od4:Option Addr} {osl osl1 osl2 osl3 osl4:Array (Option Value)} {i j k l m n p q:Int} {t1 t2 t3 t4 t5 t6 t7 t8:Tok} {cap cap1 cap2 cap3 cap4:Nat} (X:K.In h) (G:h.Ns mainGlobals mg)
    (nn:PySem.W.nsIn K mainGlobals x=some (some (.ref a))) (l0:K.lookup a=some ⟨.type "tuple",od,.seq #[.ref b,.ref c,.ref e,.ref g] cap,osl⟩)
    (l1:K.lookup b=some ⟨.type "tuple",od1,.seq #[.int i t1,.int j t2] cap1,osl1⟩) (l2:K.lookup c=some ⟨.type "tuple",od2,.seq #[.int k t3,.int l t4] cap2,osl2⟩)
    (l3:K.lookup e=some ⟨.type "tuple",od3,.seq #[.int m t5,.int n t6] cap3,osl3⟩) (l4:K.lookup g=some ⟨.type "tuple",od4,.seq #[.int p t7,.int q t8] cap4,osl4⟩):GlD K mg x (.tup [.tup [.int i,.int j],.tup [.int k,.int l],.tup [.int m,.int n],.tup [.int p,.int q]]):=by
  have two:(2:Nat)≤sizeLine:=by decide
  have four:(4:Nat)≤sizeLine:=by decide
  have one:∀ {a:Addr} {i j:Int} {t1 t2:Tok} {od:Option Addr} {osl:Array (Option Value)} {cap:Nat},K.lookup a=some ⟨.type "tuple",od,.seq #[.int i t1,.int j t2] cap,osl⟩→∀ H:Hp,Has K H (.ref a) (.tup [.int i,.int j]):=fun {a i j t1 t2 od osl cap} l1 H=>.tup (xs:=[.int i,.int j]) (.inr ⟨_,_,_,l1,rfl,rfl,two,.cons (show RelV (.int i) (.int i t1) from ⟨t1,rfl⟩) (.cons (show RelV (.int j) (.int j t2) from ⟨t2,rfl⟩) .nil)⟩) (.cons (.int i) (.cons (.int j) .nil))
  exact ⟨.ref a,.ref a,PySem.W.mg_of X G nn,rfl,fun H=>.tup (xs:=[.ref b,.ref c,.ref e,.ref g]) (.inr ⟨_,_,_,l0,rfl,rfl,four,.cons (show RelV (.ref b) (.ref b) from rfl) (.cons (show RelV (.ref c) (.ref c) from rfl) (.cons (show RelV (.ref e) (.ref e) from rfl) (.cons (show RelV (.ref g) (.ref g) from rfl) .nil)))⟩) (.cons (one l1 H) (.cons (one l2 H) (.cons (one l3 H) (.cons (one l4 H) .nil))))⟩
theorem lenD_lst {M:Mem} {p:Addr} {ds:List D} (h:M p=some (.lst ds)):lenD M (.ref p)=some ds.length:=by
  unfold lenD; simp only [h]
theorem atI_mem {ds:List D} {r:Int} (h0:0≤r) (h1:r<ds.length):∃ d,atI ds r=some d∧d∈ds:=by
  unfold atI ixN
  rw [if_pos h0,if_pos h1]
  have hl:r.toNat<ds.length:=by omega
  exact ⟨ds[r.toNat],by simp [hl],List.getElem_mem hl⟩
section
variable {X:Cx}
noncomputable def gListOf:DRC:=fun ds M R=>∃ x ys,ds=[x]∧seqD M x ys∧∀ p,M p=none→R (.ref p) (updM M p (.lst ys))
theorem c_listOf:DCall X (.type "list") gListOf:=CallR.imp call_list_of (by
  rintro xs H Q ⟨ds,M,R,hl,am,⟨x,ys,z,e,r⟩,f⟩
  subst z
  obtain ⟨v,rfl,hv⟩:=hl.one
  rcases e with rfl | ⟨p,rfl,hm⟩ | rfl
  rotate_left 2
  · obtain ⟨a,xs,rfl,sq,l⟩:=hv.il
    exact ⟨a,xs,rfl,.inl sq,fun p hp=>f _ _ (r p (am.fresh hp)) _ _ (KT.alloc hp) (am.new hp l) (.ref p)⟩
  · cases hv with
    | tup s l=>exact ⟨_,_,rfl,.inr s,fun p hp=>f _ _ (r p (am.fresh hp)) _ _ (KT.alloc hp) (am.new hp l) (.ref p)⟩
  · cases hv
    obtain ⟨zs,hx,l⟩:=am.lst hm
    exact ⟨p,zs,rfl,.inl (SqL.of hx),fun q hq=>f _ _ (r q (am.fresh hq)) _ _ (KT.alloc hq) (am.new hq l) (.ref q)⟩)
end
section
variable {X:Cx}
noncomputable def gAppend:DRM:=fun x xs M R=>∃ l ds v,x = .ref l∧xs=[v]∧M l=some (.lst ds)∧ds.length<sizeLine∧R .non (updM M l (.lst (ds++[v])))
theorem dm_append:DMt X "list.append" gAppend:=MtR.imp (r:=rAppend) mt_append (by
  rintro x xs H Q ⟨dx,ds,M,R,hx,hl,am,⟨l,es,v,e1,e2,hM,hz,r⟩,f⟩
  subst e1; subst e2
  cases hx
  obtain ⟨w,rfl,hw⟩:=hl.one
  obtain ⟨ys,hy,ly⟩:=am.lst hM
  exact ⟨l,ys,w,rfl,rfl,hy,by rw [ly.length]; exact hz,f _ _ r _ _ (KT.write hy) (am.write hy (ly.append (.cons hw .nil))) .non⟩)
noncomputable def gExtend:DRM:=fun x xs M R=>∃ l b ds es,x = .ref l∧xs=[.ref b]∧M l=some (.lst ds)∧M b=some (.lst es)∧ds.length+es.length≤sizeLine∧R .non (updM M l (.lst (ds++es)))
theorem dm_extend:DMt X "list.extend" gExtend:=MtR.imp (r:=rExtend) mt_extend (by
  rintro x xs H Q ⟨dx,ds,M,R,hx,hl,am,⟨l,b,es,vs,e1,e2,hM,hB,hz,r⟩,f⟩
  subst e1; subst e2
  cases hx
  obtain ⟨w,rfl,hw⟩:=hl.one
  cases hw
  obtain ⟨ys,hy,ly⟩:=am.lst hM
  obtain ⟨zs,hz',lz⟩:=am.lst hB
  exact ⟨l,b,ys,zs,rfl,rfl,hy,hz',by rw [ly.length,lz.length]; exact hz,f _ _ r _ _ (KT.write hy) (am.write hy (ly.append lz)) .non⟩)
end
end DL

namespace DL
open PySem PySem.Spec L2
open PyProof.Rows hiding St
section
variable {X:Cx}
end
end DL

namespace DL
open PySem PySem.Spec L2
open PyProof.Rows hiding St

noncomputable abbrev DTO:=Ev→Mem→(Option Int→Mem→Prop)→Prop
noncomputable def upO (K:PySem.W.Frag) (t:DTO):TO:=fun σ H Q=>∃ e M R,EnvOk K H σ e∧AbsM K H M∧t e M R∧∀ o M',R o M'→∀ H',KT H H'→AbsM K H' M'→Q o H'
noncomputable def DPO (X:Cx) (e:Option Expr) (t:DTO):Prop:=PO X e (upO X.K t)
structure JO (X:Cx) (e:Option Expr) (t:DTO):Prop where
  out:DPO X e t
noncomputable def dNoPart:DTO:=fun _ M R=>R none M
noncomputable def dPart (t:DTE):DTO:=fun e M R=>t e M fun x M1=>∃ i,x = .int i∧R (some i) M1
theorem PO.imp {X:Cx} {e:Option Expr} {t t':TO} (h:PO X e t) (i:∀ σ H Q,t' σ H Q→t σ H Q):PO X e t':=fun pins s σ H Q I q=>h pins s σ H Q I (i σ H Q q)
section
variable {X:Cx} {e:Expr} {te:DTE} {lo hi:Option Expr} {tl th:DTO} {pos p2:Pos}
theorem dpo_none:DPO X none dNoPart:=PO.imp po_none (by rintro σ H Q ⟨e,M,R,ok,am,t,f⟩; exact f none M t H (KT.refl H) am)
theorem jdpo_none  : JO X none dNoPart:=⟨dpo_none ⟩
theorem dpo_some (h:DPE X e te):DPO X (some e) (dPart te):=PO.imp (po_some h) (by rintro σ H Q ⟨e,M,R,ok,am,t,f⟩; exact ⟨e,M,_,ok,am,t,fun x M1 ⟨i,z,r⟩ v H1 k1 a1 r1=>by
  subst z; cases r1
  exact ⟨i,rfl,f (some i) M1 r H1 k1 a1⟩⟩)
theorem jdpo_some (h:JE X e te):JO X (some e) (dPart te):=⟨dpo_some (h:=h.out)⟩
noncomputable def cutD (ds:List D) (lo hi:Option Int):List D:=(ds.drop (HT.sIx ds.length 0 lo)).take (HT.sIx ds.length ds.length hi - HT.sIx ds.length 0 lo)
theorem HasL.cut {K:PySem.W.Frag} {H:Hp} {xs:List V} {ds:List D} (h:HasL K H xs ds) (lo hi:Option Int):HasL K H (cutV xs lo hi) (cutD ds lo hi):=by
  unfold cutV cutD
  rw [h.length]
  exact (h.drop _).take _
end
end DL

namespace DL
open PySem PySem.Spec L2
open PyProof.Rows hiding St

noncomputable def enumD (ds:List D):List D:=ds.mapIdx fun i d=>.tup [.int i,d]
theorem enumD_length (ds:List D):(enumD ds).length=ds.length:=by simp [enumD]
theorem enumD_get {ds:List D} {i:Nat} {d:D} (h:ds[i]? = some d):(enumD ds)[i]? = some (.tup [.int i,d]):=by
  unfold enumD
  rw [List.getElem?_mapIdx,h]; rfl
theorem walk_enum {K:PySem.W.Frag} {H1:Hp} {x:D} {l:Addr} {ds:List D} (h1:Has K H1 (.ref l) x):Walk K H1 (Ite K (kindD x) l) (enumD ds) (fun M'=>seqD M' x ds) where
  go:=fun i H' M' hi k am s1=>by
    rw [enumD_length] at hi
    obtain ⟨a,xs,e1,q1,m1⟩:=seqD_has s1 am (h1.mono k)
    cases e1
    exact ⟨xs,_,q1,List.getElem?_eq_getElem (by rw [m1.length]; omega)⟩
  yld:=fun i H' M' v H'' hi k am s1 zz=>by
    obtain ⟨T,a,hT,ev,eH,u1⟩:=zz
    subst ev; subst eH
    obtain ⟨a',xs,e1,q1,m1⟩:=seqD_has s1 am (h1.mono k)
    cases e1
    obtain ⟨d1,g1,r1⟩:=m1.getV (u1 xs q1)
    have kt:KT H' (upd H' T (.tup [.int i,a])):=KT.alloc hT
    exact ⟨_,enumD_get g1,kt,am.alloc hT,.tup (SqT.of upd_same) (.cons (.int _) (.cons (r1.mono kt) .nil))⟩
  stop:=fun i H' M' hi k am s1=>by
    rw [enumD_length] at hi
    obtain ⟨a,xs,e1,q1,m1⟩:=seqD_has s1 am (h1.mono k)
    cases e1
    exact ⟨xs,q1,by rw [m1.length]; exact hi⟩
  up:=fun _ _ _ st hq=>seqD_up st hq
section
variable {X:Cx} {ta:DTA}
noncomputable def diEnum (ta:DTA):DTI:=fun e M R=>ta e M fun xs M1=>∃ x ds,xs=[x]∧seqD M1 x ds∧R (enumD ds) (fun M'=>seqD M' x ds) M1
theorem pd_enum {elts:List Expr} {kx:Nat} {tp:Pos} {a:Expr} {p pos:Pos} (hg:Gl X "enumerate") (hm:X.mg "enumerate" = none) (ha:DPA X [a] ta) (hs:starEach [a] X.env=[(false,eval a X.env)]:=by rfl) :
    DPI X (.Tuple elts kx tp) (.Call (.Name "enumerate" p) [a] [] pos) (diEnum ta) :=
  PI.imp (pi_enum hg hm ha hs) (by rintro σ H R ⟨e,M,R',ok,am,t,f⟩; exact ⟨e,M,_,ok,am,t,fun xs M1 ⟨x,ds,z,s1,r⟩ vs H1 k1 a1 r1=>by
    subst z
    obtain ⟨v,rfl,hv⟩:=r1.one
    obtain ⟨a,zs,rfl,q1,m1⟩:=seqD_has s1 a1 hv
    exact ⟨_,a,rfl,⟨zs,q1⟩,f _ _ M1 r H1 k1 a1 _ (walk_enum hv)⟩⟩)
theorem jpd_enum {elts:List Expr} {kx:Nat} {tp:Pos} {a:Expr} {p pos:Pos} (hg:Gl X "enumerate") (hm:X.mg "enumerate" = none) (ha:JA X [a] ta) (hs:starEach [a] X.env=[(false,eval a X.env)]:=by rfl):JI X (.Tuple elts kx tp) (.Call (.Name "enumerate" p) [a] [] pos) (diEnum ta):=⟨pd_enum (hg:=hg) (hm:=hm) (ha:=ha.out) (hs:=hs)⟩
end
end DL

namespace DL
open PySem PySem.Spec L2
open PyProof.Rows hiding St

noncomputable def delM (M:Mem) (a:Addr):Mem:=fun b=>if b=a then none else M b
theorem delM_ne {M:Mem} {a b:Addr} (h:b≠a):delM M a b=M b:=by unfold delM; rw [if_neg h]
theorem delM_upd {M:Mem} {a:Addr} {o:MO} (h:M a=none):delM (updM M a o) a=M:=by
  funext b; unfold delM updM; by_cases e:b=a
  · rw [if_pos e,e,h]
  · rw [if_neg e,if_neg e]
section
variable {K:PySem.W.Frag} {H:Hp} {M:Mem} {p:Addr}
theorem AbsM.at {o:HO} (h:AbsM K H M) (k:KT0 H (upd H p o)) (hp:M p=none):AbsM K (upd H p o) M:=fun a u m=>by
  cases u with
  | lst ds =>
    obtain ⟨xs,z,l⟩:=h a _ m
    have hn:a≠p:=by intro e; subst e; rw [hp] at m; cases m
    exact ⟨xs,by rw [upd_ne hn]; exact z,l.mono0 k⟩
theorem AbsM.del (h:AbsM K H M):AbsM K H (delM M p):=fun a u m=>by
  by_cases e:a=p
  · subst e; unfold delM at m; rw [if_pos rfl] at m; cases m
  · rw [delM_ne e] at m; exact h a u m
theorem delM_same:delM M p p=none:=by unfold delM; rw [if_pos rfl]
theorem AbsM.none_ext {φ:Heap→Prop} (h:AbsM K H M) (e:H p=some (.ext φ)):M p=none:=by
  cases q:M p with
  | none=>rfl
  | some o =>
    cases o with
    | lst ds=>obtain ⟨xs,z,_⟩:=h p _ q; rw [e] at z; cases z
end
section
variable {X:Cx} {x:Expr} {t:DTE} {es:List Expr} {tr:DTA} {pos:Pos}
noncomputable def dFrz (t:DTE):DTE:=fun e M R=>t e M fun x M1=>∃ p ds,x = .ref p∧M1 p=some (.lst ds)∧R (.vl ds) (delM M1 p)
theorem d_frz (h:DPE X x t):DPE X x (dFrz t):=(pe_frz h).imp (by rintro σ H Q ⟨e,M,R,ok,am,t,f⟩; exact ⟨e,M,_,ok,am,t,fun d M1 ⟨p,ds,z,hm,r⟩ v H1 k1 a1 r1=>by
  subst z
  cases r1
  obtain ⟨xs,hx,lx⟩:=a1.lst hm
  exact ⟨p,xs,rfl,hx,fun o=>f _ _ r _ _ (k1.trans (KT.any hx)) (a1.del.at (KT.any hx).toKT0 delM_same) (.vl (.inl ⟨o,upd_same⟩) (lx.mono (KT.any hx)))⟩⟩)
theorem jd_frz (h:JE X x t):JE X x (dFrz t):=⟨d_frz (h:=h.out)⟩
noncomputable def dFgt (t:DTE):DTE:=fun e M R=>t e M fun x M1=>∃ M2:Mem,(∀ b o,M2 b=some o→M1 b=some o)∧R x M2
theorem d_fgt (h:DPE X x t):DPE X x (dFgt t):=PE.imp h (by rintro σ H Q ⟨e,M,R,ok,am,t,f⟩; exact ⟨e,M,_,ok,am,t,fun d M1 ⟨M2,hs,r⟩ v H1 k1 a1 r1=>f d M2 r v H1 k1 (fun a o q=>a1 a o (hs a o q)) r1⟩)
theorem jd_fgt (h:JE X x t):JE X x (dFgt t):=⟨d_fgt (h:=h.out)⟩
noncomputable def dLstV (t:DTA):DTE:=fun e M R=>t e M fun ds M1=>ds.length≤sizeLine∧R (.vl ds) M1
theorem frz_new {K:PySem.W.Frag} {H0 H:Hp} {M:Mem} {R:DK} {Q:VK} {vs:List V} {ds:List D} (f:FitV K H0 R Q) (k:KT H0 H) (am:AbsM K H M) (l:HasL K H vs ds) (r:R (.vl ds) M) (p:Addr) (hp:H p=none) :
    ∃ q xs,V.ref p = .ref q∧upd H p (.lst vs) q=some (.lst xs)∧∀ o,Q (.ref p) (upd (upd H p (.lst vs)) q (.frz o (.lst xs))) :=
  ⟨p,vs,rfl,upd_same,fun o=>by
    rw [upd_upd]
    exact f _ M r _ _ (k.trans (KT.alloc hp)) (am.alloc hp) (.vl (.inl ⟨o,upd_same⟩) (l.mono (KT.alloc hp)))⟩
theorem d_lstV (h:DPA X es tr):DPE X (.List es pos) (dLstV tr) :=
  (pe_frz (pe_lst h)).imp (by rintro σ H Q ⟨e,M,R,ok,am,t,f⟩; exact ⟨e,M,_,ok,am,t,fun ds M1 ⟨hz,h1⟩ vs H1 k1 a1 r1=>⟨by rw [r1.length]; exact hz,fun p hp=>frz_new f k1 a1 r1 h1 p hp⟩⟩)
theorem jd_lstV (h:JA X es tr):JE X (.List es pos) (dLstV tr):=⟨d_lstV (h:=h.out)⟩

noncomputable def gCatV (x y:D) (M:Mem) (R:DK):Prop:=∃ xs ys,itemsD M x=some xs∧itemsD M y=some ys∧xs.length+ys.length≤sizeLine∧R (.vl (xs++ys)) M
noncomputable def dCatV (ta tb:DTE):DTE:=fun e M R=>ta e M fun x M1=>tb e M1 fun y M2=>gCatV x y M2 R
theorem d_catV {a b:Expr} {ta tb:DTE} (ha:DPE X a ta) (hb:DPE X b tb):DPE X (.BinOp a .Add b pos) (dCatV ta tb) :=
  (pe_frz (pe_op op_catS ha hb)).imp (by rintro σ H Q ⟨e,M,R,ok,am,t,f⟩; exact ⟨e,M,_,ok,am,t,fun x M1 h1 v H1 k1 a1 r1=>⟨e,M1,_,ok.mono k1,a1,h1,fun y M2 ⟨xs,ys,e1,e2,hz,r⟩ u H2 k2 a2 r2=>by
    obtain ⟨a,vs,rfl,s1,l1⟩:=itemsD_has a2 (r1.mono k2) e1
    obtain ⟨b,ws,rfl,s2,l2⟩:=itemsD_has a2 r2 e2
    exact ⟨a,b,vs,ws,rfl,rfl,s1,s2,by rw [l1.length,l2.length]; exact hz,fun p hp=>frz_new f (k1.trans k2) a2 (l1.append l2) r p hp⟩⟩⟩)
theorem jd_catV {a b:Expr} {ta tb:DTE} (ha:JE X a ta) (hb:JE X b tb):JE X (.BinOp a .Add b pos) (dCatV ta tb):=⟨d_catV (ha:=ha.out) (hb:=hb.out)⟩

noncomputable def gSlV (x:D) (lo hi:Option Int) (M:Mem) (R:DK):Prop:=(∃ ds,itemsD M x=some ds∧R (.vl (cutD ds lo hi)) M) ∨ ∃ ds,x = .tup ds∧¬ (HT.sIx ds.length 0 lo=0∧HT.sIx ds.length ds.length hi=ds.length)∧R (.tup (cutD ds lo hi)) M
noncomputable def dSlV (te:DTE) (tl th:DTO):DTE:=fun e M R=>te e M fun x M1=>tl e M1 fun l M2=>th e M2 fun u M3=>gSlV x l u M3 R
theorem d_sliceV {e:Expr} {te:DTE} {lo hi:Option Expr} {tl th:DTO} {p2:Pos} (he:DPE X e te) (hl:DPO X lo tl) (hu:DPO X hi th):DPE X (.Subscript e (.Slice lo hi none p2) pos) (dSlV te tl th) :=
  (pe_frzM (pe_slice (SlR.or sl_list sl_tup) he hl hu)).imp (by rintro σ H Q ⟨e,M,R,ok,am,t,f⟩; exact ⟨e,M,_,ok,am,t,fun x M1 h1 v H1 k1 a1 r1=>⟨e,M1,_,ok.mono k1,a1,h1,fun l M2 h2 H2 k2 a2=>⟨e,M2,_,(ok.mono k1).mono k2,a2,h2,fun u M3 h3 H3 k3 a3=>by
    rcases h3 with ⟨ds,hi,r⟩ | ⟨ds,rfl,hw,r⟩
    · obtain ⟨a,xs,rfl,sq,lx⟩:=itemsD_has a3 ((r1.mono k2).mono k3) hi
      exact .inl ⟨a,xs,rfl,sq,fun p hp=>.inl (frz_new f (k1.trans (k2.trans k3)) a3 (lx.cut l u) r p hp)⟩
    · cases (r1.mono k2).mono k3 with
      | tup sq lx =>
        exact .inr ⟨_,_,rfl,sq,by rw [lx.length]; exact hw,fun p hp=>.inr (f _ M3 r _ _ ((k1.trans (k2.trans k3)).trans (KT.alloc hp)) (a3.alloc hp) (.tup (SqT.of upd_same) ((lx.cut l u).mono (KT.alloc hp))))⟩⟩⟩⟩)
theorem jd_sliceV {e:Expr} {te:DTE} {lo hi:Option Expr} {tl th:DTO} {p2:Pos} (he:JE X e te) (hl:JO X lo tl) (hu:JO X hi th):JE X (.Subscript e (.Slice lo hi none p2) pos) (dSlV te tl th):=⟨d_sliceV (he:=he.out) (hl:=hl.out) (hu:=hu.out)⟩

theorem HasL.rev {K:PySem.W.Frag} {H:Hp}:∀ {xs:List V} {ds:List D},HasL K H xs ds→HasL K H xs.reverse ds.reverse
  | _,_,.nil=>.nil
  | _,_,.cons h t=>by rw [List.reverse_cons,List.reverse_cons]; exact (HasL.rev t).append (.cons h .nil)
noncomputable def gListV (ds:List D) (M:Mem) (R:DK):Prop:=∃ x ys,ds=[x]∧seqD M x ys∧R (.vl ys) M
noncomputable def dListV (t:DTA):DTE:=fun e M R=>t e M fun ds M1=>gListV ds M1 R
end
section
variable {X:Cx} {e:Expr} {es:List Expr} {t:DTA} {x:Str} {p pos:Pos}
theorem d_listV (hg:Gl X x) (hm:X.mg x=none) (hv:bootBuiltins x=some (.type "list")) (ha:DPA X (e :: es) t)
    (hn:x ≠ "__name__" := by decide) (hdb:(x == ("__debug__" : Str))=false:=by decide) (he:starEach (e :: es) X.env=(false,eval e X.env) :: starEach es X.env:=by rfl) (hpl:(backTo pos (starEach es X.env)).any (·.1)=false:=by rfl):DPE X (.Call (.Name x p) (e :: es) [] pos) (dListV t) :=
  (pe_frz (pe_callTy call_list_of hg hm hv ha hn hdb he hpl)).imp (by rintro σ H Q ⟨e,M,R,ok,am,t,f⟩; exact ⟨e,M,_,ok,am,t,fun ds M1 ⟨d,ys,z,sq,r⟩ vs H1 k1 a1 r1=>by
    subst z
    obtain ⟨v,rfl,hv⟩:=r1.one
    obtain ⟨a,xs,rfl,q1,m1⟩:=seqD_has sq a1 hv
    refine ⟨a,xs,rfl,?_,fun p hp=>frz_new f k1 a1 m1 r p hp⟩
    cases hk:kindD d with
    | true=>rw [hk] at q1; exact .inl q1
    | false=>rw [hk] at q1; exact .inr q1⟩)
theorem jd_listV (hg:Gl X x) (hm:X.mg x=none) (hv:bootBuiltins x=some (.type "list")) (ha:JA X (e :: es) t)
    (hn:x ≠ "__name__" := by decide) (hdb:(x == ("__debug__" : Str))=false:=by decide) (he:starEach (e :: es) X.env=(false,eval e X.env) :: starEach es X.env:=by rfl) (hpl:(backTo pos (starEach es X.env)).any (·.1)=false:=by rfl):JE X (.Call (.Name x p) (e :: es) [] pos) (dListV t):=⟨d_listV (hg:=hg) (hm:=hm) (hv:=hv) (ha:=ha.out) (hn:=hn) (hdb:=hdb) (he:=he) (hpl:=hpl)⟩
variable {te:DTE} {pos':Pos}
end
section
variable {X:Cx}

noncomputable def gInsert:DRM:=fun x xs M R=>∃ l ds v,∃ k:Nat,x = .ref l∧xs=[.int (k:Int),v]∧M l=some (.lst ds)∧k≤ds.length∧ds.length<sizeLine∧R .non (updM M l (.lst (ds.take k++v :: ds.drop k)))
theorem HasL.take' {K:PySem.W.Frag} {H:Hp}:∀ {vs:List V} {ds:List D} (k:Nat),HasL K H vs ds→HasL K H (vs.take k) (ds.take k)
  | _,_,0,_=>.nil
  | _,_,_+1,.nil=>.nil
  | _,_,k+1,.cons h t=>.cons h (HasL.take' k t)
theorem HasL.drop' {K:PySem.W.Frag} {H:Hp}:∀ {vs:List V} {ds:List D} (k:Nat),HasL K H vs ds→HasL K H (vs.drop k) (ds.drop k)
  | _,_,0,h=>h
  | _,_,_+1,.nil=>.nil
  | _,_,k+1,.cons _ t=>HasL.drop' k t
theorem dm_insert:DMt X "list.insert" gInsert:=MtR.imp (r:=rInsert) mt_insert (by
  rintro x xs H Q ⟨dx,ds,M,R,hx,hl,am,⟨l,es,v,k,e1,e2,hM,hk,hz,r⟩,f⟩
  subst e1; subst e2
  cases hx
  cases hl with
  | cons h1 hl =>
    obtain ⟨w,rfl,hw⟩:=hl.one
    cases h1
    obtain ⟨ys,hy,ly⟩:=am.lst hM
    exact ⟨l,ys,w,k,rfl,rfl,hy,by rw [ly.length]; exact hk,by rw [ly.length]; exact hz,f _ _ r _ _ (KT.write hy) (am.write hy ((ly.take' k).append (.cons hw (ly.drop' k)))) .non⟩)

noncomputable def downD (hi:Int) (n:Nat):List D:=(List.range n).map fun (i:Nat)=>D.int (hi - (i:Int))
theorem downD_length (hi:Int) (n:Nat):(downD hi n).length=n:=by simp [downD]
theorem downD_get {hi:Int} {n i:Nat} (h:i<n):(downD hi n)[i]? = some (D.int (hi - (i:Int))):=by simp [downD,h]
theorem walk_down {K:PySem.W.Frag} {H1:Hp} {hi:Int} {n:Nat}:Walk K H1 (Itd hi n) (downD hi n) (fun _=>True) where
  go:=fun i H' M' h k am st=>by rw [downD_length] at h; exact h
  yld:=fun i H' M' x H'' h k am st z=>by
    obtain ⟨e,y⟩:=z
    subst e; subst y
    rw [downD_length] at h
    exact ⟨_,downD_get h,KT.refl _,am,.int _⟩
  stop:=fun i H' M' h k am st=>by rw [downD_length] at h; exact h
  up:=fun _ _ _ _ _=>trivial
noncomputable def diRevR (ta:DTA):DTI:=fun e M R=>ta e M fun ds M1=>∃ j:Int,ds=[.int j]∧0≤j∧j<2 ^ 62∧R (downD (j - 1) j.toNat) (fun _=>True) M1
theorem pd_revR {tg a:Expr} {ta:DTA} {p p2 pos2 pos:Pos} (g1:Gl X "reversed") (m1:X.mg "reversed" = none) (v1:bootBuiltins "reversed" = some (.type "reversed")) (g2:Gl X "range") (m2:X.mg "range" = none) (v2:bootBuiltins "range" = some (.type "range")) (ha:DPA X [a] ta)
    (h1:starEach [a] X.env=(false,eval a X.env) :: starEach [] X.env:=by rfl) (h2:starEach [.Call (.Name "range" p2) [a] [] pos2] X.env=(false,eval (.Call (.Name "range" p2) [a] [] pos2) X.env) :: starEach [] X.env:=by rfl):DPI X tg (.Call (.Name "reversed" p) [.Call (.Name "range" p2) [a] [] pos2] [] pos) (diRevR ta) :=
  PI.imp (pi_rev g1 m1 v1 (pa_cons (pe_callTy cr_range g2 m2 v2 ha (by decide) (by decide) h1) pa_nil h2) h2) (by
    rintro σ H R ⟨e,M,R',ok,am,t,f⟩
    exact ⟨e,M,_,ok,am,t,fun ds M1 z vs H1 k1 a1 r1=>by
      obtain ⟨j,z,b1,b2,r⟩:=z
      subst z
      obtain ⟨v,rfl,hv⟩:=r1.one
      cases hv
      exact ⟨j,rfl,fun q hq hge=>⟨j,q,rfl,upd_same,b1,b2,f _ _ M1 r _ (k1.trans (KT.alloc hq)) (a1.alloc hq) _ walk_down⟩⟩⟩)
theorem jpd_revR {tg a:Expr} {ta:DTA} {p p2 pos2 pos:Pos} (g1:Gl X "reversed") (m1:X.mg "reversed" = none) (v1:bootBuiltins "reversed" = some (.type "reversed")) (g2:Gl X "range") (m2:X.mg "range" = none) (v2:bootBuiltins "range" = some (.type "range")) (ha:JA X [a] ta)
    (h1:starEach [a] X.env=(false,eval a X.env) :: starEach [] X.env:=by rfl) (h2:starEach [.Call (.Name "range" p2) [a] [] pos2] X.env=(false,eval (.Call (.Name "range" p2) [a] [] pos2) X.env) :: starEach [] X.env:=by rfl):JI X tg (.Call (.Name "reversed" p) [.Call (.Name "range" p2) [a] [] pos2] [] pos) (diRevR ta):=⟨pd_revR (g1:=g1) (m1:=m1) (v1:=v1) (g2:=g2) (m2:=m2) (v2:=v2) (ha:=ha.out) (h1:=h1) (h2:=h2)⟩
end

noncomputable abbrev DTIfs:=Ev→Mem→(Bool→Mem→Prop)→Prop
noncomputable abbrev DPIfs (X:Cx) (ifs:List Expr) (t:DTIfs):Prop:=PIfs X ifs (upT X.K t)
structure JIfs (X:Cx) (ifs:List Expr) (t:DTIfs):Prop where
  out:DPIfs X ifs t
noncomputable def dYes:DTIfs:=fun _ M R=>R true M
theorem PIfs.imp {X:Cx} {ifs:List Expr} {t t':TT} (h:PIfs X ifs t) (i:∀ σ H Q,t' σ H Q→t σ H Q):PIfs X ifs t':=fun pins s σ H Q I q=>h pins s σ H Q I (i σ H Q q)
theorem difs_nil {X:Cx}:DPIfs X [] dYes:=PIfs.imp pifs_nil (by rintro σ H Q ⟨e,M,R,ok,am,t,f⟩; exact f true M t H (KT.refl H) am)
theorem jdifs_nil {X:Cx}:JIfs X [] dYes:=⟨difs_nil ⟩
theorem difs_one {X:Cx} {c:Expr} {t:DTT} (h:DPT X c t):DPIfs X [c] t:=pifs_one h
theorem jdifs_one {X:Cx} {c:Expr} {t:DTT} (h:JT X c t):JIfs X [c] t:=⟨difs_one (h:=h.out)⟩
structure CompW (e0:Ev) (g:DTG) (tc:DTIfs) (te:DTE) (ds:List D) (stay:Mem→Prop) (M1:Mem) (E:List D→Mem→Prop) (W:Nat→List D→Mem→Prop):Prop where
  start:W 0 [] M1
  stays:∀ i ys M,i≤ds.length→W i ys M→stay M
  turn:∀ (i:Nat) (d:D) ys M,ds[i]? = some d→W i ys M→g d e0 M fun e2 M2=>tc e2 M2 fun b M3=>if b=true then te e2 M3 fun v M4=>ys.length<sizeLine∧W (i+1) (ys++[v]) M4 else W (i+1) ys M3
  done:∀ ys M,W ds.length ys M→E ys M
noncomputable def CompV (e0:Ev) (g:DTG) (tc:DTIfs) (te:DTE) (ds:List D) (stay:Mem→Prop) (M1:Mem) (R:DK):Prop:=∃ W,CompW e0 g tc te ds stay M1 (fun ys M=>R (.vl ys) M) W
noncomputable def CompL (e0:Ev) (g:DTG) (tc:DTIfs) (te:DTE) (ds:List D) (stay:Mem→Prop) (M1:Mem) (R:DK):Prop:=∃ W,CompW e0 g tc te ds stay M1 (fun ys M=>∀ p,M p=none→R (.ref p) (updM M p (.lst ys))) W
noncomputable def dCompV (n:Nat) (caps:List Nat) (ti:DTI) (g:DTG) (tc:DTIfs) (te:DTE):DTE:=fun e M R=>ti e M fun ds stay M1=>CompV (capE n caps e) g tc te ds stay M1 R
noncomputable def dCompL (n:Nat) (caps:List Nat) (ti:DTI) (g:DTG) (tc:DTIfs) (te:DTE):DTE:=fun e M R=>ti e M fun ds stay M1=>CompL (capE n caps e) g tc te ds stay M1 R
section
variable {X:Cx} {elt tg iter:Expr} {scope:Scope} {tgs cps:List Str} {caps:List Nat} {ti:DTI} {g:DTG} {tc:DTIfs} {te:DTE} {pos:Pos} {ifs:List Expr}
noncomputable def CWH (K:PySem.W.Frag) (H1:Hp) (D0:Addr) (len:Nat) (W:Nat→List D→Mem→Prop) (i m:Nat) (H':Hp):Prop:=m=len - i∧i≤len∧∃ M' ys xs,KT H1 H'∧AbsM K H' M'∧H' D0=some (.lst xs)∧M' D0=none∧HasL K H' xs ys∧W i ys M'
theorem comp_loop {K:PySem.W.Frag} {H1:Hp} {J:It} {ds:List D} {stay:Mem→Prop} {M1:Mem} {n:Nat} {caps:List Nat} {σ:St} {e:Ev} {E:List D→Mem→Prop} {W:Nat→List D→Mem→Prop} {D0:Addr} {Qd:Hp→Prop} (ok:EnvOk K H1 σ e) (a1:AbsM K H1 M1) (wk:Walk K H1 J ds stay) (hD:H1 D0=none)
    (C:CompW (capE n caps e) g tc te ds stay M1 E W) (fin:∀ ys M xs H',KT H1 H'→AbsM K H' M→H' D0=some (.lst xs)→M D0=none→HasL K H' xs ys→E ys M→Qd H') (i m:Nat) (H2:Hp) (w:CWH K H1 D0 ds.length W i m H2) :
    (J.stop i H2∧Qd H2)∨(J.go i H2∧∀ x H',J.yld i H2 x H'→(∃ p,tHideG p (upG K g) x (capF n caps σ) H' fun σ2 H3=>∃ p,tHideT p (upT K tc) σ2 H3 fun b H3'=>if b=true then ∃ p,tHide p (up K te) σ2 H3' fun v H4 =>
      ∃ ys,H4 D0=some (.lst ys)∧ys.length<sizeLine∧∃ m',m'<m∧CWH K H1 D0 ds.length W (i+1) m' (upd H4 D0 (.lst (ys++[v]))) else ∃ m',m'<m∧CWH K H1 D0 ds.length W (i+1) m' H3')):=by
  obtain ⟨rfl,hi,M2,ys,xs,k2,a2,hx,hM,lx,w2⟩:=w
  have a2':AbsM K H2 (updM M2 D0 (.lst ys)):=fun a o q=>by
    by_cases e:a=D0
    · subst e; rw [updM_same] at q; cases q; exact ⟨xs,hx,lx⟩
    · rw [updM_ne e] at q; exact a2 a o q
  have st:=wk.up _ D0 (.lst ys) (C.stays i ys M2 hi w2) hM
  by_cases hlt:i<ds.length
  · refine .inr ⟨wk.go i H2 _ hlt k2 a2' st,fun y H' yl=>?_⟩
    obtain ⟨d,hd,k3,a3',r⟩:=wk.yld i H2 _ y H' hlt k2 a2' st yl
    obtain ⟨xs',hx',lx'⟩:=a3'.lst updM_same
    have a3:AbsM K H' M2:=fun a o q=>by
      have e:a≠D0:=by intro e; subst e; rw [hM] at q; cases q
      exact a3' a o (by rw [updM_ne e]; exact q)
    have kh:KT H' (upd H' D0 (hidO D0 xs')):=KT.any hx'
    have k1h:=(k2.trans k3).trans kh
    have same:∀ {H3:Hp},H3 D0=some (hidO D0 xs')→upd (upd H3 D0 (.lst xs')) D0 (hidO D0 xs')=H3:=fun {H3} q=>by
      rw [upd_upd]; funext b; by_cases e:b=D0
      · subst e; rw [upd_same,q]
      · rw [upd_ne e]
    refine ⟨D0,xs',hx',d,capE n caps e,M2,_,r.mono kh,env_cap n caps (ok.mono k1h),a3.at kh.toKT0 hM,C.turn i d ys M2 hd w2,fun e3 M3 h3 σ3 H3 k4 a4 ok3=>?_⟩
    have q3:H3 D0=some (hidO D0 xs'):=k4.ex D0 _ upd_same
    refine ⟨q3,D0,xs',upd_same,?_⟩
    rw [same q3]
    refine ⟨e3,M3,_,ok3,a4,h3,fun b M4 h4 H4 k5 a5=>?_⟩
    have q4:H4 D0=some (hidO D0 xs'):=k5.ex D0 _ q3
    refine ⟨q4,?_⟩
    have kk:=k1h.trans (k4.trans k5)
    cases b with
    | false =>
      have h4':W (i+1) ys M4:=h4
      show ∃ m',m'<ds.length - i∧CWH K H1 D0 ds.length W (i+1) m' (upd H4 D0 (.lst xs'))
      exact ⟨ds.length - (i+1),by omega,rfl,hlt,M4,ys,xs',kk.new hD,a5.at (KT0.ext q4) (a5.none_ext q4),upd_same,a5.none_ext q4,(lx'.mono (kh.trans (k4.trans k5))).mono0 (KT0.ext q4),h4'⟩
    | true =>
      show ∃ p,tHide p (up K te) σ3 (upd H4 D0 (.lst xs')) _
      refine ⟨D0,xs',upd_same,?_⟩
      rw [same q4]
      refine ⟨e3,M4,_,ok3.mono k5,a5,h4,fun dv M5 ⟨hz,w5⟩ vv H5 k6 a6 r6=>?_⟩
      have q5:H5 D0=some (hidO D0 xs'):=k6.ex D0 _ q4
      refine ⟨q5,xs',upd_same,by rw [lx'.length]; exact hz,ds.length - (i+1),by omega,rfl,hlt,M5,ys++[dv],xs'++[vv],?_,?_,upd_same,a6.none_ext q5,?_,w5⟩
      · rw [upd_upd]; exact (kk.trans k6).new hD
      · rw [upd_upd]; exact a6.at (KT0.ext q5) (a6.none_ext q5)
      · rw [upd_upd]; exact ((lx'.mono (kh.trans (k4.trans (k5.trans k6)))).mono0 (KT0.ext q5)).append (.cons (r6.mono0 (KT0.ext q5)) .nil)
  · have e':i=ds.length:=by omega
    subst e'
    exact .inl ⟨wk.stop _ H2 _ (Nat.le_refl _) k2 a2' st,fin ys M2 xs H2 k2 a2 hx hM lx (C.done ys M2 w2)⟩
theorem d_compV (caps:List Nat) (tgs cps:List Str) (hc:X.calm=true) (hcell:∀ x∈scope.names,x.2 ≠ .cell) (hkind:scope.kind = .function) (hnames:∀ x∈scope.names,x.2 = .local→scope.names.lookup x.1=some .local)
    (hfr:∀ x∈scope.names,x.2 = .free→x.1∈cps) (hN:caps.map (fun i=>X.N[i]?)=cps.map some) (hX:∀ x∈cps,X.env.scope.names.lookup x=some .cell∧scope.names.lookup x=some .free)
    (hsc:∀ x∈cps,(relabel scope X.env).names.lookup x=some .cell∨(relabel scope X.env).names.lookup x=some .free)
    (hi:DPI X tg iter ti) (hg:∀ cl s3 H3 C fp pins,DPG (cxF X scope cl (tgs++cps) s3 H3 C fp pins) tg g) (hq:∀ cl s3 H3 C fp pins,DPIfs (cxF X scope cl (tgs++cps) s3 H3 C fp pins) ifs tc) (he:∀ cl s3 H3 C fp pins,DPE (cxF X scope cl (tgs++cps) s3 H3 C fp pins) elt te)
    (hs:∀ x,foldedSetIterable iter X.env x=pure x:=by intro _; rfl):DPE X (.ListComp elt [⟨tg,iter,ifs,0⟩] scope pos) (dCompV tgs.length caps ti g tc te) :=
  (pe_frz (pe_compF (tgs:=tgs) (cps:=cps) (caps:=caps) hc hcell hkind hnames hfr hN hX hsc hi (fun cl s3 H3 C fp pins=>pg_hide (hg cl s3 H3 C fp pins)) (fun cl s3 H3 C fp pins=>pifs_hide (hq cl s3 H3 C fp pins)) (fun cl s3 H3 C fp pins=>pe_hide (he cl s3 H3 C fp pins)) hs)).imp (by rintro σ H Q ⟨e,M,R,ok,am,t,f⟩; exact ⟨e,M,_,ok,am,t,fun ds stay M1 hW H1 k1 a1 J wk=>by
    intro D0 hD
    obtain ⟨W,C⟩:=hW
    refine ⟨fun i m H'=>CWH X.K H1 D0 ds.length W i m H',⟨ds.length,by simp,Nat.zero_le _,M1,[],[],KT.alloc hD,a1.alloc hD,upd_same,a1.fresh hD,.nil,C.start⟩,fun i m H2 w=>comp_loop (Qd:=fun H'=>∃ p xs,V.ref D0 = .ref p∧H' p=some (.lst xs)∧∀ o,Q (.ref D0) (upd H' p (.frz o (.lst xs)))) (ok.mono k1) a1 wk hD C (fun ys M2 xs H' k2 a2 hx hM lx r=>?_) i m H2 w⟩
    exact ⟨D0,xs,rfl,hx,fun o=>f _ M2 r _ _ (k1.trans (k2.trans (KT.any hx))) (a2.at (KT.any hx).toKT0 hM) (.vl (.inl ⟨o,upd_same⟩) (lx.mono (KT.any hx)))⟩⟩)
theorem jd_compV (caps:List Nat) (tgs cps:List Str) (hc:X.calm=true) (hcell:∀ x∈scope.names,x.2 ≠ .cell) (hkind:scope.kind = .function) (hnames:∀ x∈scope.names,x.2 = .local→scope.names.lookup x.1=some .local)
    (hfr:∀ x∈scope.names,x.2 = .free→x.1∈cps) (hN:caps.map (fun i=>X.N[i]?)=cps.map some) (hX:∀ x∈cps,X.env.scope.names.lookup x=some .cell∧scope.names.lookup x=some .free)
    (hsc:∀ x∈cps,(relabel scope X.env).names.lookup x=some .cell∨(relabel scope X.env).names.lookup x=some .free)
    (hi:JI X tg iter ti) (hg:∀ cl s3 H3 C fp pins,JG (cxF X scope cl (tgs++cps) s3 H3 C fp pins) tg g) (hq:∀ cl s3 H3 C fp pins,JIfs (cxF X scope cl (tgs++cps) s3 H3 C fp pins) ifs tc) (he:∀ cl s3 H3 C fp pins,JE (cxF X scope cl (tgs++cps) s3 H3 C fp pins) elt te)
    (hs:∀ x,foldedSetIterable iter X.env x=pure x:=by intro _; rfl):JE X (.ListComp elt [⟨tg,iter,ifs,0⟩] scope pos) (dCompV tgs.length caps ti g tc te):=⟨d_compV (caps:=caps) (tgs:=tgs) (cps:=cps) (hc:=hc) (hcell:=hcell) (hkind:=hkind) (hnames:=hnames) (hfr:=hfr) (hN:=hN) (hX:=hX) (hsc:=hsc) (hi:=hi.out) (hg:=(fun v0 v1 v2 v3 v4 v5=>(hg v0 v1 v2 v3 v4 v5).out)) (hq:=(fun v0 v1 v2 v3 v4 v5=>(hq v0 v1 v2 v3 v4 v5).out)) (he:=(fun v0 v1 v2 v3 v4 v5=>(he v0 v1 v2 v3 v4 v5).out)) (hs:=hs)⟩
theorem d_compL (caps:List Nat) (tgs cps:List Str) (hc:X.calm=true) (hcell:∀ x∈scope.names,x.2 ≠ .cell) (hkind:scope.kind = .function) (hnames:∀ x∈scope.names,x.2 = .local→scope.names.lookup x.1=some .local)
    (hfr:∀ x∈scope.names,x.2 = .free→x.1∈cps) (hN:caps.map (fun i=>X.N[i]?)=cps.map some) (hX:∀ x∈cps,X.env.scope.names.lookup x=some .cell∧scope.names.lookup x=some .free)
    (hsc:∀ x∈cps,(relabel scope X.env).names.lookup x=some .cell∨(relabel scope X.env).names.lookup x=some .free)
    (hi:DPI X tg iter ti) (hg:∀ cl s3 H3 C fp pins,DPG (cxF X scope cl (tgs++cps) s3 H3 C fp pins) tg g) (hq:∀ cl s3 H3 C fp pins,DPIfs (cxF X scope cl (tgs++cps) s3 H3 C fp pins) ifs tc) (he:∀ cl s3 H3 C fp pins,DPE (cxF X scope cl (tgs++cps) s3 H3 C fp pins) elt te)
    (hs:∀ x,foldedSetIterable iter X.env x=pure x:=by intro _; rfl):DPE X (.ListComp elt [⟨tg,iter,ifs,0⟩] scope pos) (dCompL tgs.length caps ti g tc te) :=
  (pe_compF (tgs:=tgs) (cps:=cps) (caps:=caps) hc hcell hkind hnames hfr hN hX hsc hi (fun cl s3 H3 C fp pins=>pg_hide (hg cl s3 H3 C fp pins)) (fun cl s3 H3 C fp pins=>pifs_hide (hq cl s3 H3 C fp pins)) (fun cl s3 H3 C fp pins=>pe_hide (he cl s3 H3 C fp pins)) hs).imp (by rintro σ H Q ⟨e,M,R,ok,am,t,f⟩; exact ⟨e,M,_,ok,am,t,fun ds stay M1 hW H1 k1 a1 J wk=>by
    intro D0 hD
    obtain ⟨W,C⟩:=hW
    refine ⟨fun i m H'=>CWH X.K H1 D0 ds.length W i m H',⟨ds.length,by simp,Nat.zero_le _,M1,[],[],KT.alloc hD,a1.alloc hD,upd_same,a1.fresh hD,.nil,C.start⟩,fun i m H2 w=>comp_loop (ok.mono k1) a1 wk hD C (fun ys M2 xs H' k2 a2 hx hM lx r=>?_) i m H2 w⟩
    refine f _ _ (r D0 hM) _ _ (k1.trans k2) (fun a o q=>?_) (.ref D0)
    by_cases e:a=D0
    · subst e; rw [updM_same] at q; cases q; exact ⟨xs,hx,lx⟩
    · rw [updM_ne e] at q; exact a2 a o q⟩)
theorem jd_compL (caps:List Nat) (tgs cps:List Str) (hc:X.calm=true) (hcell:∀ x∈scope.names,x.2 ≠ .cell) (hkind:scope.kind = .function) (hnames:∀ x∈scope.names,x.2 = .local→scope.names.lookup x.1=some .local)
    (hfr:∀ x∈scope.names,x.2 = .free→x.1∈cps) (hN:caps.map (fun i=>X.N[i]?)=cps.map some) (hX:∀ x∈cps,X.env.scope.names.lookup x=some .cell∧scope.names.lookup x=some .free)
    (hsc:∀ x∈cps,(relabel scope X.env).names.lookup x=some .cell∨(relabel scope X.env).names.lookup x=some .free)
    (hi:JI X tg iter ti) (hg:∀ cl s3 H3 C fp pins,JG (cxF X scope cl (tgs++cps) s3 H3 C fp pins) tg g) (hq:∀ cl s3 H3 C fp pins,JIfs (cxF X scope cl (tgs++cps) s3 H3 C fp pins) ifs tc) (he:∀ cl s3 H3 C fp pins,JE (cxF X scope cl (tgs++cps) s3 H3 C fp pins) elt te)
    (hs:∀ x,foldedSetIterable iter X.env x=pure x:=by intro _; rfl):JE X (.ListComp elt [⟨tg,iter,ifs,0⟩] scope pos) (dCompL tgs.length caps ti g tc te):=⟨d_compL (caps:=caps) (tgs:=tgs) (cps:=cps) (hc:=hc) (hcell:=hcell) (hkind:=hkind) (hnames:=hnames) (hfr:=hfr) (hN:=hN) (hX:=hX) (hsc:=hsc) (hi:=hi.out) (hg:=(fun v0 v1 v2 v3 v4 v5=>(hg v0 v1 v2 v3 v4 v5).out)) (hq:=(fun v0 v1 v2 v3 v4 v5=>(hq v0 v1 v2 v3 v4 v5).out)) (he:=(fun v0 v1 v2 v3 v4 v5=>(he v0 v1 v2 v3 v4 v5).out)) (hs:=hs)⟩
theorem ds_setCompV {i:Nat} {x:Str} {pos' pos2:Pos} (caps:List Nat) (tgs cps:List Str) (hNd:X.N.Nodup) (hxi:X.N[i]? = some x) (hx:Loc X.env.scope x) (hc:X.calm=true) (hcell:∀ x∈scope.names,x.2 ≠ .cell) (hkind:scope.kind = .function) (hnames:∀ x∈scope.names,x.2 = .local→scope.names.lookup x.1=some .local)
    (hfr:∀ x∈scope.names,x.2 = .free→x.1∈cps) (hN:caps.map (fun i=>X.N[i]?)=cps.map some) (hX:∀ x∈cps,X.env.scope.names.lookup x=some .cell∧scope.names.lookup x=some .free)
    (hsc:∀ x∈cps,(relabel scope X.env).names.lookup x=some .cell∨(relabel scope X.env).names.lookup x=some .free)
    (hi:DPI X tg iter ti) (hg:∀ cl s3 H3 C fp pins,DPG (cxF X scope cl (tgs++cps) s3 H3 C fp pins) tg g) (hq:∀ cl s3 H3 C fp pins,DPIfs (cxF X scope cl (tgs++cps) s3 H3 C fp pins) ifs tc) (he:∀ cl s3 H3 C fp pins,DPE (cxF X scope cl (tgs++cps) s3 H3 C fp pins) elt te)
    (hsw:swapsWith (.ListComp elt [⟨tg,iter,ifs,0⟩] scope pos) (some (.Name x pos')) pos2.line X.env=pure true:=by rfl) (hs:∀ x,foldedSetIterable iter X.env x=pure x:=by intro _; rfl) (hf:X.fn x=true∨X.env.scope.names.lookup x=some .local:=by first | exact .inl rfl | exact .inr rfl | assumption):DPS X (.Assign [.Name x pos'] (.ListComp elt [⟨tg,iter,ifs,0⟩] scope pos) pos2) (dAsg (dCompV tgs.length caps ti g tc te) (dgName i)) :=
  (ps_setU (pu_frz (pu_compF (tgs:=tgs) (cps:=cps) (caps:=caps) hc hcell hkind hnames hfr hN hX hsc hi (fun cl s3 H3 C fp pins=>pg_hide (hg cl s3 H3 C fp pins)) (fun cl s3 H3 C fp pins=>pifs_hide (hq cl s3 H3 C fp pins)) (fun cl s3 H3 C fp pins=>pe_hide (he cl s3 H3 C fp pins)) hNd hxi hx hf hs)) hsw).imp (by rintro E σ H ⟨e,M,F,ok,am,t,f⟩; exact ⟨e,M,_,ok,am,t,fun ds stay M1 hW H1 k1 a1 J wk=>by
    intro D0 hD
    obtain ⟨W,C⟩:=hW
    refine ⟨fun i m H'=>CWH X.K H1 D0 ds.length W i m H',⟨ds.length,by simp,Nat.zero_le _,M1,[],[],KT.alloc hD,a1.alloc hD,upd_same,a1.fresh hD,.nil,C.start⟩,fun j m H2 w=>comp_loop (Qd:=fun H'=>∃ p xs,V.ref D0 = .ref p∧H' p=some (.lst xs)∧∀ o,E.nx (σ.set i (some (.ref D0))) (upd H' p (.frz o (.lst xs)))) (ok.mono k1) a1 wk hD C (fun ys M2 xs H' k2 a2 hx hM lx r=>?_) j m H2 w⟩
    exact ⟨D0,xs,rfl,hx,fun o=>f.nx _ M2 r _ _ (k1.trans (k2.trans (KT.any hx))) (a2.at (KT.any hx).toKT0 hM) ((ok.mono (k1.trans (k2.trans (KT.any hx)))).set (.vl (.inl ⟨o,upd_same⟩) (lx.mono (KT.any hx))) i)⟩⟩)
theorem jds_setCompV {i:Nat} {x:Str} {pos' pos2:Pos} (caps:List Nat) (tgs cps:List Str) (hNd:X.N.Nodup) (hxi:X.N[i]? = some x) (hx:Loc X.env.scope x) (hc:X.calm=true) (hcell:∀ x∈scope.names,x.2 ≠ .cell) (hkind:scope.kind = .function) (hnames:∀ x∈scope.names,x.2 = .local→scope.names.lookup x.1=some .local)
    (hfr:∀ x∈scope.names,x.2 = .free→x.1∈cps) (hN:caps.map (fun i=>X.N[i]?)=cps.map some) (hX:∀ x∈cps,X.env.scope.names.lookup x=some .cell∧scope.names.lookup x=some .free)
    (hsc:∀ x∈cps,(relabel scope X.env).names.lookup x=some .cell∨(relabel scope X.env).names.lookup x=some .free)
    (hi:JI X tg iter ti) (hg:∀ cl s3 H3 C fp pins,JG (cxF X scope cl (tgs++cps) s3 H3 C fp pins) tg g) (hq:∀ cl s3 H3 C fp pins,JIfs (cxF X scope cl (tgs++cps) s3 H3 C fp pins) ifs tc) (he:∀ cl s3 H3 C fp pins,JE (cxF X scope cl (tgs++cps) s3 H3 C fp pins) elt te)
    (hsw:swapsWith (.ListComp elt [⟨tg,iter,ifs,0⟩] scope pos) (some (.Name x pos')) pos2.line X.env=pure true:=by rfl) (hs:∀ x,foldedSetIterable iter X.env x=pure x:=by intro _; rfl) (hf:X.fn x=true∨X.env.scope.names.lookup x=some .local:=by first | exact .inl rfl | exact .inr rfl | assumption):JS X (.Assign [.Name x pos'] (.ListComp elt [⟨tg,iter,ifs,0⟩] scope pos) pos2) (dAsg (dCompV tgs.length caps ti g tc te) (dgName i)):=⟨ds_setCompV (caps:=caps) (tgs:=tgs) (cps:=cps) (hNd:=hNd) (hxi:=hxi) (hx:=hx) (hc:=hc) (hcell:=hcell) (hkind:=hkind) (hnames:=hnames) (hfr:=hfr) (hN:=hN) (hX:=hX) (hsc:=hsc) (hi:=hi.out) (hg:=(fun v0 v1 v2 v3 v4 v5=>(hg v0 v1 v2 v3 v4 v5).out)) (hq:=(fun v0 v1 v2 v3 v4 v5=>(hq v0 v1 v2 v3 v4 v5).out)) (he:=(fun v0 v1 v2 v3 v4 v5=>(he v0 v1 v2 v3 v4 v5).out)) (hsw:=hsw) (hs:=hs) (hf:=hf)⟩
theorem ds_setCompL {i:Nat} {x:Str} {pos' pos2:Pos} (caps:List Nat) (tgs cps:List Str) (hNd:X.N.Nodup) (hxi:X.N[i]? = some x) (hx:Loc X.env.scope x) (hc:X.calm=true) (hcell:∀ x∈scope.names,x.2 ≠ .cell) (hkind:scope.kind = .function) (hnames:∀ x∈scope.names,x.2 = .local→scope.names.lookup x.1=some .local)
    (hfr:∀ x∈scope.names,x.2 = .free→x.1∈cps) (hN:caps.map (fun i=>X.N[i]?)=cps.map some) (hX:∀ x∈cps,X.env.scope.names.lookup x=some .cell∧scope.names.lookup x=some .free)
    (hsc:∀ x∈cps,(relabel scope X.env).names.lookup x=some .cell∨(relabel scope X.env).names.lookup x=some .free)
    (hi:DPI X tg iter ti) (hg:∀ cl s3 H3 C fp pins,DPG (cxF X scope cl (tgs++cps) s3 H3 C fp pins) tg g) (hq:∀ cl s3 H3 C fp pins,DPIfs (cxF X scope cl (tgs++cps) s3 H3 C fp pins) ifs tc) (he:∀ cl s3 H3 C fp pins,DPE (cxF X scope cl (tgs++cps) s3 H3 C fp pins) elt te)
    (hsw:swapsWith (.ListComp elt [⟨tg,iter,ifs,0⟩] scope pos) (some (.Name x pos')) pos2.line X.env=pure true:=by rfl) (hs:∀ x,foldedSetIterable iter X.env x=pure x:=by intro _; rfl) (hf:X.fn x=true∨X.env.scope.names.lookup x=some .local:=by first | exact .inl rfl | exact .inr rfl | assumption):DPS X (.Assign [.Name x pos'] (.ListComp elt [⟨tg,iter,ifs,0⟩] scope pos) pos2) (dAsg (dCompL tgs.length caps ti g tc te) (dgName i)) :=
  (ps_setU (pu_compF (tgs:=tgs) (cps:=cps) (caps:=caps) hc hcell hkind hnames hfr hN hX hsc hi (fun cl s3 H3 C fp pins=>pg_hide (hg cl s3 H3 C fp pins)) (fun cl s3 H3 C fp pins=>pifs_hide (hq cl s3 H3 C fp pins)) (fun cl s3 H3 C fp pins=>pe_hide (he cl s3 H3 C fp pins)) hNd hxi hx hf hs) hsw).imp (by rintro E σ H ⟨e,M,F,ok,am,t,f⟩; exact ⟨e,M,_,ok,am,t,fun ds stay M1 hW H1 k1 a1 J wk=>by
    intro D0 hD
    obtain ⟨W,C⟩:=hW
    refine ⟨fun i m H'=>CWH X.K H1 D0 ds.length W i m H',⟨ds.length,by simp,Nat.zero_le _,M1,[],[],KT.alloc hD,a1.alloc hD,upd_same,a1.fresh hD,.nil,C.start⟩,fun j m H2 w=>comp_loop (Qd:=fun H'=>E.nx (σ.set i (some (.ref D0))) H') (ok.mono k1) a1 wk hD C (fun ys M2 xs H' k2 a2 hx hM lx r=>?_) j m H2 w⟩
    refine f.nx _ _ (r D0 hM) _ _ (k1.trans k2) (fun a o q=>?_) ((ok.mono (k1.trans k2)).set (.ref D0) i)
    by_cases e:a=D0
    · subst e; rw [updM_same] at q; cases q; exact ⟨xs,hx,lx⟩
    · rw [updM_ne e] at q; exact a2 a o q⟩)
theorem jds_setCompL {i:Nat} {x:Str} {pos' pos2:Pos} (caps:List Nat) (tgs cps:List Str) (hNd:X.N.Nodup) (hxi:X.N[i]? = some x) (hx:Loc X.env.scope x) (hc:X.calm=true) (hcell:∀ x∈scope.names,x.2 ≠ .cell) (hkind:scope.kind = .function) (hnames:∀ x∈scope.names,x.2 = .local→scope.names.lookup x.1=some .local)
    (hfr:∀ x∈scope.names,x.2 = .free→x.1∈cps) (hN:caps.map (fun i=>X.N[i]?)=cps.map some) (hX:∀ x∈cps,X.env.scope.names.lookup x=some .cell∧scope.names.lookup x=some .free)
    (hsc:∀ x∈cps,(relabel scope X.env).names.lookup x=some .cell∨(relabel scope X.env).names.lookup x=some .free)
    (hi:JI X tg iter ti) (hg:∀ cl s3 H3 C fp pins,JG (cxF X scope cl (tgs++cps) s3 H3 C fp pins) tg g) (hq:∀ cl s3 H3 C fp pins,JIfs (cxF X scope cl (tgs++cps) s3 H3 C fp pins) ifs tc) (he:∀ cl s3 H3 C fp pins,JE (cxF X scope cl (tgs++cps) s3 H3 C fp pins) elt te)
    (hsw:swapsWith (.ListComp elt [⟨tg,iter,ifs,0⟩] scope pos) (some (.Name x pos')) pos2.line X.env=pure true:=by rfl) (hs:∀ x,foldedSetIterable iter X.env x=pure x:=by intro _; rfl) (hf:X.fn x=true∨X.env.scope.names.lookup x=some .local:=by first | exact .inl rfl | exact .inr rfl | assumption):JS X (.Assign [.Name x pos'] (.ListComp elt [⟨tg,iter,ifs,0⟩] scope pos) pos2) (dAsg (dCompL tgs.length caps ti g tc te) (dgName i)):=⟨ds_setCompL (caps:=caps) (tgs:=tgs) (cps:=cps) (hNd:=hNd) (hxi:=hxi) (hx:=hx) (hc:=hc) (hcell:=hcell) (hkind:=hkind) (hnames:=hnames) (hfr:=hfr) (hN:=hN) (hX:=hX) (hsc:=hsc) (hi:=hi.out) (hg:=(fun v0 v1 v2 v3 v4 v5=>(hg v0 v1 v2 v3 v4 v5).out)) (hq:=(fun v0 v1 v2 v3 v4 v5=>(hq v0 v1 v2 v3 v4 v5).out)) (he:=(fun v0 v1 v2 v3 v4 v5=>(he v0 v1 v2 v3 v4 v5).out)) (hsw:=hsw) (hs:=hs) (hf:=hf)⟩
end
section
variable {X:Cx} {e:Expr} {te:DTE} {p1 p2 pos pos2:Pos}
theorem SqL.upd {K:PySem.W.Frag} {H:Hp} {a it:Addr} {xs:List V} {o:HO} (h:SqL K H a xs) (ne:a≠it):SqL K (upd H it o) a xs:=h.elim (fun z=>.inl (by unfold Rd at z ⊢; rw [upd_ne ne]; exact z)) .inr
theorem SqK.upd {K:PySem.W.Frag} {k:Bool} {H:Hp} {a it:Addr} {xs:List V} {o:HO} (h:SqK K k H a xs) (ne:a≠it):SqK K k (L2.upd H it o) a xs:=by
  cases k with
  | true=>exact SqL.upd (show SqL K H a xs from h) ne
  | false=>exact (show SqT K H a xs from h).elim (fun z=>.inl (by unfold Rd at z ⊢; rw [upd_ne ne]; exact z)) .inr
noncomputable def gRevS (x:D) (M:Mem) (R:DK):Prop:=∃ ds,seqD M x ds∧R (.vl ds.reverse) M
noncomputable def dRevS (te:DTE):DTE:=fun e M R=>te e M fun x M1=>gRevS x M1 R
theorem d_listRevS (hc:X.calm=true) (g1:Gl X "list") (m1:X.mg "list" = none) (v1:bootBuiltins "list" = some (.type "list")) (g2:Gl X "reversed") (m2:X.mg "reversed" = none) (v2:bootBuiltins "reversed" = some (.type "reversed")) (he:DPE X e te)
    (h1:starEach [e] X.env=(false,eval e X.env) :: starEach [] X.env:=by rfl) (h2:starEach [.Call (.Name "reversed" p2) [e] [] pos2] X.env=(false,eval (.Call (.Name "reversed" p2) [e] [] pos2) X.env) :: starEach [] X.env:=by rfl):DPE X (.Call (.Name "list" p1) [.Call (.Name "reversed" p2) [e] [] pos2] [] pos) (dRevS te) :=
  (pe_frz (pe_callTy (cr_listRevS hc) g1 m1 v1 (pa_cons (pe_callTy cr_reversedS g2 m2 v2 (pa_cons he pa_nil h1) (by decide) (by decide) h1) pa_nil h2) (by decide) (by decide) h2)).imp (by rintro σ H Q ⟨e,M,R,ok,am,t,f⟩; exact ⟨e,M,_,ok,am,t,fun x M1 ⟨ds,hi,r⟩ v H1 k1 a1 r1=>by
    obtain ⟨a,xs,rfl,sq,lx⟩:=seqD_has hi a1 r1
    refine ⟨a,kindD x,xs,rfl,sq,fun it hit hne hge=>⟨it,a,kindD x,xs,rfl,upd_same,SqK.upd sq (Ne.symm hne),Ne.symm hne,hge,fun p hp=>?_⟩⟩
    have q1:p≠it:=fun z=>by rw [z,upd_same] at hp; cases hp
    rw [upd_ne q1] at hp
    have e1:∀ o u,dropH (L2.upd (L2.upd H1 it o) p u) it=L2.upd H1 p u:=fun o u=>by
      funext b
      by_cases z:b=it
      · subst z; rw [dropH_same,upd_ne (Ne.symm q1),hit]
      · rw [dropH_ne z]
        by_cases y:b=p
        · subst y; rw [upd_same,upd_same]
        · rw [upd_ne y,upd_ne y,upd_ne z]
    rw [e1]
    exact frz_new f k1 a1 lx.rev r p hp⟩)
theorem jd_listRevS (hc:X.calm=true) (g1:Gl X "list") (m1:X.mg "list" = none) (v1:bootBuiltins "list" = some (.type "list")) (g2:Gl X "reversed") (m2:X.mg "reversed" = none) (v2:bootBuiltins "reversed" = some (.type "reversed")) (he:JE X e te)
    (h1:starEach [e] X.env=(false,eval e X.env) :: starEach [] X.env:=by rfl) (h2:starEach [.Call (.Name "reversed" p2) [e] [] pos2] X.env=(false,eval (.Call (.Name "reversed" p2) [e] [] pos2) X.env) :: starEach [] X.env:=by rfl):JE X (.Call (.Name "list" p1) [.Call (.Name "reversed" p2) [e] [] pos2] [] pos) (dRevS te):=⟨d_listRevS (hc:=hc) (g1:=g1) (m1:=m1) (v1:=v1) (g2:=g2) (m2:=m2) (v2:=v2) (he:=he.out) (h1:=h1) (h2:=h2)⟩
noncomputable def dgTupL (n:Nat) (t:DTGs):DTG:=fun d e M R=>∃ ds,itemsD M d=some ds∧ds.length=n∧t ds e M R
theorem dg_tupL {xs:List Expr} {k:Nat} {t:DTGs} {n:Nat} (hc:X.calm=true) (h:DPGs X xs t)
    (hn:(assignEach xs X.env).length=n:=by rfl) (hst:(assignEach xs X.env).findIdx? (·.1)=none:=by rfl):DPG X (.Tuple xs k pos) (dgTupL n t) :=
  PG.imp (pg_tupL hc h hn hst) (by
    rintro v σ H Q ⟨d,e,M,R,r,ok,am,⟨ds,hi,hl,g⟩,f⟩
    obtain ⟨a,xs,e1,sq,lx⟩:=itemsD_has am r hi
    exact ⟨a,xs,e1,sq,by rw [lx.length]; exact hl,ds,e,M,R,lx,ok,am,g,f⟩)
theorem jdg_tupL {xs:List Expr} {k:Nat} {t:DTGs} {n:Nat} (hc:X.calm=true) (h:JGs X xs t)
    (hn:(assignEach xs X.env).length=n:=by rfl) (hst:(assignEach xs X.env).findIdx? (·.1)=none:=by rfl):JG X (.Tuple xs k pos) (dgTupL n t):=⟨dg_tupL (hc:=hc) (h:=h.out) (hn:=hn) (hst:=hst)⟩
noncomputable def BackK (ds:List D) (M:Mem) (Q:List D→(Mem→Prop)→Mem→Prop):Prop:=∃ xs,ds=[.vl xs]∧Q xs.reverse (fun _=>True) M
noncomputable def diBack (ta:DTA):DTI:=fun e M Q=>ta e M fun ds M1=>BackK ds M1 Q
theorem walk_back {K:PySem.W.Frag} {H1:Hp} {a:Addr} {xs:List V} {ds:List D} (h:Has K H1 (.ref a) (.vl ds)) (lx:HasL K H1 xs ds):Walk K H1 (Itb K a xs.length) ds.reverse (fun _=>True) where
  go:=fun i H' M' hi k am _=>by
    rw [List.length_reverse,← lx.length] at hi
    obtain ⟨a',ys,e,sq',l'⟩:=(h.mono k).il
    cases e
    have hy:ys.length=xs.length:=by rw [l'.length,lx.length]
    exact ⟨hi,ys,_,sq',List.getElem?_eq_getElem (by omega)⟩
  yld:=fun i H' M' x H'' hi k am _ q=>by
    obtain ⟨e,y⟩:=q
    subst e
    rw [List.length_reverse,← lx.length] at hi
    obtain ⟨a',ys,e,sq',l'⟩:=(h.mono k).il
    cases e
    obtain ⟨d,hd,r⟩:=l'.getV (y ys sq')
    refine ⟨d,?_,KT.refl _,am,r⟩
    rw [List.getElem?_reverse (by rw [← lx.length]; exact hi),← lx.length]
    exact hd
  stop:=fun i H' M' hi k am _=>by
    rw [List.length_reverse,← lx.length] at hi
    exact hi
  up:=fun _ _ _ _ _=>trivial
theorem pd_back {tg a:Expr} {ta:DTA} {p pos:Pos} (g1:Gl X "reversed") (m1:X.mg "reversed" = none) (v1:bootBuiltins "reversed" = some (.type "reversed")) (ha:DPA X [a] ta)
    (hs:starEach [a] X.env=[(false,eval a X.env)]:=by rfl):DPI X tg (.Call (.Name "reversed" p) [a] [] pos) (diBack ta) :=
  PI.imp (pi_back g1 m1 v1 ha hs) (by
    rintro σ H R ⟨e,M,R',ok,am,t,f⟩
    exact ⟨e,M,_,ok,am,t,fun ds M1 z vs H1 k1 a1 r1=>by
      obtain ⟨xs,rfl,r⟩:=z
      obtain ⟨v,rfl,hv⟩:=r1.one
      obtain ⟨a,ws,e1,sq,lx⟩:=hv.il
      subst e1
      exact ⟨a,ws,rfl,sq,f _ _ M1 r H1 k1 a1 _ (walk_back hv lx)⟩⟩)
theorem jpd_back {tg a:Expr} {ta:DTA} {p pos:Pos} (g1:Gl X "reversed") (m1:X.mg "reversed" = none) (v1:bootBuiltins "reversed" = some (.type "reversed")) (ha:JA X [a] ta)
    (hs:starEach [a] X.env=[(false,eval a X.env)]:=by rfl):JI X tg (.Call (.Name "reversed" p) [a] [] pos) (diBack ta):=⟨pd_back (g1:=g1) (m1:=m1) (v1:=v1) (ha:=ha.out) (hs:=hs)⟩
end
end DL
namespace L2
open PySem PySem.Spec PyProof.Rows

section
variable {X:Cx} {pos:Pos}
end
end L2
namespace DL
open PySem PySem.Spec L2
open PyProof.Rows hiding St
end DL

namespace DL
open PySem PySem.Spec L2
open PyProof.Rows hiding St

section
variable {X:Cx}
end
end DL
namespace DL
open PySem PySem.Spec L2
open PyProof.Rows hiding St

section
variable {X:Cx}
end
section
variable {X:Cx} {a b c:Expr} {ta tb tc:DTE} {pos:Pos}
end

section
variable {K:PySem.W.Frag}
end
end DL
namespace DL
open PySem PySem.Spec L2
open PyProof.Rows hiding St

section
variable {X:Cx} {x:Expr} {t:DTE}
end
end DL

namespace DL
open PySem PySem.Spec L2
open PyProof.Rows hiding St
noncomputable def nones (X:Cx):St:=List.replicate X.N.length none
noncomputable def Cov (B s0:Heap) (H':Hp) (fs:List Addr) (h:Heap):Prop:=∀ b o,h.get? b=some o→((∃ u,H' b=some u) ∨ ∃ o0,s0.get? b=some o0)→b∉fs→B.get? b=some o
noncomputable def CXr (P:Program) (w:World) (base:Heap):CXT:=fun outer H s E e s'=>∃ a cls a0 H' B,e = .ref a∧s'.os=s.os∧AllBare s'.gens∧Un (frs outer) [] H H' s.heap s'.heap∧HOk P w H' s'.heap∧KT H H' ∧
  base.StaysIn B∧Cov B s.heap H' (frs outer) s'.heap∧Heap.FlyingW B outer a cls a0 s'.heap∧E cls none H'
noncomputable def XP (X:Cx) (mk:Bool) (EX:Value→Hp→Prop):Value→Shared→Prop:=fun e s' =>
  (mk=true∧∃ a cls h vs H',e = .ref a∧EX cls H'∧Heap.MadeExcOf h s'.heap a cls vs∧Inv X [] (nones X) H' { s' with heap:=h }) ∨
  (∃ pins σ Hc sc,Inv X pins σ Hc sc∧CXr X.prog X.w X.base X.stack Hc sc (fun cls _ H'=>EX cls H') e s')
section
variable {P:Program} {w:World} {K:PySem.W.Frag} {mg:Str→Option Value} {base:Heap} {N:List Str} {qual:Str} {scope:Scope} {f:Addr} {cd:Value} {A:Around} {outer:List Env} {s:Shared} {H:Hp} {E:XK}
end
noncomputable def xN (x:Str):Value:=.str x 0
noncomputable def EXof (X:Cx) (H₀:Hp) (Y:DXK):Value→Hp→Prop:=fun c H'=>KT H₀ H'∧∃ (x:Str) (C:Addr) (M':Mem),c = .ref C∧X.mg x=some (.ref C)∧AbsM X.K H' M'∧Y (xN x) M'
noncomputable abbrev Cx.ex' (X:Cx) (mk:Bool) (H₀:Hp) (Y:DXK):Cx:=X.wish (XP X mk (EXof X H₀ Y))
section
variable {X:Cx} {mk:Bool} {H₀:Hp} {Y:DXK} {st:Stmt} {rest:List Stmt} {t u:DTS} {pos:Pos}
end
section
variable {P:Program} {w:World} {K:PySem.W.Frag} {mg:Str→Option Value} {base:Heap}
end
section
variable {X:Cx} {mk:Bool} {H₀:Hp} {Y:DXK} {pos cpos:Pos} {x:Str} {j:Nat} {ps:List Str} {sp:DSp} {p:Pos} {e:Expr} {es:List Expr} {t:DTA}
end
section
variable {X:Cx} {mk:Bool} {H₀:Hp} {Y:DXK} {pos:Pos} {e:Expr} {te:DTE}
end
section
variable {X:Cx} {H₀:Hp} {Y:DXK} {pos cpos np:Pos} {x:Str} {e₀:Expr} {te:DTE}
end
noncomputable abbrev Cx.pinned (X:Cx) (pn:List (Addr × Obj)):Cx:={ X with pn:=pn }
section
variable {X:Cx} {pins pn:List (Addr × Obj)} {σ:St} {H:Hp} {s:Shared}
end
section
variable {X:Cx} {body suite:List Stmt} {b0:Stmt} {c:Str} {np hpos pos:Pos} {tb:DXK→DTS} {ts:DTS}
end
section
variable {X:Cx} {body suite:List Stmt} {b0:Stmt} {c:Str} {np hpos pos:Pos} {tb:DXK→DTS} {ts:DTS}
end
end DL

namespace DL
open PySem PySem.Spec L2
noncomputable def BlK (x:D) (M:Mem) (Q:Bool→Mem→Prop):Prop:=∃ k,x = .bl k∧Q k M
noncomputable def IfK (c:Bool) (A B:Prop):Prop:=if c=true then A else B
noncomputable def SzK (n:Nat) (A:Prop):Prop:=n≤sizeLine∧A
noncomputable def ParK (i j:Nat) (ds:List D) (F:DEnds) (e:Ev) (M:Mem):Prop:=∃ x y,ds=[x,y]∧F.nx ((e.set i (some x)).set j (some y)) M
noncomputable def SeqK (x:D) (M:Mem) (Q:List D→(Mem→Prop)→Mem→Prop):Prop:=∃ ds,seqD M x ds∧Q ds (fun M'=>seqD M' x ds) M
noncomputable def EnumK (xs:List D) (M:Mem) (Q:List D→(Mem→Prop)→Mem→Prop):Prop:=∃ x ds,xs=[x]∧seqD M x ds∧Q (enumD ds) (fun M'=>seqD M' x ds) M
noncomputable def ZipK (xs:List D) (M:Mem) (Q:List D→(Mem→Prop)→Mem→Prop):Prop:=∃ x y ds es,xs=[x,y]∧seqD M x ds∧seqD M y es∧Q (zipD ds es) (fun M'=>seqD M' x ds∧seqD M' y es) M
noncomputable def RngK (xs:List D) (M:Mem) (Q:List D→(Mem→Prop)→Mem→Prop):Prop:=∃ j:Int,xs=[.int j]∧-(2 ^ 62)≤j∧j<2 ^ 62∧Q (rangeD 0 j.toNat) (fun _=>True) M
noncomputable def RevRK (xs:List D) (M:Mem) (Q:List D→(Mem→Prop)→Mem→Prop):Prop:=∃ j:Int,xs=[.int j]∧0≤j∧j<2 ^ 62∧Q (downD (j - 1) j.toNat) (fun _=>True) M
noncomputable def Rng2K (xs:List D) (M:Mem) (Q:List D→(Mem→Prop)→Mem→Prop):Prop:=∃ i j:Int,xs=[.int i,.int j]∧(-(2 ^ 62)≤i∧i<2 ^ 62∧-(2 ^ 62)≤j∧j<2 ^ 62)∧Q (rangeD i (j - i).toNat) (fun _=>True) M
noncomputable def ForK (g:DTG) (tb:DTS) (F:DEnds) (ds:List D) (stay:Mem→Prop) (e:Ev) (M1:Mem):Prop:=∃ W:Nat→Ev→Mem→Prop,W 0 e M1∧(∀ i e M,i≤ds.length→W i e M→stay M) ∧
  (∀ (i:Nat) (d:D) e M,ds[i]? = some d→W i e M→g d e M fun e2 M2=>tb { F with nx:=W (i+1),ct:=W (i+1),bk:=F.nx } e2 M2)∧∀ e M,W ds.length e M→F.nx e M
noncomputable def FrzK (x:D) (M1:Mem) (R:DK):Prop:=∃ p ds,x = .ref p∧M1 p=some (.lst ds)∧R (.vl ds) (delM M1 p)
noncomputable def PartK (x:D) (M:Mem) (Q:Option Int→Mem→Prop):Prop:=∃ i,x = .int i∧Q (some i) M
noncomputable def FgtK (x:D) (M1:Mem) (R:DK):Prop:=∃ M2:Mem,(∀ b o,M2 b=some o→M1 b=some o)∧R x M2
noncomputable def LMK (x:D) (M:Mem) (A:Prop):Prop:=(∃ l ds,x = .ref l∧M l=some (.lst ds))∧A
end DL
namespace DL
open PySem PySem.Spec L2
open PyProof.Rows hiding St

section
variable {e:Ev} {M:Mem} {R:DK} {F:DEnds} {ta tb tc:DTE} {tA tB:DTT} {tr:DTA} {t u:DTS}
theorem z_C {d:D}:dC d e M R=R d M:=rfl
theorem z_Op {g:DR2}:dOp g ta tb e M R=ta e M fun x M1=>tb e M1 fun y M2=>g x y M2 R:=rfl
theorem z_Un {g:D→Mem→DK→Prop}:dUn g ta e M R=ta e M fun x M1=>g x M1 R:=rfl
theorem z_fI {f:Int→Int→D} {i j:Int}:gF (fI f) (.int i) (.int j) M R=R (f i j) M:=propext ⟨fun zz=>by obtain ⟨_,h,r⟩:=zz; cases h; exact r,fun r=>⟨_,rfl,r⟩⟩
theorem z_fB {f:Bool→Bool→D} {i j:Bool}:gF (fB f) (.bl i) (.bl j) M R=R (f i j) M:=propext ⟨fun zz=>by obtain ⟨_,h,r⟩:=zz; cases h; exact r,fun r=>⟨_,rfl,r⟩⟩
theorem z_fS {f:Str→Str→D} {i j:Str}:gF (fS f) (.str i) (.str j) M R=R (f i j) M:=propext ⟨fun zz=>by obtain ⟨_,h,r⟩:=zz; cases h; exact r,fun r=>⟨_,rfl,r⟩⟩
theorem z_gI {C:Int→Int→Prop} {f:Int→Int→D} {i j:Int}:gI C f (.int i) (.int j) M R=(C i j∧R (f i j) M):=propext ⟨fun zz=>by obtain ⟨_,_,h1,h2,c,r⟩:=zz; cases h1; cases h2; exact ⟨c,r⟩,fun ⟨c,r⟩=>⟨_,_,rfl,rfl,c,r⟩⟩
theorem z_gU {f:Int→D} {i:Int}:gU f (.int i) M R=R (f i) M:=propext ⟨fun zz=>by obtain ⟨_,h,r⟩:=zz; cases h; exact r,fun r=>⟨_,rfl,r⟩⟩
theorem z_Test {Q:Bool→Mem→Prop}:dTest ta e M Q=ta e M fun x M'=>BlK x M' Q:=rfl
theorem z_BlK {b:Bool} {Q:Bool→Mem→Prop}:BlK (.bl b) M Q=Q b M:=propext ⟨fun zz=>by obtain ⟨_,h,r⟩:=zz; cases h; exact r,fun r=>⟨_,rfl,r⟩⟩
theorem z_And {Q:Bool→Mem→Prop}:dAnd tA tB e M Q=tA e M fun c M1=>IfK c (tB e M1 Q) (Q false M1):=rfl
theorem z_Or {Q:Bool→Mem→Prop}:dOr tA tB e M Q=tA e M fun c M1=>IfK c (Q true M1) (tB e M1 Q):=rfl
theorem z_Not {Q:Bool→Mem→Prop}:dNot tA e M Q=tA e M fun c M1=>Q (!c) M1:=rfl
theorem z_AndV:dAndV ta tb e M R=ta e M fun x M1=>BlK x M1 fun c M1=>IfK c (tb e M1 R) (R (.bl false) M1):=rfl
theorem z_OrV:dOrV ta tb e M R=ta e M fun x M1=>BlK x M1 fun c M1=>IfK c (R (.bl true) M1) (tb e M1 R):=rfl
theorem z_NotV:dNotV ta e M R=ta e M fun x M1=>BlK x M1 fun c M1=>R (.bl (!c)) M1:=rfl
theorem z_If:dIf tA ta tb e M R=tA e M fun c M1=>IfK c (ta e M1 R) (tb e M1 R):=rfl
theorem z_IfS:dIfS tA t u F e M=tA e M fun c M1=>IfK c (t F e M1) (u F e M1):=rfl
theorem z_Nil {Q:List D→Mem→Prop}:dNil e M Q=Q [] M:=rfl
theorem z_Cons {Q:List D→Mem→Prop}:dCons ta tr e M Q=ta e M fun x M1=>tr e M1 fun xs M2=>Q (x :: xs) M2:=rfl
theorem z_Tup:dTup tr e M R=tr e M fun ds M1=>SzK ds.length (R (.tup ds) M1):=rfl
theorem z_Lst:dLst tr e M R=tr e M fun ds M1=>SzK ds.length (∀ p,M1 p=none→R (.ref p) (updM M1 p (.lst ds))):=rfl
theorem z_Ix {x y z:D} (h:ixD M x y=some z):gIx x y M R=R z M:=propext ⟨fun zz=>by obtain ⟨_,h',r⟩:=zz; rw [h] at h'; cases h'; exact r,fun r=>⟨_,h,r⟩⟩
theorem z_Is {neg:Bool} {x y:D} {b:Bool} (h:isD x y=some b):gIs neg x y M R=R (.bl (neg.xor b)) M:=propext ⟨fun zz=>by obtain ⟨_,h',r⟩:=zz; rw [h] at h'; cases h'; exact r,fun r=>⟨_,h,r⟩⟩
theorem z_EqC {neg:Bool} {x y:D}:gEqC neg x y M R=(cl 60 x=true∧cl 60 y=true∧R (.bl (neg.xor (@decide (x=y) (Classical.propDecidable _)))) M):=rfl
theorem z_Call {sp:DSp} {dds:List D} {Y:DXK}:dCall sp dds Y tr e M R=tr e M fun ds M1=>sp (ds++dds) M1 R Y:=rfl
theorem z_CB {g:DRC}:dCB g tr e M R=tr e M fun ds M1=>g ds M1 R:=rfl
theorem z_Next:dNext F e M=F.nx e M:=rfl
theorem z_Seq:dSeq t u F e M=t { F with nx:=u F } e M:=rfl
theorem z_Drop:dDrop ta F e M=ta e M fun _ M1=>F.nx e M1:=rfl
theorem z_Ret:dRet ta F e M=ta e M F.rt:=rfl
theorem z_Never:dNever F e M=False:=rfl
variable {Q:Ev→Mem→Prop}
theorem z_gName {i:Nat} {d:D}:dgName i d e M Q=Q (e.set i (some d)) M:=rfl
theorem z_gNil:dgNil [] e M Q=Q e M:=propext ⟨fun h=>h.2,fun h=>⟨rfl,h⟩⟩
theorem z_gCons {g:DTG} {gs:DTGs} {d:D} {ds:List D}:dgCons g gs (d :: ds) e M Q=g d e M fun e' M'=>gs ds e' M' Q:=propext ⟨fun zz=>by obtain ⟨_,_,h,r⟩:=zz; cases h; exact r,fun r=>⟨_,_,rfl,r⟩⟩
theorem z_gTupLs {n:Nat} {gs:DTGs} {ds:List D} (h:ds.length=n):dgTupL n gs (.vl ds) e M Q=gs ds e M Q:=propext ⟨fun zz=>by obtain ⟨_,h',_,r⟩:=zz; cases h'; exact r,fun r=>⟨_,rfl,h,r⟩⟩
theorem z_gTup {n:Nat} {gs:DTGs} {ds:List D} (h:ds.length=n):dgTup n gs (.tup ds) e M Q=gs ds e M Q:=propext ⟨fun zz=>by obtain ⟨_,h',_,r⟩:=zz; cases h'; exact r,fun r=>⟨_,rfl,h,r⟩⟩
theorem z_gSub {to ti:DTE} {ts:DTSet} {d:D}:dgSub to ti ts d e M Q=to e M fun o M1=>ti e M1 fun i M2=>ts o i d M2 fun M3=>Q e M3:=rfl
theorem z_Asg {g:DTG}:dAsg ta g F e M=ta e M fun x M1=>g x e M1 F.nx:=rfl
theorem z_Par {i j:Nat}:dPar i j tr F e M=tr e M fun ds M1=>ParK i j ds F e M1:=rfl
theorem z_ParK {i j:Nat} {x y:D}:ParK i j [x,y] F e M=F.nx ((e.set i (some x)).set j (some y)) M:=propext ⟨fun zz=>by obtain ⟨_,_,h,r⟩:=zz; cases h; exact r,fun r=>⟨_,_,rfl,r⟩⟩
theorem z_Abs {i:Int}:gAbs [.int i] M R=R (.int (i.natAbs:Int)) M:=propext ⟨fun zz=>by obtain ⟨_,h,r⟩:=zz; cases h; exact r,fun r=>⟨_,rfl,r⟩⟩
theorem z_Max {i j:Int}:gMax [.int i,.int j] M R=R (.int (max i j)) M:=propext ⟨fun zz=>by obtain ⟨_,_,h,r⟩:=zz; cases h; exact r,fun r=>⟨_,_,rfl,r⟩⟩
theorem z_Len {d:D} {n:Nat} (h:lenD M d=some n):gLen [d] M R=R (.int (n:Int)) M:=propext ⟨fun zz=>by obtain ⟨_,_,h',h2,r⟩:=zz; cases h'; rw [h] at h2; cases h2; exact r,fun r=>⟨_,_,rfl,h,r⟩⟩
theorem z_Isi {d:D} {ty T:String} {b:Bool} (h1:tyD M d=some ty) (h2:subT ty T=some b):gIsi [d,.ty T] M R=R (.bl b) M:=propext ⟨fun zz=>by
  obtain ⟨_,_,_,_,h,h1',h2',r⟩:=zz
  injection h with h h'; subst h; injection h' with h'; injection h' with h'; subst h'
  rw [h1] at h1'; cases h1'; rw [h2] at h2'; cases h2'; exact r,fun r=>⟨_,_,_,_,rfl,h1,h2,r⟩⟩
theorem z_IfK {c:Bool} {A B:Prop}:IfK c A B=((c=true→A)∧(c=false→B)):=by cases c <;> simp [IfK]
theorem z_IfT {A B:Prop}:IfK true A B=A:=by simp [IfK]
theorem z_IfF {A B:Prop}:IfK false A B=B:=by simp [IfK]
theorem z_SzK {n:Nat} {A:Prop} (h:n≤1000):SzK n A=A:=propext ⟨fun h=>h.2,fun a=>⟨sl n h,a⟩⟩

theorem z_v0 {d:D} {r:Ev}:dVar 0 (some d :: r) M R=R d M:=propext ⟨fun zz=>by obtain ⟨_,h,q⟩:=zz; cases h; exact q,fun q=>⟨_,rfl,q⟩⟩
theorem z_s0 {y z:Option D} {r:Ev}:(y :: r:Ev).set 0 z=z :: r:=rfl
theorem z_v1 {x0:Option D} {d:D} {r:Ev}:dVar 1 (x0 :: some d :: r) M R=R d M:=propext ⟨fun zz=>by obtain ⟨_,h,q⟩:=zz; cases h; exact q,fun q=>⟨_,rfl,q⟩⟩
theorem z_s1 {x0:Option D} {y z:Option D} {r:Ev}:(x0 :: y :: r:Ev).set 1 z=x0 :: z :: r:=rfl
theorem z_v2 {x0 x1:Option D} {d:D} {r:Ev}:dVar 2 (x0 :: x1 :: some d :: r) M R=R d M:=propext ⟨fun zz=>by obtain ⟨_,h,q⟩:=zz; cases h; exact q,fun q=>⟨_,rfl,q⟩⟩
theorem z_s2 {x0 x1:Option D} {y z:Option D} {r:Ev}:(x0 :: x1 :: y :: r:Ev).set 2 z=x0 :: x1 :: z :: r:=rfl
theorem z_v3 {x0 x1 x2:Option D} {d:D} {r:Ev}:dVar 3 (x0 :: x1 :: x2 :: some d :: r) M R=R d M:=propext ⟨fun zz=>by obtain ⟨_,h,q⟩:=zz; cases h; exact q,fun q=>⟨_,rfl,q⟩⟩
theorem z_s3 {x0 x1 x2:Option D} {y z:Option D} {r:Ev}:(x0 :: x1 :: x2 :: y :: r:Ev).set 3 z=x0 :: x1 :: x2 :: z :: r:=rfl
theorem z_v4 {x0 x1 x2 x3:Option D} {d:D} {r:Ev}:dVar 4 (x0 :: x1 :: x2 :: x3 :: some d :: r) M R=R d M:=propext ⟨fun zz=>by obtain ⟨_,h,q⟩:=zz; cases h; exact q,fun q=>⟨_,rfl,q⟩⟩
theorem z_s4 {x0 x1 x2 x3:Option D} {y z:Option D} {r:Ev}:(x0 :: x1 :: x2 :: x3 :: y :: r:Ev).set 4 z=x0 :: x1 :: x2 :: x3 :: z :: r:=rfl
theorem z_v5 {x0 x1 x2 x3 x4:Option D} {d:D} {r:Ev}:dVar 5 (x0 :: x1 :: x2 :: x3 :: x4 :: some d :: r) M R=R d M:=propext ⟨fun zz=>by obtain ⟨_,h,q⟩:=zz; cases h; exact q,fun q=>⟨_,rfl,q⟩⟩
theorem z_s5 {x0 x1 x2 x3 x4:Option D} {y z:Option D} {r:Ev}:(x0 :: x1 :: x2 :: x3 :: x4 :: y :: r:Ev).set 5 z=x0 :: x1 :: x2 :: x3 :: x4 :: z :: r:=rfl
theorem z_v6 {x0 x1 x2 x3 x4 x5:Option D} {d:D} {r:Ev}:dVar 6 (x0 :: x1 :: x2 :: x3 :: x4 :: x5 :: some d :: r) M R=R d M:=propext ⟨fun zz=>by obtain ⟨_,h,q⟩:=zz; cases h; exact q,fun q=>⟨_,rfl,q⟩⟩
theorem z_s6 {x0 x1 x2 x3 x4 x5:Option D} {y z:Option D} {r:Ev}:(x0 :: x1 :: x2 :: x3 :: x4 :: x5 :: y :: r:Ev).set 6 z=x0 :: x1 :: x2 :: x3 :: x4 :: x5 :: z :: r:=rfl
theorem z_v7 {x0 x1 x2 x3 x4 x5 x6:Option D} {d:D} {r:Ev}:dVar 7 (x0 :: x1 :: x2 :: x3 :: x4 :: x5 :: x6 :: some d :: r) M R=R d M:=propext ⟨fun zz=>by obtain ⟨_,h,q⟩:=zz; cases h; exact q,fun q=>⟨_,rfl,q⟩⟩
theorem z_s7 {x0 x1 x2 x3 x4 x5 x6:Option D} {y z:Option D} {r:Ev}:(x0 :: x1 :: x2 :: x3 :: x4 :: x5 :: x6 :: y :: r:Ev).set 7 z=x0 :: x1 :: x2 :: x3 :: x4 :: x5 :: x6 :: z :: r:=rfl
theorem z_v8 {x0 x1 x2 x3 x4 x5 x6 x7:Option D} {d:D} {r:Ev}:dVar 8 (x0 :: x1 :: x2 :: x3 :: x4 :: x5 :: x6 :: x7 :: some d :: r) M R=R d M:=propext ⟨fun zz=>by obtain ⟨_,h,q⟩:=zz; cases h; exact q,fun q=>⟨_,rfl,q⟩⟩
theorem z_s8 {x0 x1 x2 x3 x4 x5 x6 x7:Option D} {y z:Option D} {r:Ev}:(x0 :: x1 :: x2 :: x3 :: x4 :: x5 :: x6 :: x7 :: y :: r:Ev).set 8 z=x0 :: x1 :: x2 :: x3 :: x4 :: x5 :: x6 :: x7 :: z :: r:=rfl
theorem z_v9 {x0 x1 x2 x3 x4 x5 x6 x7 x8:Option D} {d:D} {r:Ev}:dVar 9 (x0 :: x1 :: x2 :: x3 :: x4 :: x5 :: x6 :: x7 :: x8 :: some d :: r) M R=R d M:=propext ⟨fun zz=>by obtain ⟨_,h,q⟩:=zz; cases h; exact q,fun q=>⟨_,rfl,q⟩⟩
theorem z_s9 {x0 x1 x2 x3 x4 x5 x6 x7 x8:Option D} {y z:Option D} {r:Ev}:(x0 :: x1 :: x2 :: x3 :: x4 :: x5 :: x6 :: x7 :: x8 :: y :: r:Ev).set 9 z=x0 :: x1 :: x2 :: x3 :: x4 :: x5 :: x6 :: x7 :: x8 :: z :: r:=rfl
theorem z_v10 {x0 x1 x2 x3 x4 x5 x6 x7 x8 x9:Option D} {d:D} {r:Ev}:dVar 10 (x0 :: x1 :: x2 :: x3 :: x4 :: x5 :: x6 :: x7 :: x8 :: x9 :: some d :: r) M R=R d M:=propext ⟨fun zz=>by obtain ⟨_,h,q⟩:=zz; cases h; exact q,fun q=>⟨_,rfl,q⟩⟩
theorem z_s10 {x0 x1 x2 x3 x4 x5 x6 x7 x8 x9:Option D} {y z:Option D} {r:Ev}:(x0 :: x1 :: x2 :: x3 :: x4 :: x5 :: x6 :: x7 :: x8 :: x9 :: y :: r:Ev).set 10 z=x0 :: x1 :: x2 :: x3 :: x4 :: x5 :: x6 :: x7 :: x8 :: x9 :: z :: r:=rfl
theorem z_v11 {x0 x1 x2 x3 x4 x5 x6 x7 x8 x9 x10:Option D} {d:D} {r:Ev}:dVar 11 (x0 :: x1 :: x2 :: x3 :: x4 :: x5 :: x6 :: x7 :: x8 :: x9 :: x10 :: some d :: r) M R=R d M:=propext ⟨fun zz=>by obtain ⟨_,h,q⟩:=zz; cases h; exact q,fun q=>⟨_,rfl,q⟩⟩
theorem z_s11 {x0 x1 x2 x3 x4 x5 x6 x7 x8 x9 x10:Option D} {y z:Option D} {r:Ev}:(x0 :: x1 :: x2 :: x3 :: x4 :: x5 :: x6 :: x7 :: x8 :: x9 :: x10 :: y :: r:Ev).set 11 z=x0 :: x1 :: x2 :: x3 :: x4 :: x5 :: x6 :: x7 :: x8 :: x9 :: x10 :: z :: r:=rfl
theorem z_v12 {x0 x1 x2 x3 x4 x5 x6 x7 x8 x9 x10 x11:Option D} {d:D} {r:Ev}:dVar 12 (x0 :: x1 :: x2 :: x3 :: x4 :: x5 :: x6 :: x7 :: x8 :: x9 :: x10 :: x11 :: some d :: r) M R=R d M:=propext ⟨fun zz=>by obtain ⟨_,h,q⟩:=zz; cases h; exact q,fun q=>⟨_,rfl,q⟩⟩
theorem z_s12 {x0 x1 x2 x3 x4 x5 x6 x7 x8 x9 x10 x11:Option D} {y z:Option D} {r:Ev}:(x0 :: x1 :: x2 :: x3 :: x4 :: x5 :: x6 :: x7 :: x8 :: x9 :: x10 :: x11 :: y :: r:Ev).set 12 z=x0 :: x1 :: x2 :: x3 :: x4 :: x5 :: x6 :: x7 :: x8 :: x9 :: x10 :: x11 :: z :: r:=rfl
theorem z_v13 {x0 x1 x2 x3 x4 x5 x6 x7 x8 x9 x10 x11 x12:Option D} {d:D} {r:Ev}:dVar 13 (x0 :: x1 :: x2 :: x3 :: x4 :: x5 :: x6 :: x7 :: x8 :: x9 :: x10 :: x11 :: x12 :: some d :: r) M R=R d M:=propext ⟨fun zz=>by obtain ⟨_,h,q⟩:=zz; cases h; exact q,fun q=>⟨_,rfl,q⟩⟩
theorem z_s13 {x0 x1 x2 x3 x4 x5 x6 x7 x8 x9 x10 x11 x12:Option D} {y z:Option D} {r:Ev}:(x0 :: x1 :: x2 :: x3 :: x4 :: x5 :: x6 :: x7 :: x8 :: x9 :: x10 :: x11 :: x12 :: y :: r:Ev).set 13 z=x0 :: x1 :: x2 :: x3 :: x4 :: x5 :: x6 :: x7 :: x8 :: x9 :: x10 :: x11 :: x12 :: z :: r:=rfl
theorem z_v14 {x0 x1 x2 x3 x4 x5 x6 x7 x8 x9 x10 x11 x12 x13:Option D} {d:D} {r:Ev}:dVar 14 (x0 :: x1 :: x2 :: x3 :: x4 :: x5 :: x6 :: x7 :: x8 :: x9 :: x10 :: x11 :: x12 :: x13 :: some d :: r) M R=R d M:=propext ⟨fun zz=>by obtain ⟨_,h,q⟩:=zz; cases h; exact q,fun q=>⟨_,rfl,q⟩⟩
theorem z_s14 {x0 x1 x2 x3 x4 x5 x6 x7 x8 x9 x10 x11 x12 x13:Option D} {y z:Option D} {r:Ev}:(x0 :: x1 :: x2 :: x3 :: x4 :: x5 :: x6 :: x7 :: x8 :: x9 :: x10 :: x11 :: x12 :: x13 :: y :: r:Ev).set 14 z=x0 :: x1 :: x2 :: x3 :: x4 :: x5 :: x6 :: x7 :: x8 :: x9 :: x10 :: x11 :: x12 :: x13 :: z :: r:=rfl
theorem seqD_tup {M:Mem} {ds es:List D}:seqD M (.tup ds) es=(es=ds):=by
  apply propext
  constructor
  · intro h
    rcases h with h | ⟨_,h,_⟩ | h
    · injection h with h; exact h.symm
    · exact absurd h (by intro z; cases z)
    · exact absurd h (by intro z; cases z)
  · intro h; exact .inl (by rw [h])
theorem seqD_vl {M:Mem} {ds es:List D}:seqD M (.vl ds) es=(es=ds):=by
  apply propext
  constructor
  · intro h
    rcases h with h | ⟨_,h,_⟩ | h
    · exact absurd h (by intro z; cases z)
    · exact absurd h (by intro z; cases z)
    · injection h with h; exact h.symm
  · intro h; exact .inr (.inr (by rw [h]))
theorem atI_lit {ds:List D} {n:Nat} {d:D} (h:ds[n]? = some d):atI ds (n:Int)=some d:=by
  obtain ⟨hl,_⟩:=List.getElem?_eq_some_iff.mp h
  unfold atI ixN
  rw [if_pos (Int.natCast_nonneg n),if_pos (by omega)]
  simpa using h
theorem z_LstV:dLstV tr e M R=tr e M fun ds M1=>SzK ds.length (R (.vl ds) M1):=rfl
theorem z_CatV:dCatV ta tb e M R=ta e M fun x M1=>tb e M1 fun y M2=>gCatV x y M2 R:=rfl
theorem z_SlV {tl th:DTO}:dSlV ta tl th e M R=ta e M fun x M1=>tl e M1 fun l M2=>th e M2 fun u M3=>gSlV x l u M3 R:=rfl
theorem z_NoPart {Q:Option Int→Mem→Prop}:dNoPart e M Q=Q none M:=rfl
theorem z_Part {Q:Option Int→Mem→Prop}:dPart ta e M Q=ta e M fun x M1=>PartK x M1 Q:=rfl
theorem z_PartK {i:Int} {Q:Option Int→Mem→Prop}:PartK (.int i) M Q=Q (some i) M:=propext ⟨fun zz=>by obtain ⟨_,h,r⟩:=zz; cases h; exact r,fun r=>⟨_,rfl,r⟩⟩
theorem z_ListV:dListV tr e M R=tr e M fun ds M1=>gListV ds M1 R:=rfl
theorem z_gListT {ds:List D}:gListV [.tup ds] M R=R (.vl ds) M:=propext ⟨fun zz=>by obtain ⟨_,_,h,h2,r⟩:=zz; cases h; rw [seqD_tup] at h2; subst h2; exact r,fun r=>⟨_,_,rfl,.inl rfl,r⟩⟩
theorem z_gListVl {ds:List D}:gListV [.vl ds] M R=R (.vl ds) M:=propext ⟨fun zz=>by obtain ⟨_,_,h,h2,r⟩:=zz; cases h; rw [seqD_vl] at h2; subst h2; exact r,fun r=>⟨_,_,rfl,.inr (.inr rfl),r⟩⟩
theorem z_gTupVl {ds:List D}:gTupL [.vl ds] M R=R (.tup ds) M:=propext ⟨fun zz=>by obtain ⟨_,_,h,h2,r⟩:=zz; cases h; cases h2; exact r,fun r=>⟨_,_,rfl,rfl,r⟩⟩
theorem z_gCatVl {xs ys:List D}:gCatV (.vl xs) (.vl ys) M R=SzK (xs.length+ys.length) (R (.vl (xs++ys)) M):=propext ⟨fun zz=>by obtain ⟨_,_,h,h2,z,r⟩:=zz; cases h; cases h2; exact ⟨z,r⟩,fun ⟨z,r⟩=>⟨_,_,rfl,rfl,z,r⟩⟩
theorem z_gSlVl {xs:List D} {lo hi:Option Int}:gSlV (.vl xs) lo hi M R=R (.vl (cutD xs lo hi)) M:=propext ⟨fun h=>by
  rcases h with ⟨_,h,r⟩ | ⟨_,h,_⟩
  · cases h; exact r
  · exact (nomatch h),fun r=>.inl ⟨_,rfl,r⟩⟩
theorem z_gSlVt {xs:List D} {lo hi:Option Int}:gSlV (.tup xs) lo hi M R=(¬ (HT.sIx xs.length 0 lo=0∧HT.sIx xs.length xs.length hi=xs.length)∧R (.tup (cutD xs lo hi)) M):=propext ⟨fun h=>by
  rcases h with ⟨_,h,r⟩ | ⟨_,h,hw,r⟩
  · cases h
  · cases h; exact ⟨hw,r⟩,fun ⟨hw,r⟩=>.inr ⟨_,rfl,hw,r⟩⟩
theorem z_RevS:dRevS ta e M R=ta e M fun x M1=>gRevS x M1 R:=rfl
theorem z_gRevSV {ds:List D}:gRevS (.vl ds) M R=R (.vl ds.reverse) M:=propext ⟨fun zz=>by obtain ⟨_,h,r⟩:=zz; rw [seqD_vl] at h; subst h; exact r,fun r=>⟨_,.inr (.inr rfl),r⟩⟩
theorem z_gRevST {ds:List D}:gRevS (.tup ds) M R=R (.vl ds.reverse) M:=propext ⟨fun zz=>by obtain ⟨_,h,r⟩:=zz; rw [seqD_tup] at h; subst h; exact r,fun r=>⟨_,.inl rfl,r⟩⟩
theorem z_Frz:dFrz ta e M R=ta e M fun x M1=>FrzK x M1 R:=rfl
theorem z_FrzK {p:Addr} {ds:List D} (h:M p=some (.lst ds)):FrzK (.ref p) M R=R (.vl ds) (delM M p):=propext ⟨fun zz=>by obtain ⟨_,_,e,h',r⟩:=zz; cases e; rw [h] at h'; cases h'; exact r,fun r=>⟨_,_,rfl,h,r⟩⟩
theorem z_CompV {n:Nat} {caps:List Nat} {ti:DTI} {g:DTG} {tc:DTIfs} {te:DTE}:dCompV n caps ti g tc te e M R=ti e M fun ds stay M1=>CompV (capE n caps e) g tc te ds stay M1 R:=rfl
theorem z_CompL {n:Nat} {caps:List Nat} {ti:DTI} {g:DTG} {tc:DTIfs} {te:DTE}:dCompL n caps ti g tc te e M R=ti e M fun ds stay M1=>CompL (capE n caps e) g tc te ds stay M1 R:=rfl
theorem z_Yes {Q:Bool→Mem→Prop}:dYes e M Q=Q true M:=rfl
section
variable {Q:List D→(Mem→Prop)→Mem→Prop}
theorem z_diSeq:diSeq ta e M Q=ta e M fun x M1=>SeqK x M1 Q:=rfl
theorem z_SeqT {ds:List D}:SeqK (.tup ds) M Q=Q ds (fun M'=>seqD M' (.tup ds) ds) M:=propext ⟨fun zz=>by obtain ⟨_,h,r⟩:=zz; rw [seqD_tup] at h; subst h; exact r,fun r=>⟨_,.inl rfl,r⟩⟩
theorem z_SeqV {ds:List D}:SeqK (.vl ds) M Q=Q ds (fun M'=>seqD M' (.vl ds) ds) M:=propext ⟨fun zz=>by obtain ⟨_,h,r⟩:=zz; rw [seqD_vl] at h; subst h; exact r,fun r=>⟨_,.inr (.inr rfl),r⟩⟩
theorem z_diEnum:diEnum tr e M Q=tr e M fun xs M1=>EnumK xs M1 Q:=rfl
theorem z_EnumT {ds:List D}:EnumK [.tup ds] M Q=Q (enumD ds) (fun M'=>seqD M' (.tup ds) ds) M:=propext ⟨fun zz=>by obtain ⟨_,_,h,h2,r⟩:=zz; cases h; rw [seqD_tup] at h2; subst h2; exact r,fun r=>⟨_,_,rfl,.inl rfl,r⟩⟩
theorem z_EnumV {ds:List D}:EnumK [.vl ds] M Q=Q (enumD ds) (fun M'=>seqD M' (.vl ds) ds) M:=propext ⟨fun zz=>by obtain ⟨_,_,h,h2,r⟩:=zz; cases h; rw [seqD_vl] at h2; subst h2; exact r,fun r=>⟨_,_,rfl,.inr (.inr rfl),r⟩⟩
theorem z_diZip:diZip tr e M Q=tr e M fun xs M1=>ZipK xs M1 Q:=rfl
theorem z_ZipTT {ds es:List D}:ZipK [.tup ds,.tup es] M Q=Q (zipD ds es) (fun M'=>seqD M' (.tup ds) ds∧seqD M' (.tup es) es) M:=propext ⟨fun zz=>by obtain ⟨_,_,_,_,h,h2,h3,r⟩:=zz; cases h; rw [seqD_tup] at h2 h3; subst h2; subst h3; exact r,fun r=>⟨_,_,_,_,rfl,.inl rfl,.inl rfl,r⟩⟩
theorem z_ZipVV {ds es:List D}:ZipK [.vl ds,.vl es] M Q=Q (zipD ds es) (fun M'=>seqD M' (.vl ds) ds∧seqD M' (.vl es) es) M:=propext ⟨fun zz=>by obtain ⟨_,_,_,_,h,h2,h3,r⟩:=zz; cases h; rw [seqD_vl] at h2 h3; subst h2; subst h3; exact r,fun r=>⟨_,_,_,_,rfl,.inr (.inr rfl),.inr (.inr rfl),r⟩⟩
theorem z_ZipTV {ds es:List D}:ZipK [.tup ds,.vl es] M Q=Q (zipD ds es) (fun M'=>seqD M' (.tup ds) ds∧seqD M' (.vl es) es) M:=propext ⟨fun zz=>by obtain ⟨_,_,_,_,h,h2,h3,r⟩:=zz; cases h; rw [seqD_tup] at h2; rw [seqD_vl] at h3; subst h2; subst h3; exact r,fun r=>⟨_,_,_,_,rfl,.inl rfl,.inr (.inr rfl),r⟩⟩
theorem z_ZipVT {ds es:List D}:ZipK [.vl ds,.tup es] M Q=Q (zipD ds es) (fun M'=>seqD M' (.vl ds) ds∧seqD M' (.tup es) es) M:=propext ⟨fun zz=>by obtain ⟨_,_,_,_,h,h2,h3,r⟩:=zz; cases h; rw [seqD_vl] at h2; rw [seqD_tup] at h3; subst h2; subst h3; exact r,fun r=>⟨_,_,_,_,rfl,.inr (.inr rfl),.inl rfl,r⟩⟩
theorem z_diRng:diRng tr e M Q=tr e M fun xs M1=>RngK xs M1 Q:=rfl
theorem z_RngK {j:Int}:RngK [.int j] M Q=((-(2 ^ 62)≤j∧j<2 ^ 62)∧Q (rangeD 0 j.toNat) (fun _=>True) M):=propext ⟨fun zz=>by obtain ⟨_,h,a,b,r⟩:=zz; cases h; exact ⟨⟨a,b⟩,r⟩,fun ⟨⟨a,b⟩,r⟩=>⟨_,rfl,a,b,r⟩⟩
theorem z_diBack:diBack tr e M Q=tr e M fun ds M1=>BackK ds M1 Q:=rfl
theorem z_BackK {xs:List D}:BackK [.vl xs] M Q=Q xs.reverse (fun _=>True) M:=propext ⟨fun zz=>by obtain ⟨_,h,r⟩:=zz; cases h; exact r,fun r=>⟨_,rfl,r⟩⟩
theorem z_diRevR:diRevR tr e M Q=tr e M fun xs M1=>RevRK xs M1 Q:=rfl
theorem z_RevRK {j:Int}:RevRK [.int j] M Q=((0≤j∧j<2 ^ 62)∧Q (downD (j - 1) j.toNat) (fun _=>True) M):=propext ⟨fun zz=>by obtain ⟨_,h,a,b,r⟩:=zz; cases h; exact ⟨⟨a,b⟩,r⟩,fun zz=>⟨j,rfl,zz.1.1,zz.1.2,zz.2⟩⟩
theorem z_diRng2:diRng2 tr e M Q=tr e M fun xs M1=>Rng2K xs M1 Q:=rfl
theorem z_Rng2K {i j:Int}:Rng2K [.int i,.int j] M Q=((-(2 ^ 62)≤i∧i<2 ^ 62∧-(2 ^ 62)≤j∧j<2 ^ 62)∧Q (rangeD i (j - i).toNat) (fun _=>True) M):=propext ⟨fun zz=>by obtain ⟨_,_,h,a,r⟩:=zz; cases h; exact ⟨a,r⟩,fun ⟨a,r⟩=>⟨_,_,rfl,a,r⟩⟩
end
theorem z_For {ti:DTI} {g:DTG}:dFor ti g t F e M=ti e M fun ds stay M1=>ForK g t F ds stay e M1:=rfl
theorem ForK.by {g:DTG} {ds:List D} {stay:Mem→Prop} {M1:Mem} (W:Nat→Ev→Mem→Prop) (w0:W 0 e M1) (st:∀ i e M,i≤ds.length→W i e M→stay M)
    (turn:∀ (i:Nat) (d:D) e M,ds[i]? = some d→W i e M→g d e M fun e2 M2=>t { F with nx:=W (i+1),ct:=W (i+1),bk:=F.nx } e2 M2) (done:∀ e M,W ds.length e M→F.nx e M):ForK g t F ds stay e M1:=⟨W,w0,st,turn,done⟩
theorem WhileBy {F:DEnds} (W:Nat→Ev→Mem→Prop) (m:Nat) (w0:W m e M) (turn:∀ m e M,W m e M→tA e M fun b M1=>IfK b (t { F with nx:=fun e' M'=>∃ m',m'<m∧W m' e' M',ct:=fun e' M'=>∃ m',m'<m∧W m' e' M',bk:=F.nx } e M1) (F.nx e M1)):dWhile tA t F e M:=⟨W,⟨m,w0⟩,turn⟩
theorem JoinBy {F:DEnds} (P:Ev→Mem→Prop) (h1:t { F with nx:=P } e M) (h2:∀ e' M',P e' M'→u F e' M'):dSeqM t u F e M:=⟨P,h1,h2⟩
theorem z_LM {g:DRM}:dLM g ta tr e M R=ta e M fun x M1=>LMK x M1 (tr e M1 fun xs M2=>g x xs M2 R):=rfl
theorem z_ixT0 {x0:D} {r:List D}:gIx (.tup (x0 :: r)) (.int 0) M R=R x0 M:=z_Ix (atI_lit (n:=0) rfl)
theorem z_ixV0 {x0:D} {r:List D}:gIx (.vl (x0 :: r)) (.int 0) M R=R x0 M:=z_Ix (atI_lit (n:=0) rfl)
theorem z_ixT1 {x0 x1:D} {r:List D}:gIx (.tup (x0 :: x1 :: r)) (.int 1) M R=R x1 M:=z_Ix (atI_lit (n:=1) rfl)
theorem z_ixV1 {x0 x1:D} {r:List D}:gIx (.vl (x0 :: x1 :: r)) (.int 1) M R=R x1 M:=z_Ix (atI_lit (n:=1) rfl)
theorem z_ixT2 {x0 x1 x2:D} {r:List D}:gIx (.tup (x0 :: x1 :: x2 :: r)) (.int 2) M R=R x2 M:=z_Ix (atI_lit (n:=2) rfl)
theorem z_ixV2 {x0 x1 x2:D} {r:List D}:gIx (.vl (x0 :: x1 :: x2 :: r)) (.int 2) M R=R x2 M:=z_Ix (atI_lit (n:=2) rfl)
theorem z_ixT3 {x0 x1 x2 x3:D} {r:List D}:gIx (.tup (x0 :: x1 :: x2 :: x3 :: r)) (.int 3) M R=R x3 M:=z_Ix (atI_lit (n:=3) rfl)
theorem z_ixV3 {x0 x1 x2 x3:D} {r:List D}:gIx (.vl (x0 :: x1 :: x2 :: x3 :: r)) (.int 3) M R=R x3 M:=z_Ix (atI_lit (n:=3) rfl)
theorem z_ixT4 {x0 x1 x2 x3 x4:D} {r:List D}:gIx (.tup (x0 :: x1 :: x2 :: x3 :: x4 :: r)) (.int 4) M R=R x4 M:=z_Ix (atI_lit (n:=4) rfl)
theorem z_ixV4 {x0 x1 x2 x3 x4:D} {r:List D}:gIx (.vl (x0 :: x1 :: x2 :: x3 :: x4 :: r)) (.int 4) M R=R x4 M:=z_Ix (atI_lit (n:=4) rfl)
theorem z_ixT5 {x0 x1 x2 x3 x4 x5:D} {r:List D}:gIx (.tup (x0 :: x1 :: x2 :: x3 :: x4 :: x5 :: r)) (.int 5) M R=R x5 M:=z_Ix (atI_lit (n:=5) rfl)
theorem z_ixV5 {x0 x1 x2 x3 x4 x5:D} {r:List D}:gIx (.vl (x0 :: x1 :: x2 :: x3 :: x4 :: x5 :: r)) (.int 5) M R=R x5 M:=z_Ix (atI_lit (n:=5) rfl)
theorem z_ixT6 {x0 x1 x2 x3 x4 x5 x6:D} {r:List D}:gIx (.tup (x0 :: x1 :: x2 :: x3 :: x4 :: x5 :: x6 :: r)) (.int 6) M R=R x6 M:=z_Ix (atI_lit (n:=6) rfl)
theorem z_ixV6 {x0 x1 x2 x3 x4 x5 x6:D} {r:List D}:gIx (.vl (x0 :: x1 :: x2 :: x3 :: x4 :: x5 :: x6 :: r)) (.int 6) M R=R x6 M:=z_Ix (atI_lit (n:=6) rfl)
theorem z_ixT7 {x0 x1 x2 x3 x4 x5 x6 x7:D} {r:List D}:gIx (.tup (x0 :: x1 :: x2 :: x3 :: x4 :: x5 :: x6 :: x7 :: r)) (.int 7) M R=R x7 M:=z_Ix (atI_lit (n:=7) rfl)
theorem z_ixV7 {x0 x1 x2 x3 x4 x5 x6 x7:D} {r:List D}:gIx (.vl (x0 :: x1 :: x2 :: x3 :: x4 :: x5 :: x6 :: x7 :: r)) (.int 7) M R=R x7 M:=z_Ix (atI_lit (n:=7) rfl)
theorem z_sz0 {A:Prop}:SzK (0) A=A:=z_SzK (by decide)
theorem z_sz1 {A:Prop}:SzK (0+1) A=A:=z_SzK (by decide)
theorem z_sz2 {A:Prop}:SzK (0+1+1) A=A:=z_SzK (by decide)
theorem z_sz3 {A:Prop}:SzK (0+1+1+1) A=A:=z_SzK (by decide)
theorem z_sz4 {A:Prop}:SzK (0+1+1+1+1) A=A:=z_SzK (by decide)
theorem z_sz5 {A:Prop}:SzK (0+1+1+1+1+1) A=A:=z_SzK (by decide)
theorem z_sz6 {A:Prop}:SzK (0+1+1+1+1+1+1) A=A:=z_SzK (by decide)
theorem z_sz7 {A:Prop}:SzK (0+1+1+1+1+1+1+1) A=A:=z_SzK (by decide)
theorem z_sz8 {A:Prop}:SzK (0+1+1+1+1+1+1+1+1) A=A:=z_SzK (by decide)
theorem z_sz9 {A:Prop}:SzK (0+1+1+1+1+1+1+1+1+1) A=A:=z_SzK (by decide)
theorem z_clI60 {i:Int}:cl 60 (.int i)=true:=rfl
theorem z_clN60:cl 60 .non=true:=rfl
theorem z_clT60 {ds:List D}:cl 60 (.tup ds)=clL 59 ds:=rfl
theorem z_clV60 {ds:List D}:cl 60 (.vl ds)=clL 59 ds:=rfl
theorem z_cln59:clL 59 []=true:=rfl
theorem z_clc59 {d:D} {r:List D}:clL 59 (d :: r)=(cl 59 d && clL 59 r):=rfl
theorem z_clI59 {i:Int}:cl 59 (.int i)=true:=rfl
theorem z_clN59:cl 59 .non=true:=rfl
theorem z_clT59 {ds:List D}:cl 59 (.tup ds)=clL 58 ds:=rfl
theorem z_clV59 {ds:List D}:cl 59 (.vl ds)=clL 58 ds:=rfl
theorem z_cln58:clL 58 []=true:=rfl
theorem z_clc58 {d:D} {r:List D}:clL 58 (d :: r)=(cl 58 d && clL 58 r):=rfl
theorem z_clI58 {i:Int}:cl 58 (.int i)=true:=rfl
theorem z_clN58:cl 58 .non=true:=rfl
theorem z_clT58 {ds:List D}:cl 58 (.tup ds)=clL 57 ds:=rfl
theorem z_clV58 {ds:List D}:cl 58 (.vl ds)=clL 57 ds:=rfl
theorem z_cln57:clL 57 []=true:=rfl
theorem z_clc57 {d:D} {r:List D}:clL 57 (d :: r)=(cl 57 d && clL 57 r):=rfl
theorem z_clI57 {i:Int}:cl 57 (.int i)=true:=rfl
theorem z_clN57:cl 57 .non=true:=rfl
theorem z_clT57 {ds:List D}:cl 57 (.tup ds)=clL 56 ds:=rfl
theorem z_clV57 {ds:List D}:cl 57 (.vl ds)=clL 56 ds:=rfl
theorem z_cln56:clL 56 []=true:=rfl
theorem z_clc56 {d:D} {r:List D}:clL 56 (d :: r)=(cl 56 d && clL 56 r):=rfl
theorem z_clI56 {i:Int}:cl 56 (.int i)=true:=rfl
theorem z_clN56:cl 56 .non=true:=rfl
theorem z_clT56 {ds:List D}:cl 56 (.tup ds)=clL 55 ds:=rfl
theorem z_clV56 {ds:List D}:cl 56 (.vl ds)=clL 55 ds:=rfl
theorem z_cln55:clL 55 []=true:=rfl
theorem z_clc55 {d:D} {r:List D}:clL 55 (d :: r)=(cl 55 d && clL 55 r):=rfl
theorem z_clI55 {i:Int}:cl 55 (.int i)=true:=rfl
theorem z_clN55:cl 55 .non=true:=rfl
theorem z_clT55 {ds:List D}:cl 55 (.tup ds)=clL 54 ds:=rfl
theorem z_clV55 {ds:List D}:cl 55 (.vl ds)=clL 54 ds:=rfl
theorem z_cln54:clL 54 []=true:=rfl
theorem z_clc54 {d:D} {r:List D}:clL 54 (d :: r)=(cl 54 d && clL 54 r):=rfl
theorem z_LenV {xs:List D}:gLen [.vl xs] M R=R (.int (xs.length:Int)) M:=z_Len rfl
theorem z_LenT {xs:List D}:gLen [.tup xs] M R=R (.int (xs.length:Int)) M:=z_Len rfl
theorem z_szk1 {A:Prop}:SzK 1 A=A:=z_SzK (by decide)
theorem z_szk2 {A:Prop}:SzK 2 A=A:=z_SzK (by decide)
theorem z_szk3 {A:Prop}:SzK 3 A=A:=z_SzK (by decide)
theorem z_szk4 {A:Prop}:SzK 4 A=A:=z_SzK (by decide)
theorem z_szk5 {A:Prop}:SzK 5 A=A:=z_SzK (by decide)
theorem z_szk6 {A:Prop}:SzK 6 A=A:=z_SzK (by decide)
theorem z_szk7 {A:Prop}:SzK 7 A=A:=z_SzK (by decide)
theorem z_szk8 {A:Prop}:SzK 8 A=A:=z_SzK (by decide)
theorem z_szk9 {A:Prop}:SzK 9 A=A:=z_SzK (by decide)
theorem z_szk10 {A:Prop}:SzK 10 A=A:=z_SzK (by decide)
theorem z_szk11 {A:Prop}:SzK 11 A=A:=z_SzK (by decide)
theorem z_szk12 {A:Prop}:SzK 12 A=A:=z_SzK (by decide)
theorem z_isiDTuple:gIsi [.dic,.ty "tuple"] M R=R (.bl false) M:=z_Isi rfl rfl
theorem z_isiDList:gIsi [.dic,.ty "list"] M R=R (.bl false) M:=z_Isi rfl rfl
theorem z_isiDInt:gIsi [.dic,.ty "int"] M R=R (.bl false) M:=z_Isi rfl rfl
theorem z_isiDBool:gIsi [.dic,.ty "bool"] M R=R (.bl false) M:=z_Isi rfl rfl
theorem z_isiDStr:gIsi [.dic,.ty "str"] M R=R (.bl false) M:=z_Isi rfl rfl
theorem z_isiTTuple {ds:List D}:gIsi [.tup ds,.ty "tuple"] M R=R (.bl true) M:=z_Isi rfl rfl
theorem z_isiTList {ds:List D}:gIsi [.tup ds,.ty "list"] M R=R (.bl false) M:=z_Isi rfl rfl
theorem z_isiTInt {ds:List D}:gIsi [.tup ds,.ty "int"] M R=R (.bl false) M:=z_Isi rfl rfl
theorem z_isiTBool {ds:List D}:gIsi [.tup ds,.ty "bool"] M R=R (.bl false) M:=z_Isi rfl rfl
theorem z_isiTStr {ds:List D}:gIsi [.tup ds,.ty "str"] M R=R (.bl false) M:=z_Isi rfl rfl
theorem z_isiVTuple {ds:List D}:gIsi [.vl ds,.ty "tuple"] M R=R (.bl false) M:=z_Isi rfl rfl
theorem z_isiVList {ds:List D}:gIsi [.vl ds,.ty "list"] M R=R (.bl true) M:=z_Isi rfl rfl
theorem z_isiVInt {ds:List D}:gIsi [.vl ds,.ty "int"] M R=R (.bl false) M:=z_Isi rfl rfl
theorem z_isiVBool {ds:List D}:gIsi [.vl ds,.ty "bool"] M R=R (.bl false) M:=z_Isi rfl rfl
theorem z_isiVStr {ds:List D}:gIsi [.vl ds,.ty "str"] M R=R (.bl false) M:=z_Isi rfl rfl
theorem z_isiITuple {i:Int}:gIsi [.int i,.ty "tuple"] M R=R (.bl false) M:=z_Isi rfl rfl
theorem z_isiIList {i:Int}:gIsi [.int i,.ty "list"] M R=R (.bl false) M:=z_Isi rfl rfl
theorem z_isiIInt {i:Int}:gIsi [.int i,.ty "int"] M R=R (.bl true) M:=z_Isi rfl rfl
theorem z_isiIBool {i:Int}:gIsi [.int i,.ty "bool"] M R=R (.bl false) M:=z_Isi rfl rfl
theorem z_isiIStr {i:Int}:gIsi [.int i,.ty "str"] M R=R (.bl false) M:=z_Isi rfl rfl
theorem z_isiNTuple:gIsi [.non,.ty "tuple"] M R=R (.bl false) M:=z_Isi rfl rfl
theorem z_isiNList:gIsi [.non,.ty "list"] M R=R (.bl false) M:=z_Isi rfl rfl
theorem z_isiNInt:gIsi [.non,.ty "int"] M R=R (.bl false) M:=z_Isi rfl rfl
theorem z_isiNBool:gIsi [.non,.ty "bool"] M R=R (.bl false) M:=z_Isi rfl rfl
theorem z_isiNStr:gIsi [.non,.ty "str"] M R=R (.bl false) M:=z_Isi rfl rfl
theorem z_isiSTuple {x:Str}:gIsi [.str x,.ty "tuple"] M R=R (.bl false) M:=z_Isi rfl rfl
theorem z_isiSList {x:Str}:gIsi [.str x,.ty "list"] M R=R (.bl false) M:=z_Isi rfl rfl
theorem z_isiSInt {x:Str}:gIsi [.str x,.ty "int"] M R=R (.bl false) M:=z_Isi rfl rfl
theorem z_isiSBool {x:Str}:gIsi [.str x,.ty "bool"] M R=R (.bl false) M:=z_Isi rfl rfl
theorem z_isiSStr {x:Str}:gIsi [.str x,.ty "str"] M R=R (.bl true) M:=z_Isi rfl rfl
theorem z_isiBTuple {b:Bool}:gIsi [.bl b,.ty "tuple"] M R=R (.bl false) M:=z_Isi rfl rfl
theorem z_isiBList {b:Bool}:gIsi [.bl b,.ty "list"] M R=R (.bl false) M:=z_Isi rfl rfl
theorem z_isiBInt {b:Bool}:gIsi [.bl b,.ty "int"] M R=R (.bl true) M:=z_Isi rfl rfl
theorem z_isiBBool {b:Bool}:gIsi [.bl b,.ty "bool"] M R=R (.bl true) M:=z_Isi rfl rfl
theorem z_isiBStr {b:Bool}:gIsi [.bl b,.ty "str"] M R=R (.bl false) M:=z_Isi rfl rfl
theorem z_Fgt:dFgt ta e M R=ta e M fun x M1=>FgtK x M1 R:=rfl
theorem LMK_of {l:Addr} {ds:List D} {A:Prop} (h:M l=some (.lst ds)) (a:A):LMK (.ref l) M A:=⟨⟨l,ds,rfl,h⟩,a⟩
theorem App_of {l:Addr} {ds:List D} {v:D} (h:M l=some (.lst ds)) (hz:ds.length<1000) (r:R .non (updM M l (.lst (ds++[v])))):gAppend (.ref l) [v] M R:=⟨l,ds,v,rfl,rfl,h,Nat.lt_of_lt_of_le hz (by decide),r⟩
theorem Ins_of {l:Addr} {ds:List D} {k:Nat} {v:D} (h:M l=some (.lst ds)) (hk:k≤ds.length) (hz:ds.length<1000) (r:R .non (updM M l (.lst (ds.take k++v :: ds.drop k)))):gInsert (.ref l) [.int (k:Int),v] M R:=⟨l,ds,v,k,rfl,rfl,h,hk,Nat.lt_of_lt_of_le hz (by decide),r⟩
theorem Ext_of {l b:Addr} {ds es:List D} (h:M l=some (.lst ds)) (hb:M b=some (.lst es)) (hz:ds.length+es.length≤1000) (r:R .non (updM M l (.lst (ds++es)))):gExtend (.ref l) [.ref b] M R:=⟨l,b,ds,es,rfl,rfl,h,hb,Nat.le_trans hz (by decide),r⟩
theorem Fgt_of {x:D} {M1 M2:Mem} (h:∀ b o,M2 b=some o→M1 b=some o) (r:R x M2):FgtK x M1 R:=⟨M2,h,r⟩
end
end DL

namespace DL
open PySem PySem.Spec L2
open PyProof.Rows hiding St
theorem all0 {p:Str→Prop}:∀ x∈([]:List Str),p x:=fun _ h=>nomatch h
section
variable {e0:Ev} {g:DTG} {te:DTE} {tc:DTIfs} {ds:List D} {stay:Mem→Prop} {M1:Mem} {E:List D→Mem→Prop}
theorem compV_map {α:Type} {xs:List α} {enc:α→D} (f:α→D) (hn:xs.length≤1000) (hst:stay M1) (step:∀ x∈xs,∀ Q:DK,Q (f x) M1→g (enc x) e0 M1 fun e2 M2=>te e2 M2 Q) (h:E (xs.map f) M1):∃ W,CompW e0 g dYes te (xs.map enc) stay M1 E W:=by
  refine ⟨fun i ys M=>M=M1∧ys=(xs.take i).map f,⟨⟨rfl,rfl⟩,fun i ys M _ w=>by rw [w.1]; exact hst,fun i d ys M hd w=>?_,fun ys M w=>?_⟩⟩
  · obtain ⟨rfl,rfl⟩:=w
    rw [List.getElem?_map] at hd
    cases hx:xs[i]? with
    | none=>rw [hx] at hd; cases hd
    | some x =>
      rw [hx] at hd
      obtain rfl:enc x=d:=by simpa using hd
      refine step x (List.mem_of_getElem? hx) _ ⟨?_,rfl,?_⟩
      · rw [List.length_map,List.length_take]
        exact Nat.lt_of_le_of_lt (Nat.le_trans (Nat.min_le_right _ _) hn) (by decide)
      · obtain ⟨hl,he⟩:=List.getElem?_eq_some_iff.mp hx
        rw [List.take_succ_eq_append_getElem hl,List.map_append,he]; rfl
  · obtain ⟨rfl,rfl⟩:=w
    rw [List.length_map,List.take_length]; exact h
theorem compV_filter {α:Type} {xs:List α} {enc:α→D} (p:α→Bool) (f:α→D) (hn:xs.length≤1000) (hst:stay M1)
    (step:∀ x∈xs,∀ (Q:DK) (N:Prop),(p x=true→Q (f x) M1)→(p x=false→N)→g (enc x) e0 M1 fun e2 M2=>tc e2 M2 fun b M3=>IfK b (te e2 M3 Q) (M3=M1∧N)) (h:E ((xs.filter p).map f) M1):∃ W,CompW e0 g tc te (xs.map enc) stay M1 E W:=by
  refine ⟨fun i ys M=>M=M1∧ys=((xs.take i).filter p).map f,⟨⟨rfl,rfl⟩,fun i ys M _ w=>by rw [w.1]; exact hst,fun i d ys M hd w=>?_,fun ys M w=>?_⟩⟩
  · obtain ⟨rfl,rfl⟩:=w
    rw [List.getElem?_map] at hd
    cases hx:xs[i]? with
    | none=>rw [hx] at hd; cases hd
    | some x =>
      rw [hx] at hd
      obtain rfl:enc x=d:=by simpa using hd
      obtain ⟨hl,he⟩:=List.getElem?_eq_some_iff.mp hx
      have hle:(((xs.take i).filter p).map f).length<sizeLine:=by
        rw [List.length_map]
        have h1:=List.length_filter_le p (xs.take i)
        rw [List.length_take] at h1
        exact Nat.lt_of_le_of_lt (Nat.le_trans h1 (Nat.le_trans (Nat.min_le_right _ _) hn)) (by decide)
      have hs:=step x (List.mem_of_getElem? hx) (fun v M4=>(((xs.take i).filter p).map f).length<sizeLine∧M4=M∧((xs.take i).filter p).map f++[v]=((xs.take (i+1)).filter p).map f) (((xs.take i).filter p).map f=((xs.take (i+1)).filter p).map f)
        (fun hp=>⟨hle,rfl,by rw [List.take_succ_eq_append_getElem hl,List.filter_append,List.map_append,he]; simp [hp]⟩)
        (fun hp=>by rw [List.take_succ_eq_append_getElem hl,List.filter_append,List.map_append,he]; simp [hp])
      exact hs
  · obtain ⟨rfl,rfl⟩:=w
    rw [List.length_map,List.take_length]; exact h
end
end DL

namespace GM
open PySem PySem.Spec L2 DL
open PyProof.Rows hiding St
noncomputable def ratD (q:Rat):D:=.tup [.int q.num,.int (q.den:Int)]
theorem ratD_inj {q r:Rat} (h:ratD q=ratD r):q=r:=by
  unfold ratD at h
  injection h with h
  injection h with h1 h2
  injection h1 with h1
  injection h2 with h2 _
  injection h2 with h2
  exact Rat.ext h1 (by omega)
theorem ratD_iff {q r:Rat}:ratD q=ratD r↔q=r:=⟨ratD_inj,fun h=>by rw [h]⟩
structure PoolAt (M:Mem) (p:Addr):Prop where
  ex:∃ x y z:Int,M p=some (.lst [.int x,.int y,.int z])
noncomputable def MK (M M':Mem):Prop:=∀ b o,M b=some o→M' b=some o
theorem MK.refl (M:Mem):MK M M:=fun _ _ h=>h
theorem MK.trans {M M1 M2:Mem} (a:MK M M1) (b:MK M1 M2):MK M M2:=fun c o h=>b c o (a c o h)
theorem MK.new {M:Mem} {p:Addr} {o:MO} (h:M p=none):MK M (updM M p o):=fun b u e=>by
  have:b≠p:=by intro z; subst z; rw [h] at e; cases e
  rw [updM_ne this]; exact e
theorem MK.pool {M M':Mem} (k:MK M M') {p:Addr} (h:PoolAt M p):PoolAt M' p:=let ⟨x,y,z,e⟩:=h.ex; ⟨x,y,z,k _ _ e⟩
structure PStep (p:Addr) (M M':Mem):Prop where
  keep:∀ b o,b≠p→M b=some o→M' b=some o
  pool:PoolAt M' p
theorem PStep.refl {p:Addr} {M:Mem} (h:PoolAt M p):PStep p M M:=⟨fun _ _ _ h=>h,h⟩
theorem PStep.trans {p:Addr} {M M1 M2:Mem} (a:PStep p M M1) (b:PStep p M1 M2):PStep p M M2:=⟨fun c o n h=>b.keep c o n (a.keep c o n h),b.pool⟩
theorem PStep.upd {p:Addr} {M:Mem} (x y z:Int):PStep p M (updM M p (.lst [.int x,.int y,.int z])):=⟨fun b o n h=>by rw [updM_ne n]; exact h,⟨x,y,z,updM_same⟩⟩
theorem PoolAt.ne {M:Mem} {p l:Addr} (h:PoolAt M p) (hl:M l=none):l≠p:=by
  intro e; subst e; obtain ⟨x,y,z,q⟩:=h.ex; rw [hl] at q; cases q
noncomputable def spPool:DSp:=fun ds M R _=>∃ c:Int,ds=[.int c]∧∀ p M',M p=none→MK M M'→PoolAt M' p→R (.ref p) M'
noncomputable def spNext:DSp:=fun ds M R _=>∃ (p:Addr) (b:Int),ds=[.ref p,.int b]∧PoolAt M p∧0<b∧b.natAbs.log2<9000∧∀ (r:Int) M',0≤r→r<b→PStep p M M'→R (.int r) M'
noncomputable def spLow:DSp:=fun ds M R _=>∃ a b:Int,ds=[.int a,.int b]∧b≠0∧b.natAbs.log2<9000∧R (ratD (Rat.divInt a b)) M
noncomputable def spFloorRoot:DSp:=fun ds M R _=>∃ n:Nat,ds=[.int n]∧n.log2<4000∧∀ s:Nat,s*s≤n→n<(s+1)*(s+1)→R (.int s) M
noncomputable def RootIs (q:Rat) (v:D):Prop:=(∃ r:Rat,0≤r∧r*r=q∧v=ratD r)∨((∀ r:Rat,r*r≠q)∧v = .non)
noncomputable def spRoot:DSp:=fun ds M R _=>∃ q:Rat,ds=[ratD q]∧RM.sz q≤4000∧∀ v,RootIs q v→R v M
theorem cp18:CPow 10 18:=⟨by decide,by decide,by decide⟩
theorem cp6:CPow 10 6:=⟨by decide,by decide,by decide⟩
theorem m64l {a b:Int} (h1:-(2 ^ 64)<a) (h2:a<2 ^ 64):IntMulOk a b:=.of_left (intBits_le_64 h1 h2)
theorem m64r {a b:Int} (h1:-(2 ^ 64)<b) (h2:b<2 ^ 64):IntMulOk a b:=.of_right (intBits_le_64 h1 h2)
theorem mmod {x m k b:Int} (hm:0<m) (hm2:m<2 ^ 60) (hk:0≤k) (hk2:k<2 ^ 60):IntMulOk (x % m+k) b:=by
  have h1:=Int.emod_nonneg x (show m≠0 by omega)
  have h2:=Int.emod_lt_of_pos x hm
  exact m64l (by omega) (by omega)
theorem mmod0 {x m b:Int} (hm:0<m) (hm2:m<2 ^ 60):IntMulOk (x % m) b:=by
  have h1:=Int.emod_nonneg x (show m≠0 by omega)
  have h2:=Int.emod_lt_of_pos x hm
  exact m64l (by omega) (by omega)
theorem cfd8 {i:Int}:CFd i 8:=⟨by decide,by decide⟩
theorem cfd2 {i:Int}:CFd i 2:=⟨by decide,by decide⟩
theorem fdiv_nn {a b:Int} (ha:0≤a) (hb:0≤b):a.fdiv b=a / b:=Int.fdiv_eq_ediv_of_nonneg a hb
theorem gcd_log {a b:Int} (hb:b≠0) (h:b.natAbs.log2<9000):((Nat.gcd a.natAbs b.natAbs:Nat):Int).natAbs.log2<9000:=by
  have hp:0<b.natAbs:=Int.natAbs_pos.mpr hb
  have hle:Nat.gcd a.natAbs b.natAbs≤b.natAbs:=Nat.gcd_le_right _ hp
  have h1:b.natAbs<2 ^ 9000:=(Nat.log2_lt (by omega)).mp h
  rw [Int.natAbs_natCast]
  exact log_lt (Nat.lt_of_le_of_lt hle h1) (by decide)
theorem gcd_ne {a b:Int} (hb:b≠0):((Nat.gcd a.natAbs b.natAbs:Nat):Int)≠0:=by
  have hp:0<b.natAbs:=Int.natAbs_pos.mpr hb
  have:=Nat.gcd_pos_of_pos_right a.natAbs hp
  omega
theorem low_fin {a b s:Int} (hb:b≠0) (hs:s=if b<0 then -((Nat.gcd a.natAbs b.natAbs:Nat):Int) else ((Nat.gcd a.natAbs b.natAbs:Nat):Int)) {M:Mem} {R:DK} (k:R (ratD (Rat.divInt a b)) M) :
    R (.tup [.int (a.fdiv s),.int (b.fdiv s)]) M:=by
  obtain ⟨h1,h2⟩:=RM.low_eq a b hb s hs
  rw [h1,h2]; exact k
theorem low_sz {a b:Int} {n:Nat} (hn:0<n) (h1:a.natAbs<2 ^ n) (h2:b.natAbs<2 ^ n) (hb:b≠0):RM.sz (Rat.divInt a b)≤n :=
  Nat.le_trans (RM.sz_divInt a b hb) (Nat.max_le.mpr ⟨RM.bl_le h1 hn,RM.bl_le h2 hn⟩)
end GM
namespace GM
open PySem PySem.Spec L2 DL
open PyProof.Rows hiding St
theorem newton {n g:Nat} (hg:0<g):n<((g+n / g) / 2+1)*((g+n / g) / 2+1):=by
  have h1:n<g*(n / g+1):=by
    have:=Nat.lt_mul_div_succ n hg
    exact this
  have h2:g+(n / g+1)≤2*((g+n / g) / 2+1):=by omega
  generalize (g+n / g) / 2+1=b at h2 ⊢
  generalize n / g+1=y at h1 h2
  have h3:(g+y)*(g+y)≤(2*b)*(2*b):=Nat.mul_le_mul h2 h2
  have h4:4*(g*y)≤(g+y)*(g+y):=by
    rcases Nat.le_total g y with h | h
    · obtain ⟨k,rfl⟩:=Nat.le.dest h
      have:(g+(g+k))*(g+(g+k))=4*(g*(g+k))+k*k:=by grind
      omega
    · obtain ⟨k,rfl⟩:=Nat.le.dest h
      have:(y+k+y)*(y+k+y)=4*((y+k)*y)+k*k:=by grind
      omega
  have h5:(2*b)*(2*b)=4*(b*b):=by grind
  omega
theorem newton_end {n g:Nat} (hg:0<g) (h:¬ (g+n / g) / 2<g):g*g≤n:=by
  have h1:g≤n / g:=by omega
  exact Nat.le_trans (Nat.mul_le_mul_left g h1) (Nat.mul_div_le n g)
theorem sq_unique {n s t:Nat} (h1:s*s≤n) (h2:n<(s+1)*(s+1)) (h3:t*t=n):t=s:=by
  rcases Nat.lt_trichotomy t s with h | h | h
  · have:(t+1)*(t+1)≤s*s:=Nat.mul_le_mul h h
    have e:(t+1)*(t+1)=t*t+2*t+1:=by grind
    omega
  · exact h
  · have:(s+1)*(s+1)≤t*t:=Nat.mul_le_mul h h
    omega
theorem sq_parts (r:Rat):(r*r).num=r.num*r.num∧(r*r).den=r.den*r.den:=by
  rw [Rat.mul_def]
  have hc:(r.num*r.num).natAbs.gcd (r.den*r.den)=1:=by
    rw [Int.natAbs_mul]
    exact Nat.Coprime.mul_left (Nat.Coprime.mul_right r.reduced r.reduced) (Nat.Coprime.mul_right r.reduced r.reduced)
  rw [Rat.normalize_eq]
  simp [hc]
theorem root_some {q:Rat} {s t:Nat} (h1:((s:Int))*(s:Int)=q.num) (h2:t*t=q.den):∃ r:Rat,0≤r∧r*r=q∧r.num=(s:Int)∧r.den=t:=by
  have ht:t≠0:=by
    intro e; subst e; have:=q.den_nz; omega
  have hcop:Nat.Coprime s t:=by
    have hq:=q.reduced
    have e1:q.num.natAbs=s*s:=by rw [← h1,Int.natAbs_mul,Int.natAbs_natCast]
    rw [e1,← h2] at hq
    have a1:Nat.Coprime s (t*t):=Nat.Coprime.coprime_mul_left hq
    exact Nat.Coprime.coprime_mul_left_right a1
  refine ⟨⟨(s:Int),t,ht,by simpa using hcop⟩,?_,?_,rfl,rfl⟩
  · rw [Rat.le_iff]; simp
  · have:=sq_parts ⟨(s:Int),t,ht,by simpa using hcop⟩
    exact Rat.ext (by rw [this.1]; exact h1) (by rw [this.2]; exact h2)
theorem root_parts {q r:Rat} (h:r*r=q):(∃ s:Nat,s*s=q.num.natAbs)∧(∃ t:Nat,t*t=q.den)∧0≤q.num:=by
  have:=sq_parts r
  rw [h] at this
  refine ⟨⟨r.num.natAbs,by rw [this.1,Int.natAbs_mul]⟩,⟨r.den,this.2.symm⟩,?_⟩
  rw [this.1]
  have:=Int.natAbs_mul_self (a:=r.num)
  rw [← this]; exact Int.natCast_nonneg _
theorem sz_log {q:Rat} {n:Nat} (h:RM.sz q≤n):q.num.natAbs.log2<n∧q.den.log2<n:=by
  have h1:=RM.sz_num q
  have h2:=RM.sz_den q
  unfold RM.bl at h1 h2
  omega
theorem lt_of_log {n k:Nat} (h:n.log2<k):n<2 ^ k:=by
  rcases Nat.eq_zero_or_pos n with h0 | h0
  · subst h0; exact Nat.two_pow_pos k
  · exact (Nat.log2_lt (by omega)).mp h
end GM
namespace GM
open PySem PySem.Spec L2 DL
open PyProof.Rows hiding St
noncomputable def spWhole:DSp:=fun ds M R _=>∃ n:Int,ds=[.int n]∧R (.bl true) M
end GM
namespace GM
open PySem PySem.Spec L2 DL
structure Sml (g:Nat):Prop where
  log:g.log2<9000
theorem Sml.mono {a b:Nat} (h:Sml b) (l:a≤b):Sml a:=⟨log_lt (Nat.lt_of_le_of_lt l (lt_of_log h.log)) (by decide)⟩
theorem Sml.pow {k:Nat} (h:k<9000):Sml (2 ^ k):=⟨log_lt (Nat.pow_lt_pow_right (by decide) h) (by decide)⟩
end GM
namespace GM
open PySem PySem.Spec L2 DL
end GM
namespace GM
open PySem PySem.Spec L2 DL
noncomputable def spLaw:DSp:=fun ds _ R _=>∃ ns:List Int,ds=[.vl (ns.map D.int)]∧ns.length≤63∧∀ M',R (.bl true) M'
end GM

namespace GM
open PySem PySem.Spec L2 DL
open RM (sz)
noncomputable def spDivisor:DSp:=fun ds M R _=>∃ a b:Nat,ds=[.int (a:Int),.int (b:Int)]∧R (.int ((Nat.gcd a b:Nat):Int)) M
noncomputable def spOpp:DSp:=fun ds M R _=>∃ q:Rat,ds=[ratD q]∧R (ratD (-q)) M
noncomputable def spPlus:DSp:=fun ds M R _=>∃ q r:Rat,ds=[ratD q,ratD r]∧sz q+sz r≤8900∧R (ratD (q+r)) M
noncomputable def spMinus:DSp:=fun ds M R _=>∃ q r:Rat,ds=[ratD q,ratD r]∧sz q+sz r≤8900∧R (ratD (q - r)) M
noncomputable def spTimes:DSp:=fun ds M R _=>∃ q r:Rat,ds=[ratD q,ratD r]∧sz q+sz r≤8900∧R (ratD (q*r)) M
noncomputable def spOver:DSp:=fun ds M R _=>∃ q r:Rat,ds=[ratD q,ratD r]∧r≠0∧sz q+sz r≤8900∧R (ratD (q / r)) M
noncomputable def spLess:DSp:=fun ds M R _=>∃ q r:Rat,ds=[ratD q,ratD r]∧sz q+sz r≤8900∧R (.bl (decide (q<r))) M
theorem num_lt (q:Rat):q.num.natAbs<2 ^ sz q:=Nat.lt_of_lt_of_le (RM.lt_bl _) (Nat.pow_le_pow_right (by decide) (RM.sz_num q))
theorem den_lt (q:Rat):((q.den:Int)).natAbs<2 ^ sz q:=by rw [Int.natAbs_natCast]; exact Nat.lt_of_lt_of_le (RM.lt_bl _) (Nat.pow_le_pow_right (by decide) (RM.sz_den q))
theorem mNN {q r:Rat} (h:sz q+sz r≤8900):IntMulOk q.num r.num:=mulOk _ _ (num_lt q) (num_lt r) (by omega)
theorem mND {q r:Rat} (h:sz q+sz r≤8900):IntMulOk q.num (r.den:Int):=mulOk _ _ (num_lt q) (den_lt r) (by omega)
theorem mDD {q r:Rat} (h:sz q+sz r≤8900):IntMulOk (q.den:Int) (r.den:Int):=mulOk _ _ (den_lt q) (den_lt r) (by omega)
theorem mDN {q r:Rat} (h:sz q+sz r≤8900):IntMulOk (q.den:Int) r.num:=mulOk _ _ (den_lt q) (num_lt r) (by omega)
theorem lDD {q r:Rat} (h:sz q+sz r≤8900):((q.den:Int)*(r.den:Int)).natAbs.log2<9000:=by
  have h1:=RM.bl_mul q.den r.den
  have h2:=RM.sz_den q
  have h3:=RM.sz_den r
  rw [Int.natAbs_mul,Int.natAbs_natCast,Int.natAbs_natCast]
  unfold RM.bl at *
  omega
theorem lDN {q r:Rat} (h:sz q+sz r≤8900):((q.den:Int)*r.num).natAbs.log2<9000:=by
  have h1:=RM.bl_mul q.den r.num.natAbs
  have h2:=RM.sz_den q
  have h3:=RM.sz_num r
  rw [Int.natAbs_mul,Int.natAbs_natCast]
  unfold RM.bl at *
  omega
theorem num_ne {r:Rat} (h:r≠0):r.num≠0:=fun z=>h (Rat.num_eq_zero.mp z)
noncomputable def absQ (q:Rat):Rat:=if 0≤q then q else -q
theorem absQ_nn (q:Rat):0≤absQ q:=by
  unfold absQ; split
  · assumption
  · grind
theorem absQ_sq (q:Rat):absQ q*absQ q=q*q:=by
  unfold absQ; split
  · rfl
  · grind
theorem absQ_D (q:Rat):ratD (absQ q) = .tup [.int (q.num.natAbs:Int),.int (q.den:Int)]:=by
  unfold absQ ratD
  have hz:0≤q↔0≤q.num:=Rat.num_nonneg.symm
  split
  · rename_i h
    have:=hz.mp h
    rw [show q.num=(q.num.natAbs:Int) by omega]; simp
  · rename_i h
    have h':¬ 0≤q.num:=fun z=>h (hz.mpr z)
    rw [Rat.neg_num,Rat.neg_den,show -q.num=(q.num.natAbs:Int) by omega]
end GM

namespace GM
open RM (sz)
theorem cd_sz {a:Rat} {A:Int} {D S:Nat} (hS:0<S) (hD:D≠0) (hd:D<2 ^ S) (h:a*(D:Rat)=(A:Rat)) (hA:A.natAbs<2 ^ S):sz a≤S:=by
  have hD':(D:Rat)≠0:=by
    intro z; exact hD (by exact_mod_cast z)
  have e:a=Rat.divInt A (D:Int):=by
    rw [Rat.divInt_eq_div]
    have:a=(A:Rat) / (D:Rat):=by grind
    rw [this]; rfl
  rw [e]
  exact Nat.le_trans (RM.sz_divInt A D (by omega)) (Nat.max_le.mpr ⟨RM.bl_le hA hS,RM.bl_le (by rw [Int.natAbs_natCast]; exact hd) hS⟩)
structure CD (S:Nat) (a b c d:Rat):Prop where
  ex:∃ (A B C E:Int) (D:Nat),D≠0∧D<2 ^ S∧(A.natAbs<2 ^ S∧B.natAbs<2 ^ S∧C.natAbs<2 ^ S∧E.natAbs<2 ^ S)∧a*(D:Rat)=(A:Rat)∧b*(D:Rat)=(B:Rat)∧c*(D:Rat)=(C:Rat)∧d*(D:Rat)=(E:Rat)
theorem num_lt' (q:Rat) {k:Nat} (h:sz q≤k):q.num.natAbs<2 ^ k:=Nat.lt_of_lt_of_le (RM.lt_bl _) (Nat.pow_le_pow_right (by decide) (Nat.le_trans (RM.sz_num q) h))
theorem den_lt' (q:Rat) {k:Nat} (h:sz q≤k):q.den<2 ^ k:=Nat.lt_of_lt_of_le (RM.lt_bl _) (Nat.pow_le_pow_right (by decide) (Nat.le_trans (RM.sz_den q) h))
theorem mul_den (q:Rat):q*(q.den:Rat)=(q.num:Rat):=by
  have h:(q.den:Rat)≠0:=by
    intro z; exact q.den_nz (by exact_mod_cast z)
  have e:=Rat.num_divInt_den q
  rw [Rat.divInt_eq_div,Rat.intCast_natCast] at e
  grind
theorem nat_mul_lt {a b m n:Nat} (h1:a<2 ^ m) (h2:b<2 ^ n):a*b<2 ^ (m+n):=by
  rw [Nat.pow_add]; exact Nat.mul_lt_mul'' h1 h2
theorem int_mul_lt {a b:Int} {m n:Nat} (h1:a.natAbs<2 ^ m) (h2:b.natAbs<2 ^ n):(a*b).natAbs<2 ^ (m+n):=by
  rw [Int.natAbs_mul]; exact nat_mul_lt h1 h2
theorem int_add_lt {a b:Int} {m:Nat} (h1:a.natAbs<2 ^ m) (h2:b.natAbs<2 ^ m):(a+b).natAbs<2 ^ (m+1):=by
  have:=Int.natAbs_add_le a b
  rw [Nat.pow_succ]; omega
theorem lt_up {a m n:Nat} (h:a<2 ^ m) (hn:m≤n):a<2 ^ n:=Nat.lt_of_lt_of_le h (Nat.pow_le_pow_right (by decide) hn)
theorem CD.one:CD 1 1 0 0 1:=⟨1,0,0,1,1,by decide,by decide,⟨by decide,by decide,by decide,by decide⟩,by grind,by grind,by grind,by grind⟩
theorem CD.neg {S:Nat} {a b c d:Rat} (h:CD S a b c d):CD S (-a) (-b) (-c) (-d):=by
  obtain ⟨A,B,C,E,D,h0,hd,⟨h1,h2,h3,h4⟩,e1,e2,e3,e4⟩:=h.ex
  refine ⟨-A,-B,-C,-E,D,h0,hd,⟨by rw [Int.natAbs_neg]; exact h1,by rw [Int.natAbs_neg]; exact h2,by rw [Int.natAbs_neg]; exact h3,by rw [Int.natAbs_neg]; exact h4⟩,?_,?_,?_,?_⟩ <;> (rw [Rat.intCast_neg]; grind)
theorem CD.swap {S:Nat} {a b c d:Rat} (h:CD S a b c d):CD S c d a b:=by
  obtain ⟨A,B,C,E,D,h0,hd,⟨h1,h2,h3,h4⟩,e1,e2,e3,e4⟩:=h.ex
  exact ⟨C,E,A,B,D,h0,hd,⟨h3,h4,h1,h2⟩,e3,e4,e1,e2⟩
theorem CD.step {S k:Nat} {a b c d q:Rat} (h:CD S a b c d) (hq:sz q≤k):CD (S+k+1) (a+q*c) (b+q*d) c d:=by
  obtain ⟨A,B,C,E,D,h0,hd,⟨h1,h2,h3,h4⟩,e1,e2,e3,e4⟩:=h.ex
  have hn:=num_lt' q hq
  have hm:=den_lt' q hq
  have hm':(q.den:Int).natAbs<2 ^ k:=by rw [Int.natAbs_natCast]; exact hm
  have e:=mul_den q
  have z:∀ {X:Int},X.natAbs<2 ^ S→(X*(q.den:Int)).natAbs<2 ^ (S+k):=fun h=>int_mul_lt h hm'
  have z2:∀ {X:Int},X.natAbs<2 ^ S→(X*q.num).natAbs<2 ^ (S+k):=fun h=>int_mul_lt h hn
  refine ⟨A*(q.den:Int)+C*q.num,B*(q.den:Int)+E*q.num,C*(q.den:Int),E*(q.den:Int),D*q.den,Nat.mul_ne_zero h0 q.den_nz,lt_up (nat_mul_lt hd hm) (by omega),
    ⟨int_add_lt (z h1) (z2 h3),int_add_lt (z h2) (z2 h4),lt_up (z h3) (by omega),lt_up (z h4) (by omega)⟩,?_,?_,?_,?_⟩
  all_goals (simp only [Rat.natCast_mul,Rat.intCast_add,Rat.intCast_mul,Rat.intCast_natCast]; grind)
theorem CD.scale {S k:Nat} {a b c d q r:Rat} (h:CD S a b c d) (hq:sz q≤k) (hp:0<q.num) (hr:r*q=1):CD (S+2*k) (q*a) (q*b) (r*c) (r*d):=by
  obtain ⟨A,B,C,E,D,h0,hd,⟨h1,h2,h3,h4⟩,e1,e2,e3,e4⟩:=h.ex
  have hn:=num_lt' q hq
  have hm:=den_lt' q hq
  have hm':(q.den:Int).natAbs<2 ^ k:=by rw [Int.natAbs_natCast]; exact hm
  have e:=mul_den q
  obtain ⟨n,en⟩:∃ n:Nat,q.num=(n:Int):=⟨q.num.toNat,by omega⟩
  rw [en] at hn e hp
  rw [Int.natAbs_natCast] at hn
  rw [Rat.intCast_natCast] at e
  have hn':(n:Int).natAbs<2 ^ k:=by rw [Int.natAbs_natCast]; exact hn
  refine ⟨A*((n:Int)*n),B*((n:Int)*n),C*((q.den:Int)*q.den),E*((q.den:Int)*q.den),D*(n*q.den),Nat.mul_ne_zero h0 (Nat.mul_ne_zero (by omega) q.den_nz),?_,⟨?_,?_,?_,?_⟩,?_,?_,?_,?_⟩
  · rw [show S+2*k=S+(k+k) by omega]; exact nat_mul_lt hd (nat_mul_lt hn hm)
  · rw [show S+2*k=S+(k+k) by omega]; exact int_mul_lt h1 (int_mul_lt hn' hn')
  · rw [show S+2*k=S+(k+k) by omega]; exact int_mul_lt h2 (int_mul_lt hn' hn')
  · rw [show S+2*k=S+(k+k) by omega]; exact int_mul_lt h3 (int_mul_lt hm' hm')
  · rw [show S+2*k=S+(k+k) by omega]; exact int_mul_lt h4 (int_mul_lt hm' hm')
  all_goals (simp only [Rat.natCast_mul,Rat.intCast_mul,Rat.intCast_natCast]; grind)
end GM

namespace GM
open PySem PySem.Spec L2 DL
open RM (sz)
noncomputable abbrev tabD (a b c d:Rat):D:=.tup [ratD a,ratD b,ratD c,ratD d]
noncomputable abbrev rayD (y u:Rat):D:=.tup [ratD y,ratD u]
structure T4 (S:Nat) (a b c d:Rat):Prop where
  a:sz a≤S
  b:sz b≤S
  c:sz c≤S
  d:sz d≤S
structure T2 (S:Nat) (y u:Rat):Prop where
  y:sz y≤S
  u:sz u≤S
theorem CD.t4 {S:Nat} {a b c d:Rat} (h:CD S a b c d) (hS:0<S:=by omega):T4 S a b c d:=by
  obtain ⟨A,B,C,E,D,h0,hd,⟨h1,h2,h3,h4⟩,e1,e2,e3,e4⟩:=h.ex
  exact ⟨cd_sz hS h0 hd e1 h1,cd_sz hS h0 hd e2 h2,cd_sz hS h0 hd e3 h3,cd_sz hS h0 hd e4 h4⟩
noncomputable def spColumns:DSp:=fun ds M R _=>∃ a b c d:Rat,ds=[rayD a c,rayD b d]∧R (tabD a b c d) M
theorem inv_D {q:Rat} (h:0<q.num):D.tup [.int (q.den:Int),.int q.num]=ratD q⁻¹:=by
  unfold ratD
  have h1:q⁻¹.num=(q.den:Int):=by rw [Rat.num_inv,Int.sign_eq_one_of_pos h,Int.one_mul]
  have h2:((q⁻¹).den:Int)=q.num:=by
    rw [Rat.inv_def,Rat.den_divInt,if_neg (by omega)]
    have hg:q.num.gcd (q.den:Int)=1:=by
      have:=q.reduced
      unfold Int.gcd
      rw [Int.natAbs_natCast]; exact this
    rw [hg,Nat.div_one]; omega
  rw [h1,h2]
theorem CD.mono {S S':Nat} {a b c d:Rat} (h:CD S a b c d) (hs:S≤S'):CD S' a b c d:=by
  obtain ⟨A,B,C,E,D,h0,hd,⟨h1,h2,h3,h4⟩,e1,e2,e3,e4⟩:=h.ex
  exact ⟨A,B,C,E,D,h0,lt_up hd hs,⟨lt_up h1 hs,lt_up h2 hs,lt_up h3 hs,lt_up h4 hs⟩,e1,e2,e3,e4⟩
end GM

namespace GM
open PySem PySem.Spec L2 DL
open RM (sz)
theorem sz_abs (q:Rat):sz (absQ q)=sz q:=by
  unfold absQ; split
  · rfl
  · exact RM.sz_neg q
noncomputable def partD (x:Str × Rat):D:=.tup [.str x.1,ratD x.2]
noncomputable def ledP (x:Str × Rat) (y u:Rat):Rat × Rat:=if x.1 = "gap" then (y+x.2*u,u) else if x.1 = "glass" then (y,u - x.2*y) else (y,u)
noncomputable def outP (bs:List (Str × Rat)) (r:Rat × Rat):Rat × Rat:=bs.foldl (fun r x=>ledP x r.1 r.2) r
theorem CD.led {S:Nat} {x:Str × Rat} {y u:Rat} (h:CD S y 0 u 0) (hx:sz x.2≤41):CD (S+42) (ledP x y u).1 0 (ledP x y u).2 0:=by
  unfold ledP
  split
  · have:=h.step hx
    rw [show (0:Rat)+x.2*0=0 by grind] at this
    exact this
  · split
    · have:=(h.swap.step (q:=-x.2) (k:=41) (by rw [RM.sz_neg]; exact hx)).swap
      rw [show (0:Rat) + -x.2*0=0 by grind,show u + -x.2*y=u - x.2*y by grind] at this
      exact this
    · exact h.mono (by omega)
theorem CD.t2 {S:Nat} {y u:Rat} (h:CD S y 0 u 0) (hS:0<S:=by omega):T2 S y u:=⟨h.t4.a,h.t4.c⟩
theorem CD.ray {y u:Rat} {k:Nat} (h1:sz y≤k) (h2:sz u≤k):CD (2*k) y 0 u 0:=by
  have n1:=num_lt' y h1
  have d1:=den_lt' y h1
  have n2:=num_lt' u h2
  have d2:=den_lt' u h2
  have d1':(y.den:Int).natAbs<2 ^ k:=by rw [Int.natAbs_natCast]; exact d1
  have d2':(u.den:Int).natAbs<2 ^ k:=by rw [Int.natAbs_natCast]; exact d2
  have e1:=mul_den y
  have e2:=mul_den u
  refine ⟨y.num*(u.den:Int),0,u.num*(y.den:Int),0,y.den*u.den,Nat.mul_ne_zero y.den_nz u.den_nz,?_,⟨?_,?_,?_,?_⟩,?_,?_,?_,?_⟩
  · rw [show 2*k=k+k by omega]; exact nat_mul_lt d1 d2
  · rw [show 2*k=k+k by omega]; exact int_mul_lt n1 d2'
  · exact Nat.two_pow_pos _
  · rw [show 2*k=k+k by omega]; exact int_mul_lt n2 d1'
  · exact Nat.two_pow_pos _
  all_goals (simp only [Rat.natCast_mul,Rat.intCast_mul,Rat.intCast_natCast,Rat.intCast_zero]; grind)
theorem out_take {bs:List (Str × Rat)} {i:Nat} {x:Str × Rat} (h:bs[i]? = some x) (r:Rat × Rat):outP (bs.take (i+1)) r=ledP x (outP (bs.take i) r).1 (outP (bs.take i) r).2:=by
  obtain ⟨hl,he⟩:=List.getElem?_eq_some_iff.mp h
  unfold outP
  rw [List.take_succ_eq_append_getElem hl,List.foldl_append,he]
  rfl
theorem out_lin (bs:List (Str × Rat)) (y u:Rat):(outP bs (y,u)).1=(outP bs (1,0)).1*y+(outP bs (0,1)).1*u∧(outP bs (y,u)).2=(outP bs (1,0)).2*y+(outP bs (0,1)).2*u:=by
  have gen:∀ (bs:List (Str × Rat)) (y u a b c d z w:Rat),z=a*y+b*u→w=c*y+d*u →
      (outP bs (z,w)).1=(outP bs (a,c)).1*y+(outP bs (b,d)).1*u∧(outP bs (z,w)).2=(outP bs (a,c)).2*y+(outP bs (b,d)).2*u:=by
    intro bs
    induction bs with
    | nil=>intro y u a b c d z w h1 h2; exact ⟨h1,h2⟩
    | cons x r ih =>
      intro y u a b c d z w h1 h2
      refine ih y u (ledP x a c).1 (ledP x b d).1 (ledP x a c).2 (ledP x b d).2 (ledP x z w).1 (ledP x z w).2 ?_ ?_
      · unfold ledP; split
        · grind
        · split <;> grind
      · unfold ledP; split
        · grind
        · split <;> grind
  exact gen bs y u 1 0 0 1 y u (by grind) (by grind)
theorem part_item {bs:List (Str × Rat)} {i:Nat} {d:D} (h:(bs.map partD)[i]? = some d):∃ x,bs[i]? = some x∧d=partD x:=by
  rw [List.getElem?_map] at h
  cases e:bs[i]? with
  | none=>rw [e] at h; cases h
  | some x=>rw [e] at h; exact ⟨x,rfl,(Option.some.inj h).symm⟩
end GM

namespace GM
open PySem PySem.Spec L2 DL
open RM (sz)
theorem out_det (bs:List (Str × Rat)):(outP bs (1,0)).1*(outP bs (0,1)).2 - (outP bs (0,1)).1*(outP bs (1,0)).2=1:=by
  have gen:∀ (bs:List (Str × Rat)) (y u z w:Rat),(outP bs (y,u)).1*(outP bs (z,w)).2 - (outP bs (z,w)).1*(outP bs (y,u)).2=y*w - z*u:=by
    intro bs
    induction bs with
    | nil=>intro y u z w; rfl
    | cons x r ih =>
      intro y u z w
      have:=ih (ledP x y u).1 (ledP x y u).2 (ledP x z w).1 (ledP x z w).2
      refine Eq.trans this ?_
      unfold ledP
      split
      · grind
      · split <;> grind
  have:=gen bs 1 0 0 1
  rw [this]; grind
end GM

namespace GM
open PySem PySem.Spec L2 DL
open RM (sz)
end GM

namespace GM
open PySem PySem.Spec L2 DL
open RM (sz)
noncomputable def spAbs:DSp:=fun ds M R _=>∃ q:Rat,ds=[ratD q]∧R (ratD (absQ q)) M
end GM

namespace GM
open PySem PySem.Spec L2 DL
open RM (sz)
theorem partD_inj {x y:Str × Rat} (h:partD x=partD y):x=y:=by
  unfold partD at h
  injection h with h
  injection h with h1 h2
  injection h1 with h1
  injection h2 with h2 _
  exact Prod.ext h1 (ratD_inj h2)
theorem partD_iff {x y:Str × Rat}:partD x=partD y↔x=y:=⟨partD_inj,fun h=>by rw [h]⟩
theorem partsD_iff {xs ys:List (Str × Rat)}:xs.map partD=ys.map partD↔xs=ys:=List.map_inj_right (fun _ _ h=>partD_inj h)
noncomputable def lineD (l:Rat × Rat × Rat):D:=.tup [ratD l.1,ratD l.2.1,ratD l.2.2]
theorem lineD_inj {x y:Rat × Rat × Rat} (h:lineD x=lineD y):x=y:=by
  unfold lineD at h
  injection h with h
  injection h with h1 h2
  injection h2 with h2 h3
  injection h3 with h3 _
  exact Prod.ext (ratD_inj h1) (Prod.ext (ratD_inj h2) (ratD_inj h3))
theorem lineD_iff {x y:Rat × Rat × Rat}:lineD x=lineD y↔x=y:=⟨lineD_inj,fun h=>by rw [h]⟩
theorem linesD_iff {xs ys:List (Rat × Rat × Rat)}:xs.map lineD=ys.map lineD↔xs=ys:=List.map_inj_right (fun _ _ h=>lineD_inj h)
theorem r_line {p q r:Rat}:D.tup [ratD p,ratD q,ratD r]=lineD (p,q,r):=rfl
theorem z_lineG {gs:DTGs} {l:Rat × Rat × Rat} {e:Ev} {M:Mem} {Q:Ev→Mem→Prop}:dgTup 3 gs (lineD l) e M Q=gs [ratD l.1,ratD l.2.1,ratD l.2.2] e M Q:=z_gTup rfl
theorem z_line0 {l:Rat × Rat × Rat} {M:Mem} {R:DK}:gIx (lineD l) (.int 0) M R=R (ratD l.1) M:=z_ixT0
theorem z_line1 {l:Rat × Rat × Rat} {M:Mem} {R:DK}:gIx (lineD l) (.int 1) M R=R (ratD l.2.1) M:=z_ixT1
theorem z_line2 {l:Rat × Rat × Rat} {M:Mem} {R:DK}:gIx (lineD l) (.int 2) M R=R (ratD l.2.2) M:=z_ixT2
theorem z_rat0 {q:Rat} {M:Mem} {R:DK}:gIx (ratD q) (.int 0) M R=R (.int q.num) M:=z_ixT0
theorem z_rat1 {q:Rat} {M:Mem} {R:DK}:gIx (ratD q) (.int 1) M R=R (.int (q.den:Int)) M:=z_ixT1
theorem z_ratG {gs:DTGs} {q:Rat} {e:Ev} {M:Mem} {Q:Ev→Mem→Prop}:dgTup 2 gs (ratD q) e M Q=gs [.int q.num,.int (q.den:Int)] e M Q:=z_gTup rfl
theorem z_ratL {q:Rat} {M:Mem} {R:DK}:gLen [ratD q] M R=R (.int 2) M:=z_Len rfl
theorem z_part0 {x:Str × Rat} {M:Mem} {R:DK}:gIx (partD x) (.int 0) M R=R (.str x.1) M:=z_ixT0
theorem z_part1 {x:Str × Rat} {M:Mem} {R:DK}:gIx (partD x) (.int 1) M R=R (ratD x.2) M:=z_ixT1
theorem z_partG {gs:DTGs} {x:Str × Rat} {e:Ev} {M:Mem} {Q:Ev→Mem→Prop}:dgTup 2 gs (partD x) e M Q=gs [.str x.1,ratD x.2] e M Q:=z_gTup rfl
theorem z_ratIsT {q:Rat} {M:Mem} {R:DK}:gIsi [ratD q,.ty "tuple"] M R=R (.bl true) M:=z_Isi rfl rfl
theorem z_partIsT {x:Str × Rat} {M:Mem} {R:DK}:gIsi [partD x,.ty "tuple"] M R=R (.bl true) M:=z_Isi rfl rfl
theorem z_partL {x:Str × Rat} {M:Mem} {R:DK}:gLen [partD x] M R=R (.int 2) M:=z_Len rfl
theorem z_clR60 {q:Rat}:cl 60 (ratD q)=true:=rfl
theorem z_clR59 {q:Rat}:cl 59 (ratD q)=true:=rfl
theorem z_clR58 {q:Rat}:cl 58 (ratD q)=true:=rfl
theorem z_clR57 {q:Rat}:cl 57 (ratD q)=true:=rfl
theorem r0:D.tup [.int 0,.int 1]=ratD 0:=rfl
theorem r1:D.tup [.int 1,.int 1]=ratD 1:=rfl
theorem r2:D.tup [.int 2,.int 1]=ratD 2:=rfl
theorem r4:D.tup [.int 4,.int 1]=ratD 4:=rfl
theorem r_abs {q:Rat}:D.tup [.int (q.num.natAbs:Int),.int (q.den:Int)]=ratD (absQ q):=(absQ_D q).symm
theorem r_neg {q:Rat}:D.tup [.int (-q.num),.int (q.den:Int)]=ratD (-q):=by unfold ratD; rw [Rat.neg_num,Rat.neg_den]
theorem r_self {q:Rat}:D.tup [.int q.num,.int (q.den:Int)]=ratD q:=rfl
theorem rm2:D.tup [.int (-2),.int 1]=ratD (-2):=rfl
theorem rm1:D.tup [.int (-1),.int 1]=ratD (-1):=rfl
theorem z_spDivisor {a b:Nat} {M:Mem} {R:DK} {Y:DXK}:spDivisor [.int (a:Int),.int (b:Int)] M R Y=(R (.int ((Nat.gcd a b:Nat):Int)) M):=propext ⟨fun z=>by obtain ⟨a',b',e,h⟩:=z; (simp only [List.cons.injEq,and_true,true_and,GM.ratD_iff,GM.partD_iff,GM.partsD_iff,GM.lineD_iff,GM.linesD_iff,D.tup.injEq,D.ref.injEq,D.int.injEq,D.str.injEq,D.bl.injEq,D.vl.injEq,Int.natCast_inj,and_assoc] at e; (repeat (obtain ⟨e1,e⟩:=e; subst e1)); subst e; exact h),fun h=>⟨a,b,rfl,h⟩⟩
theorem z_spOpp {q:Rat} {M:Mem} {R:DK} {Y:DXK}:spOpp [ratD q] M R Y=(R (ratD (-q)) M):=propext ⟨fun z=>by obtain ⟨q',e,h⟩:=z; (simp only [List.cons.injEq,and_true,true_and,GM.ratD_iff,GM.partD_iff,GM.partsD_iff,GM.lineD_iff,GM.linesD_iff,D.tup.injEq,D.ref.injEq,D.int.injEq,D.str.injEq,D.bl.injEq,D.vl.injEq,Int.natCast_inj,and_assoc] at e; (repeat (obtain ⟨e1,e⟩:=e; subst e1)); subst e; exact h),fun h=>⟨q,rfl,h⟩⟩
theorem z_spPlus {q r:Rat} {M:Mem} {R:DK} {Y:DXK}:spPlus [ratD q,ratD r] M R Y=(sz q+sz r≤8900∧R (ratD (q+r)) M):=propext ⟨fun z=>by obtain ⟨q',r',e,h⟩:=z; (simp only [List.cons.injEq,and_true,true_and,GM.ratD_iff,GM.partD_iff,GM.partsD_iff,GM.lineD_iff,GM.linesD_iff,D.tup.injEq,D.ref.injEq,D.int.injEq,D.str.injEq,D.bl.injEq,D.vl.injEq,Int.natCast_inj,and_assoc] at e; (repeat (obtain ⟨e1,e⟩:=e; subst e1)); subst e; exact h),fun h=>⟨q,r,rfl,h⟩⟩
theorem z_spMinus {q r:Rat} {M:Mem} {R:DK} {Y:DXK}:spMinus [ratD q,ratD r] M R Y=(sz q+sz r≤8900∧R (ratD (q - r)) M):=propext ⟨fun z=>by obtain ⟨q',r',e,h⟩:=z; (simp only [List.cons.injEq,and_true,true_and,GM.ratD_iff,GM.partD_iff,GM.partsD_iff,GM.lineD_iff,GM.linesD_iff,D.tup.injEq,D.ref.injEq,D.int.injEq,D.str.injEq,D.bl.injEq,D.vl.injEq,Int.natCast_inj,and_assoc] at e; (repeat (obtain ⟨e1,e⟩:=e; subst e1)); subst e; exact h),fun h=>⟨q,r,rfl,h⟩⟩
theorem z_spTimes {q r:Rat} {M:Mem} {R:DK} {Y:DXK}:spTimes [ratD q,ratD r] M R Y=(sz q+sz r≤8900∧R (ratD (q*r)) M):=propext ⟨fun z=>by obtain ⟨q',r',e,h⟩:=z; (simp only [List.cons.injEq,and_true,true_and,GM.ratD_iff,GM.partD_iff,GM.partsD_iff,GM.lineD_iff,GM.linesD_iff,D.tup.injEq,D.ref.injEq,D.int.injEq,D.str.injEq,D.bl.injEq,D.vl.injEq,Int.natCast_inj,and_assoc] at e; (repeat (obtain ⟨e1,e⟩:=e; subst e1)); subst e; exact h),fun h=>⟨q,r,rfl,h⟩⟩
theorem z_spOver {q r:Rat} {M:Mem} {R:DK} {Y:DXK}:spOver [ratD q,ratD r] M R Y=(r≠0∧sz q+sz r≤8900∧R (ratD (q / r)) M):=propext ⟨fun z=>by obtain ⟨q',r',e,h⟩:=z; (simp only [List.cons.injEq,and_true,true_and,GM.ratD_iff,GM.partD_iff,GM.partsD_iff,GM.lineD_iff,GM.linesD_iff,D.tup.injEq,D.ref.injEq,D.int.injEq,D.str.injEq,D.bl.injEq,D.vl.injEq,Int.natCast_inj,and_assoc] at e; (repeat (obtain ⟨e1,e⟩:=e; subst e1)); subst e; exact h),fun h=>⟨q,r,rfl,h⟩⟩
theorem z_spLess {q r:Rat} {M:Mem} {R:DK} {Y:DXK}:spLess [ratD q,ratD r] M R Y=(sz q+sz r≤8900∧R (.bl (decide (q<r))) M):=propext ⟨fun z=>by obtain ⟨q',r',e,h⟩:=z; (simp only [List.cons.injEq,and_true,true_and,GM.ratD_iff,GM.partD_iff,GM.partsD_iff,GM.lineD_iff,GM.linesD_iff,D.tup.injEq,D.ref.injEq,D.int.injEq,D.str.injEq,D.bl.injEq,D.vl.injEq,Int.natCast_inj,and_assoc] at e; (repeat (obtain ⟨e1,e⟩:=e; subst e1)); subst e; exact h),fun h=>⟨q,r,rfl,h⟩⟩
theorem z_spLow {a b:Int} {M:Mem} {R:DK} {Y:DXK}:spLow [.int a,.int b] M R Y=(b≠0∧b.natAbs.log2<9000∧R (ratD (Rat.divInt a b)) M):=propext ⟨fun z=>by obtain ⟨a',b',e,h⟩:=z; (simp only [List.cons.injEq,and_true,true_and,GM.ratD_iff,GM.partD_iff,GM.partsD_iff,GM.lineD_iff,GM.linesD_iff,D.tup.injEq,D.ref.injEq,D.int.injEq,D.str.injEq,D.bl.injEq,D.vl.injEq,Int.natCast_inj,and_assoc] at e; (repeat (obtain ⟨e1,e⟩:=e; subst e1)); subst e; exact h),fun h=>⟨a,b,rfl,h⟩⟩
theorem z_spPool {c:Int} {M:Mem} {R:DK} {Y:DXK}:spPool [.int c] M R Y=(∀ p M',M p=none→MK M M'→PoolAt M' p→R (.ref p) M'):=propext ⟨fun z=>by obtain ⟨c',e,h⟩:=z; (simp only [List.cons.injEq,and_true,true_and,GM.ratD_iff,GM.partD_iff,GM.partsD_iff,GM.lineD_iff,GM.linesD_iff,D.tup.injEq,D.ref.injEq,D.int.injEq,D.str.injEq,D.bl.injEq,D.vl.injEq,Int.natCast_inj,and_assoc] at e; (repeat (obtain ⟨e1,e⟩:=e; subst e1)); subst e; exact h),fun h=>⟨c,rfl,h⟩⟩
theorem z_spNext {p:Addr} {b:Int} {M:Mem} {R:DK} {Y:DXK}:spNext [.ref p,.int b] M R Y=(PoolAt M p∧0<b∧b.natAbs.log2<9000∧∀ (r:Int) M',0≤r→r<b→PStep p M M'→R (.int r) M'):=propext ⟨fun z=>by obtain ⟨p',b',e,h⟩:=z; (simp only [List.cons.injEq,and_true,true_and,GM.ratD_iff,GM.partD_iff,GM.partsD_iff,GM.lineD_iff,GM.linesD_iff,D.tup.injEq,D.ref.injEq,D.int.injEq,D.str.injEq,D.bl.injEq,D.vl.injEq,Int.natCast_inj,and_assoc] at e; (repeat (obtain ⟨e1,e⟩:=e; subst e1)); subst e; exact h),fun h=>⟨p,b,rfl,h⟩⟩
theorem z_spAbs {q:Rat} {M:Mem} {R:DK} {Y:DXK}:spAbs [ratD q] M R Y=(R (ratD (absQ q)) M):=propext ⟨fun z=>by obtain ⟨q',e,h⟩:=z; (simp only [List.cons.injEq,and_true,true_and,GM.ratD_iff,GM.partD_iff,GM.partsD_iff,GM.lineD_iff,GM.linesD_iff,D.tup.injEq,D.ref.injEq,D.int.injEq,D.str.injEq,D.bl.injEq,D.vl.injEq,Int.natCast_inj,and_assoc] at e; (repeat (obtain ⟨e1,e⟩:=e; subst e1)); subst e; exact h),fun h=>⟨q,rfl,h⟩⟩
theorem z_spRoot {q:Rat} {M:Mem} {R:DK} {Y:DXK}:spRoot [ratD q] M R Y=(RM.sz q≤4000∧∀ v,RootIs q v→R v M):=propext ⟨fun z=>by obtain ⟨q',e,h⟩:=z; (simp only [List.cons.injEq,and_true,true_and,GM.ratD_iff,GM.partD_iff,GM.partsD_iff,GM.lineD_iff,GM.linesD_iff,D.tup.injEq,D.ref.injEq,D.int.injEq,D.str.injEq,D.bl.injEq,D.vl.injEq,Int.natCast_inj,and_assoc] at e; (repeat (obtain ⟨e1,e⟩:=e; subst e1)); subst e; exact h),fun h=>⟨q,rfl,h⟩⟩
theorem z_spColumns {a b c d:Rat} {M:Mem} {R:DK} {Y:DXK}:spColumns [rayD a c,rayD b d] M R Y=(R (tabD a b c d) M):=propext ⟨fun z=>by obtain ⟨a',b',c',d',e,h⟩:=z; (simp only [List.cons.injEq,and_true,true_and,GM.ratD_iff,GM.partD_iff,GM.partsD_iff,GM.lineD_iff,GM.linesD_iff,D.tup.injEq,D.ref.injEq,D.int.injEq,D.str.injEq,D.bl.injEq,D.vl.injEq,Int.natCast_inj,and_assoc] at e; (repeat (obtain ⟨e1,e⟩:=e; subst e1)); subst e; exact h),fun h=>⟨a,b,c,d,rfl,h⟩⟩
noncomputable def sLed:DSp:=fun ds M R Y=>∃ (a b c d y u:Rat),ds=[tabD a b c d,rayD y u]∧sz a+sz y+(sz b+sz u)≤8900∧sz c+sz y+(sz d+sz u)≤8900∧R (rayD (a*y+b*u) (c*y+d*u)) M
theorem z_sLed {a b c d y u:Rat} {M:Mem} {R:DK} {Y:DXK}:sLed [tabD a b c d,rayD y u] M R Y=(sz a+sz y+(sz b+sz u)≤8900∧sz c+sz y+(sz d+sz u)≤8900∧R (rayD (a*y+b*u) (c*y+d*u)) M):=propext ⟨fun z=>by obtain ⟨a',b',c',d',y',u',e,h⟩:=z; (simp only [List.cons.injEq,and_true,true_and,GM.ratD_iff,GM.partD_iff,GM.partsD_iff,GM.lineD_iff,GM.linesD_iff,D.tup.injEq,D.ref.injEq,D.int.injEq,D.str.injEq,D.bl.injEq,D.vl.injEq,Int.natCast_inj,and_assoc] at e; (repeat (obtain ⟨e1,e⟩:=e; subst e1)); subst e; exact h),fun h=>⟨a,b,c,d,y,u,rfl,h⟩⟩
noncomputable def sLedP:DSp:=fun ds M R Y=>∃ (x:Str × Rat) (y u:Rat),ds=[partD x,rayD y u]∧sz x.2+sz y+sz u≤8900∧R (rayD (ledP x y u).1 (ledP x y u).2) M
theorem z_sLedP {x:Str × Rat} {y u:Rat} {M:Mem} {R:DK} {Y:DXK}:sLedP [partD x,rayD y u] M R Y=(sz x.2+sz y+sz u≤8900∧R (rayD (ledP x y u).1 (ledP x y u).2) M):=propext ⟨fun z=>by obtain ⟨x',y',u',e,h⟩:=z; (simp only [List.cons.injEq,and_true,true_and,GM.ratD_iff,GM.partD_iff,GM.partsD_iff,GM.lineD_iff,GM.linesD_iff,D.tup.injEq,D.ref.injEq,D.int.injEq,D.str.injEq,D.bl.injEq,D.vl.injEq,Int.natCast_inj,and_assoc] at e; (repeat (obtain ⟨e1,e⟩:=e; subst e1)); subst e; exact h),fun h=>⟨x,y,u,rfl,h⟩⟩
theorem cl_lst {k:Nat}:∀ {ds:List D},(∀ x∈ds,cl k x=true)→clL k ds=true
  | [],_=>rfl
  | d :: r,h=>by
    show (cl k d && clL k r)=true
    rw [h d List.mem_cons_self,cl_lst (fun x hx=>h x (List.mem_cons_of_mem _ hx))]; rfl
theorem PStep.put {p l:Addr} {M M':Mem} {o:MO} (h:PStep p M M') (hl:M l=none) (hp:l≠p):PStep p M (updM M' l o):=⟨fun b u hb e=>by
    rw [updM_ne (by intro z; subst z; rw [hl] at e; cases e)]; exact h.keep b u hb e,by
    obtain ⟨x,y,z,e⟩:=h.pool.ex
    exact ⟨x,y,z,by rw [updM_ne (Ne.symm hp)]; exact e⟩⟩
theorem PStep.del {p l:Addr} {M M':Mem} (h:PStep p M M') (hl:M l=none) (hp:l≠p):PStep p M (delM M' l):=⟨fun b u hb e=>by
    rw [delM_ne (by intro z; subst z; rw [hl] at e; cases e)]; exact h.keep b u hb e,by
    obtain ⟨x,y,z,e⟩:=h.pool.ex
    exact ⟨x,y,z,by rw [delM_ne (Ne.symm hp)]; exact e⟩⟩
theorem cut_to {ds:List D} {n:Nat}:cutD ds none (some (n:Int))=ds.take n:=by
  unfold cutD HT.sIx
  simp only [List.drop_zero,Nat.sub_zero]
  rw [if_neg (by omega)]
  by_cases h:n≤ds.length
  · congr 1; omega
  · rw [List.take_of_length_le (by omega),List.take_of_length_le (by omega)]
end GM

set_option maxHeartbeats 1000000
namespace GM
open PySem PySem.Spec L2 DL
open RM (sz)
theorem gIx_mem {xs:List D} {r:Int} {M:Mem} {R:DK} (h0:0≤r) (h1:r<xs.length) (h:∀ d∈xs,R d M):gIx (.vl xs) (.int r) M R:=by
  obtain ⟨z,e,hz⟩:=atI_mem h0 h1
  exact ⟨z,e,h z hz⟩
structure Small (w:Rat):Prop where
  n:w.num.natAbs≤4
  d:w.den≤4
  ne:w≠0
theorem small_one:Small 1:=⟨by decide,by decide,by decide⟩
theorem Small.sz {w:Rat} (h:Small w):RM.sz w≤3:=by
  rw [← Rat.num_divInt_den w]
  exact low_sz (by decide) (by have:=h.n; omega) (by have:=h.d; omega) (RM.den_ne w)
end GM

namespace GM
open PySem PySem.Spec L2 DL
open RM (sz)
noncomputable abbrev Q4:=Rat × Rat × Rat × Rat
noncomputable def tabQ (m:Q4):D:=tabD m.1 m.2.1 m.2.2.1 m.2.2.2
noncomputable def mulQ (m k:Q4):Q4:=(m.1*k.1+m.2.1*k.2.2.1,m.1*k.2.1+m.2.1*k.2.2.2,m.2.2.1*k.1+m.2.2.2*k.2.2.1,m.2.2.1*k.2.1+m.2.2.2*k.2.2.2)
noncomputable def detQ (m:Q4):Rat:=m.1*m.2.2.2 - m.2.1*m.2.2.1
noncomputable def CDQ (S:Nat) (m:Q4):Prop:=CD S m.1 m.2.1 m.2.2.1 m.2.2.2
noncomputable def pwQ (m:Q4):Nat→Q4
  | 0=>(1,0,0,1)
  | k+1=>mulQ m (pwQ m k)
noncomputable def xwQ (m:Q4):Nat→Rat × Rat
  | 0=>(0,-1)
  | k+1=>((m.1+m.2.2.2)*(xwQ m k).1 - (xwQ m k).2,(xwQ m k).1)
theorem ext4 {m k:Q4} (h1:m.1=k.1) (h2:m.2.1=k.2.1) (h3:m.2.2.1=k.2.2.1) (h4:m.2.2.2=k.2.2.2):m=k:=Prod.ext h1 (Prod.ext h2 (Prod.ext h3 h4))
theorem pw_xw {m:Q4} (hd:detQ m=1):∀ k,pwQ m k=(m.1*(xwQ m k).1 - (xwQ m k).2,m.2.1*(xwQ m k).1,m.2.2.1*(xwQ m k).1,m.2.2.2*(xwQ m k).1 - (xwQ m k).2)
  | 0=>by refine ext4 ?_ ?_ ?_ ?_ <;> (simp only [pwQ,xwQ]; grind)
  | k+1=>by
    have ih:=pw_xw hd k
    have hd':m.1*m.2.2.2 - m.2.1*m.2.2.1=1:=hd
    show mulQ m (pwQ m k)=_
    rw [ih]
    generalize h1:xwQ m k=xw at *
    refine ext4 ?_ ?_ ?_ ?_ <;> (simp only [mulQ,xwQ,h1]; grind)
theorem CD.mul {S T:Nat} {m k:Q4} (h:CDQ S m) (g:CDQ T k):CDQ (S+T+1) (mulQ m k):=by
  obtain ⟨A,B,C,E,D,h0,hd,⟨h1,h2,h3,h4⟩,e1,e2,e3,e4⟩:=h.ex
  obtain ⟨A',B',C',E',D',h0',hd',⟨h1',h2',h3',h4'⟩,e1',e2',e3',e4'⟩:=g.ex
  refine ⟨A*A'+B*C',A*B'+B*E',C*A'+E*C',C*B'+E*E',D*D',Nat.mul_ne_zero h0 h0',lt_up (nat_mul_lt hd hd') (by omega),⟨int_add_lt (int_mul_lt h1 h1') (int_mul_lt h2 h3'),int_add_lt (int_mul_lt h1 h2') (int_mul_lt h2 h4'),int_add_lt (int_mul_lt h3 h1') (int_mul_lt h4 h3'),int_add_lt (int_mul_lt h3 h2') (int_mul_lt h4 h4')⟩,?_,?_,?_,?_⟩
  all_goals (simp only [mulQ,Rat.natCast_mul,Rat.intCast_add,Rat.intCast_mul]; grind)
theorem CD.tr {S:Nat} {a b c d:Rat} (h:CD S a b c d):sz (a+d)≤S+1:=by
  obtain ⟨A,B,C,E,D,h0,hd,⟨h1,h2,h3,h4⟩,e1,e2,e3,e4⟩:=h.ex
  exact cd_sz (A:=A+E) (D:=D) (by omega) h0 (lt_up hd (by omega)) (by rw [Rat.intCast_add]; grind) (int_add_lt h1 h4)
theorem z_spWhole {n:Int} {M:Mem} {R:DK} {Y:DXK}:spWhole [.int n] M R Y=R (.bl true) M:=propext ⟨fun ⟨_,e,h⟩=>by cases e; exact h,fun h=>⟨_,rfl,h⟩⟩
end GM

namespace GM
open PySem PySem.Spec L2 DL
open RM (sz)
noncomputable def wideP (G:Rat) (x:Str × Rat):Str × Rat:=if x.1 = "gap" then (x.1,G*x.2) else if x.1 = "glass" then (x.1,x.2 / G) else x
theorem wide_fst (G:Rat) (x:Str × Rat):(wideP G x).1=x.1:=by
  unfold wideP; split
  · rfl
  · split <;> rfl
theorem led_wide {G:Rat} (h:G≠0) (x:Str × Rat) (y u:Rat):ledP (wideP G x) (G*y) u=(G*(ledP x y u).1,(ledP x y u).2):=by
  unfold ledP
  rw [wide_fst]
  unfold wideP
  by_cases h1:x.1 = "gap"
  · rw [if_pos h1,if_pos h1,if_pos h1]
    exact Prod.ext (by show G*y+G*x.2*u=G*(y+x.2*u); grind) rfl
  · rw [if_neg h1,if_neg h1,if_neg h1]
    by_cases h2:x.1 = "glass"
    · rw [if_pos h2,if_pos h2,if_pos h2]
      exact Prod.ext rfl (by show u - x.2 / G*(G*y)=u - x.2*y; grind)
    · rw [if_neg h2,if_neg h2]
theorem out_wide {G:Rat} (h:G≠0) (bs:List (Str × Rat)) (y u:Rat):outP (bs.map (wideP G)) (G*y,u)=(G*(outP bs (y,u)).1,(outP bs (y,u)).2):=by
  induction bs generalizing y u with
  | nil=>rfl
  | cons x r ih =>
    show outP (r.map (wideP G)) (ledP (wideP G x) (G*y) u)=_
    rw [led_wide h x y u]
    exact ih _ _
noncomputable def actB (x:Str × Rat):Bool:=x.1 == "gap" || x.1 == "glass"
noncomputable def acts (bs:List (Str × Rat)):Nat:=(bs.filter actB).length
theorem led_idle {x:Str × Rat} (h:actB x=false) (y u:Rat):ledP x y u=(y,u):=by
  unfold actB at h
  rw [Bool.or_eq_false_iff] at h
  unfold ledP
  rw [if_neg (by have:=h.1; intro e; rw [e] at this; cases this),if_neg (by have:=h.2; intro e; rw [e] at this; cases this)]
theorem CD.ledk {S k:Nat} {x:Str × Rat} {y u y' u':Rat} (h:CD S y y' u u') (hx:sz x.2≤k):CD (S+(k+1)) (ledP x y u).1 (ledP x y' u').1 (ledP x y u).2 (ledP x y' u').2:=by
  unfold ledP
  split
  · exact h.step hx
  · split
    · have:=(h.swap.step (q:=-x.2) (k:=k) (by rw [RM.sz_neg]; exact hx)).swap
      rw [show u + -x.2*y=u - x.2*y by grind,show u' + -x.2*y'=u' - x.2*y' by grind] at this
      exact this
    · exact h.mono (by omega)
theorem out_cdk {k:Nat} (bs:List (Str × Rat)) (hb:∀ x∈bs,actB x=true→sz x.2≤k):∀ {S:Nat} {y u y' u':Rat},CD S y y' u u'→CD (S+(k+1)*acts bs) (outP bs (y,u)).1 (outP bs (y',u')).1 (outP bs (y,u)).2 (outP bs (y',u')).2:=by
  induction bs with
  | nil=>intro S y u y' u' h; exact h.mono (by omega)
  | cons x r ih =>
    intro S y u y' u' h
    have hr:=fun z hz=>hb z (List.mem_cons_of_mem _ hz)
    cases ha:actB x with
    | false =>
      have e:acts (x :: r)=acts r:=by unfold acts; rw [List.filter_cons,ha]; rfl
      rw [e]
      show CD _ (outP r (ledP x y u)).1 (outP r (ledP x y' u')).1 (outP r (ledP x y u)).2 (outP r (ledP x y' u')).2
      rw [led_idle ha,led_idle ha]
      exact ih hr h
    | true =>
      have e:acts (x :: r)=acts r+1:=by unfold acts; rw [List.filter_cons,ha]; rfl
      rw [e,show S+(k+1)*(acts r+1)=S+(k+1)+(k+1)*acts r by rw [Nat.mul_succ]; omega]
      exact ih hr (h.ledk (hb x List.mem_cons_self ha))
theorem CD.wide {S k:Nat} {a b c d G:Rat} (h:CD S a b c d) (hG:sz G≤k) (hp:0<G.num):CD (S+2*k) a (G*b) (c / G) d:=by
  obtain ⟨A,B,C,E,D,h0,hd,⟨h1,h2,h3,h4⟩,e1,e2,e3,e4⟩:=h.ex
  have hn:=num_lt' G hG
  have hm:=den_lt' G hG
  have hm':(G.den:Int).natAbs<2 ^ k:=by rw [Int.natAbs_natCast]; exact hm
  have e:=mul_den G
  obtain ⟨n,en⟩:∃ n:Nat,G.num=(n:Int):=⟨G.num.toNat,by omega⟩
  rw [en] at hn e hp
  rw [Int.natAbs_natCast] at hn
  rw [Rat.intCast_natCast] at e
  have hn':(n:Int).natAbs<2 ^ k:=by rw [Int.natAbs_natCast]; exact hn
  have g0:G≠0:=by
    intro z
    rw [z] at e
    have:(n:Rat)=0:=by grind
    have:n=0:=by exact_mod_cast this
    omega
  refine ⟨A*((n:Int)*G.den),B*((n:Int)*n),C*((G.den:Int)*G.den),E*((n:Int)*G.den),D*(n*G.den),Nat.mul_ne_zero h0 (Nat.mul_ne_zero (by omega) G.den_nz),?_,⟨?_,?_,?_,?_⟩,?_,?_,?_,?_⟩
  · rw [show S+2*k=S+(k+k) by omega]; exact nat_mul_lt hd (nat_mul_lt hn hm)
  · rw [show S+2*k=S+(k+k) by omega]; exact int_mul_lt h1 (int_mul_lt hn' hm')
  · rw [show S+2*k=S+(k+k) by omega]; exact int_mul_lt h2 (int_mul_lt hn' hn')
  · rw [show S+2*k=S+(k+k) by omega]; exact int_mul_lt h3 (int_mul_lt hm' hm')
  · rw [show S+2*k=S+(k+k) by omega]; exact int_mul_lt h4 (int_mul_lt hn' hm')
  all_goals (simp only [Rat.natCast_mul,Rat.intCast_mul,Rat.intCast_natCast])
  · grind
  · grind
  · have:c / G*G=c:=by grind
    grind
  · grind
theorem wide_back {G:Rat} (h:G≠0) (x:Str × Rat):wideP G (wideP (1 / G) x)=x:=by
  have e:=wide_fst (1 / G) x
  by_cases h1:x.1 = "gap"
  · have e2:wideP (1 / G) x=(x.1,1 / G*x.2):=if_pos h1
    rw [e2]
    show (if x.1 = "gap" then (x.1,G*(1 / G*x.2)) else _)=x
    rw [if_pos h1]
    exact Prod.ext rfl (by show G*(1 / G*x.2)=x.2; grind)
  · by_cases h2:x.1 = "glass"
    · have e2:wideP (1 / G) x=(x.1,x.2 / (1 / G)):=by unfold wideP; rw [if_neg h1,if_pos h2]
      rw [e2]
      show (if x.1 = "gap" then _ else if x.1 = "glass" then (x.1,x.2 / (1 / G) / G) else _)=x
      rw [if_neg h1,if_pos h2]
      exact Prod.ext rfl (by show x.2 / (1 / G) / G=x.2; grind)
    · have e2:wideP (1 / G) x=x:=by unfold wideP; rw [if_neg h1,if_neg h2]
      rw [e2]
      unfold wideP
      rw [if_neg h1,if_neg h2]
theorem act_wide (G:Rat) (x:Str × Rat):actB (wideP G x)=actB x:=by unfold actB; rw [wide_fst]
theorem acts_wide (G:Rat) (xs:List (Str × Rat)):acts (xs.map (wideP G))=acts xs:=by
  induction xs with
  | nil=>rfl
  | cons x r ih =>
    unfold acts at ih ⊢
    rw [List.map_cons,List.filter_cons,List.filter_cons,act_wide]
    split
    · rw [List.length_cons,List.length_cons,ih]
    · exact ih
theorem acts_app (xs ys:List (Str × Rat)):acts (xs++ys)=acts xs+acts ys:=by unfold acts; rw [List.filter_append,List.length_append]
theorem acts_rev (xs:List (Str × Rat)):acts xs.reverse=acts xs:=by unfold acts; rw [List.filter_reverse,List.length_reverse]
theorem acts_take (xs:List (Str × Rat)) (i:Nat):acts (xs.take i)≤acts xs:=by
  have:=acts_app (xs.take i) (xs.drop i)
  rw [List.take_append_drop] at this
  omega
theorem pos_ne {G:Rat} (h:0<G.num):G≠0:=by
  intro z; rw [z] at h; exact absurd h (by decide)
noncomputable def tbQ (bs:List (Str × Rat)):Q4:=((outP bs (1,0)).1,(outP bs (0,1)).1,(outP bs (1,0)).2,(outP bs (0,1)).2)
theorem wide_cd {G:Rat} (hp:0<G.num) (hG:sz G≤67) {xs:List (Str × Rat)} (hx:∀ x∈xs,actB x=true→sz (wideP (1 / G) x).2≤5) (ha:acts xs≤14):CDQ 230 (tbQ xs):=by
  have g0:=pos_ne hp
  have e:xs=(xs.map (wideP (1 / G))).map (wideP G):=by
    rw [List.map_map]
    exact (List.map_id xs).symm.trans (List.map_congr_left fun x _=>(wide_back g0 x).symm)
  have c:=out_cdk (k:=5) (xs.map (wideP (1 / G))) (fun x h=>by
    obtain ⟨z,hz,rfl⟩:=List.mem_map.mp h
    rw [act_wide]
    exact hx z hz) CD.one
  rw [acts_wide] at c
  have c2:=(c.mono (show 1+(5+1)*acts xs≤85 by omega)).wide hG hp
  have o:=out_wide g0 (xs.map (wideP (1 / G)))
  rw [← e] at o
  have o1:=o (1 / G) 0
  have o2:=o 0 1
  rw [show G*(1 / G)=1 by grind] at o1
  rw [show G*(0:Rat)=0 by grind] at o2
  have l1:=out_lin (xs.map (wideP (1 / G))) (1 / G) 0
  unfold CDQ tbQ
  rw [o1,o2]
  generalize outP (xs.map (wideP (1 / G))) (1,0)=p at *
  generalize outP (xs.map (wideP (1 / G))) (0,1)=q at *
  show CD 230 (G*(outP (xs.map (wideP (1 / G))) (1 / G,0)).1) (G*q.1) (outP (xs.map (wideP (1 / G))) (1 / G,0)).2 q.2
  rw [l1.1,l1.2,show G*(p.1*(1 / G)+q.1*0)=p.1 by grind,show p.2*(1 / G)+q.2*0=p.2 / G by grind]
  exact c2.mono (by omega)
theorem tb_det (bs:List (Str × Rat)):detQ (tbQ bs)=1:=out_det bs
noncomputable def hallL (near:Rat) (bs:List (Str × Rat)) (far:Rat):List (Str × Rat):=bs++[(Str.ofString "glass",far)]++bs.reverse++[(Str.ofString "glass",near)]
structure HallOk (near:Rat) (bs:List (Str × Rat)) (far:Rat):Prop where
  ex:∃ G:Rat,0<G.num∧sz G≤67∧sz (near*G)≤5∧sz (far*G)≤5∧∀ x∈bs,actB x=true→sz (wideP (1 / G) x).2≤5
  act:acts bs≤6
  len:bs.length≤9
  part:∀ x∈bs,sz x.2≤80∧((x.1 = "gap" ∧ 0≤x.2)∨x.1 = "glass" ∨ (x.1 = "stop" ∧ 0<x.2))
  zn:sz near≤80
  zf:sz far≤80
theorem glass_wide {G q:Rat} (h:sz (q*G)≤5):sz (wideP (1 / G) (Str.ofString "glass",q)).2≤5:=by
  have:wideP (1 / G) (Str.ofString "glass",q)=(Str.ofString "glass",q / (1 / G)):=by
    unfold wideP
    rw [if_neg (show ¬ Str.ofString "glass" = Str.ofString "gap" by decide),if_pos rfl]
  rw [this]
  by_cases g:G=0
  · rw [g]
    show sz (q / (1 / 0))≤5
    rw [show q / (1 / 0)=(0:Rat) by grind,RM.sz_zero]; decide
  · rw [show q / (1 / G)=q*G by grind]; exact h
theorem HallOk.cd {near far:Rat} {bs:List (Str × Rat)} (h:HallOk near bs far) (i:Nat):CDQ 230 (tbQ ((hallL near bs far).take i)):=by
  obtain ⟨G,hp,hG,hn,hf,hb⟩:=h.ex
  refine wide_cd hp hG (fun x hx ha=>?_) ?_
  · have hx:=List.mem_of_mem_take hx
    unfold hallL at hx
    rcases List.mem_append.mp hx with hx | hx
    · rcases List.mem_append.mp hx with hx | hx
      · rcases List.mem_append.mp hx with hx | hx
        · exact hb x hx ha
        · rw [List.mem_singleton.mp hx]; exact glass_wide hf
      · exact hb x (List.mem_reverse.mp hx) ha
    · rw [List.mem_singleton.mp hx]; exact glass_wide hn
  · refine Nat.le_trans (acts_take _ _) ?_
    unfold hallL
    rw [acts_app,acts_app,acts_app,acts_rev]
    have:=h.act
    have e1:acts [(Str.ofString "glass",far)]=1:=rfl
    have e2:acts [(Str.ofString "glass",near)]=1:=rfl
    omega
theorem HallOk.szs {near far:Rat} {bs:List (Str × Rat)} (h:HallOk near bs far):∀ x∈hallL near bs far,sz x.2≤80:=by
  intro x hx
  unfold hallL at hx
  rcases List.mem_append.mp hx with hx | hx
  · rcases List.mem_append.mp hx with hx | hx
    · rcases List.mem_append.mp hx with hx | hx
      · exact (h.part x hx).1
      · rw [List.mem_singleton.mp hx]; exact h.zf
    · exact (h.part x (List.mem_reverse.mp hx)).1
  · rw [List.mem_singleton.mp hx]; exact h.zn
theorem hall_len (near far:Rat) (bs:List (Str × Rat)):(hallL near bs far).length=2*bs.length+2:=by
  unfold hallL
  simp only [List.length_append,List.length_reverse,List.length_cons,List.length_nil]
  omega
theorem ray_cd {S T:Nat} {xs:List (Str × Rat)} {y u:Rat} (h:CDQ S (tbQ xs)) (g:CD T y 0 u 0):CD (S+T+1) (outP xs (y,u)).1 0 (outP xs (y,u)).2 0:=by
  have c:=CD.mul (k:=(y,0,u,0)) h g
  have l:=out_lin xs y u
  unfold CDQ mulQ tbQ at c
  rw [l.1,l.2]
  rw [show ∀ a b:Rat,a*0+b*0=0 from fun a b=>by grind] at c
  rw [show ∀ a b:Rat,a*0+b*0=0 from fun a b=>by grind] at c
  exact c
theorem div_low (q:Rat) (m:Int):Rat.divInt q.num ((q.den:Int)*m)=q / (m:Rat):=by
  rw [Rat.divInt_eq_div,Rat.intCast_mul,Rat.intCast_natCast,← mul_den q]
  have h:(q.den:Rat)≠0:=by
    intro z; exact q.den_nz (by exact_mod_cast z)
  grind
theorem sz23 {m:Int} (h0:2≤m) (h1:m≤3):sz (m:Rat)≤2∧sz (1 - 1 / (m:Rat))≤2∧0<1 / (m:Rat)∧0<1 - 1 / (m:Rat):=by
  have:m=2∨m=3:=by omega
  rcases this with rfl | rfl
  · exact ⟨by decide +kernel,by decide +kernel,by decide +kernel,by decide +kernel⟩
  · exact ⟨by decide +kernel,by decide +kernel,by decide +kernel,by decide +kernel⟩
theorem num_gt {q:Rat} (h:0<q):0<q.num:=by
  have:=(Rat.lt_iff 0 q).mp h
  simpa using this
theorem rat_in {t b:Int} {k:Nat} (hk:0<k) (ht:t.natAbs<2 ^ k) (h0:0<b) (hb:b.natAbs<2 ^ k):sz (Rat.divInt t b)≤k:=Nat.le_trans (RM.sz_divInt t b (by omega)) (Nat.max_le.mpr ⟨RM.bl_le ht hk,RM.bl_le hb hk⟩)
theorem rat_gt {t b:Int} (h:0<t) (h0:0<b):0<Rat.divInt t b:=by
  rw [Rat.divInt_eq_div]
  have h1:(0:Rat)<(t:Rat):=by exact_mod_cast h
  have h2:(0:Rat)<(b:Rat):=by exact_mod_cast h0
  exact (Rat.lt_div_iff h2).mpr (by grind)
theorem in_list {ts bs:List Int} {k:Nat} (hk:0<k) (ht:∀ t∈ts,t.natAbs<2 ^ k) (hb:∀ b∈bs,0<b∧b.natAbs<2 ^ k):∀ t∈ts,∀ b∈bs,sz (Rat.divInt t b)≤k:=fun t h b g=>rat_in hk (ht t h) (hb b g).1 (hb b g).2
theorem gt_list {ts bs:List Int} {k:Nat} (hk:0<k) (ht:∀ t∈ts,0<t∧t.natAbs<2 ^ k) (hb:∀ b∈bs,0<b∧b.natAbs<2 ^ k):∀ t∈ts,∀ b∈bs,0<Rat.divInt t b∧sz (Rat.divInt t b)≤k:=fun t h b g=>⟨rat_gt (ht t h).1 (hb b g).1,rat_in hk (ht t h).2 (hb b g).1 (hb b g).2⟩
theorem ge_list {ts bs:List Int} {k:Nat} (hk:0<k) (ht:∀ t∈ts,0≤t∧t.natAbs<2 ^ k) (hb:∀ b∈bs,0<b∧b.natAbs<2 ^ k):∀ t∈ts,∀ b∈bs,0≤Rat.divInt t b∧sz (Rat.divInt t b)≤k:=fun t h b g=>⟨by
  by_cases z:t=0
  · rw [z,Rat.zero_divInt]; exact Rat.le_refl
  · exact Rat.le_of_lt (rat_gt (by have:=(ht t h).1; omega) (hb b g).1),rat_in hk (ht t h).2 (hb b g).1 (hb b g).2⟩
theorem lg9 {n:Nat} (h:n<128):n.log2<9000:=Nat.lt_of_lt_of_le (log_lt (k:=7) h (by decide)) (by decide)
noncomputable def sRatP:DSp:=fun ds M R Y=>∃ (p:Addr) (x y:D),ds=[.ref p,x,y]∧PoolAt M p∧∃ (ts bs:List Int) (P:Rat→Prop),x = .vl (ts.map D.int)∧y = .vl (bs.map D.int)∧((0<ts.length∧ts.length≤100)∧(0<bs.length∧bs.length≤100)∧(∀ b∈bs,0<b∧b≤100)∧∀ t∈ts,∀ b∈bs,P (Rat.divInt t b))∧∀ (q:Rat) M',P q→PStep p M M'→R (ratD q) M'
theorem z_sRatP {p:Addr} {x y:D} {M:Mem} {R:DK} {Y:DXK}:sRatP [.ref p,x,y] M R Y=(PoolAt M p∧∃ (ts bs:List Int) (P:Rat→Prop),x = .vl (ts.map D.int)∧y = .vl (bs.map D.int)∧((0<ts.length∧ts.length≤100)∧(0<bs.length∧bs.length≤100)∧(∀ b∈bs,0<b∧b≤100)∧∀ t∈ts,∀ b∈bs,P (Rat.divInt t b))∧∀ (q:Rat) M',P q→PStep p M M'→R (ratD q) M'):=propext ⟨fun z=>by obtain ⟨p',x',y',e,h⟩:=z; (simp only [List.cons.injEq,and_true,true_and,GM.ratD_iff,GM.partD_iff,GM.partsD_iff,GM.lineD_iff,GM.linesD_iff,D.tup.injEq,D.ref.injEq,D.int.injEq,D.str.injEq,D.bl.injEq,D.vl.injEq,Int.natCast_inj,and_assoc] at e; (repeat (obtain ⟨e1,e⟩:=e; subst e1)); subst e; exact h),fun h=>⟨p,x,y,rfl,h⟩⟩
noncomputable def sPieces:DSp:=fun ds M R Y=>∃ (p:Addr) (G:Rat),ds=[.ref p,ratD G]∧PoolAt M p∧(0<G∧sz G≤67)∧∀ (qs:List Rat) M',qs.length≤3→(∀ q∈qs,0≤q∧sz q≤5)→PStep p M M'→R (.vl ((qs.map fun q=>(Str.ofString "gap",G*q)).map partD)) M'
theorem z_sPieces {p:Addr} {G:Rat} {M:Mem} {R:DK} {Y:DXK}:sPieces [.ref p,ratD G] M R Y=(PoolAt M p∧(0<G∧sz G≤67)∧∀ (qs:List Rat) M',qs.length≤3→(∀ q∈qs,0≤q∧sz q≤5)→PStep p M M'→R (.vl ((qs.map fun q=>(Str.ofString "gap",G*q)).map partD)) M'):=propext ⟨fun z=>by obtain ⟨p',G',e,h⟩:=z; (simp only [List.cons.injEq,and_true,true_and,GM.ratD_iff,GM.partD_iff,GM.partsD_iff,GM.lineD_iff,GM.linesD_iff,D.tup.injEq,D.ref.injEq,D.int.injEq,D.str.injEq,D.bl.injEq,D.vl.injEq,Int.natCast_inj,and_assoc] at e; (repeat (obtain ⟨e1,e⟩:=e; subst e1)); subst e; exact h),fun h=>⟨p,G,rfl,h⟩⟩
noncomputable def sHStops:DSp:=fun ds M R Y=>∃ (p:Addr) (x:D) (n:Int),ds=[.ref p,x,.int n]∧PoolAt M p∧∃ bs:List (Str × Rat),x = .vl (bs.map partD)∧(0≤n∧n≤4∧bs.length≤20)∧∀ (cs:List (Str × Rat)) M',cs.length≤bs.length+n.toNat→cs.filter actB=bs.filter actB→(∀ x∈cs,x∈bs∨(x.1 = "stop" ∧ 0<x.2∧sz x.2≤10))→PStep p M M'→R (.vl (cs.map partD)) M'
theorem z_sHStops {p:Addr} {x:D} {n:Int} {M:Mem} {R:DK} {Y:DXK}:sHStops [.ref p,x,.int n] M R Y=(PoolAt M p∧∃ bs:List (Str × Rat),x = .vl (bs.map partD)∧(0≤n∧n≤4∧bs.length≤20)∧∀ (cs:List (Str × Rat)) M',cs.length≤bs.length+n.toNat→cs.filter actB=bs.filter actB→(∀ x∈cs,x∈bs∨(x.1 = "stop" ∧ 0<x.2∧sz x.2≤10))→PStep p M M'→R (.vl (cs.map partD)) M'):=propext ⟨fun z=>by obtain ⟨p',x',n',e,h⟩:=z; (simp only [List.cons.injEq,and_true,true_and,GM.ratD_iff,GM.partD_iff,GM.partsD_iff,GM.lineD_iff,GM.linesD_iff,D.tup.injEq,D.ref.injEq,D.int.injEq,D.str.injEq,D.bl.injEq,D.vl.injEq,Int.natCast_inj,and_assoc] at e; (repeat (obtain ⟨e1,e⟩:=e; subst e1)); subst e; exact h),fun h=>⟨p,x,n,rfl,h⟩⟩
noncomputable def sHall:DSp:=fun ds M R Y=>∃ (p:Addr),ds=[.ref p]∧PoolAt M p∧∀ (near:Rat) (bs:List (Str × Rat)) (far:Rat) M',HallOk near bs far→bs.length≤7→acts bs≤4→PStep p M M'→R (.tup [ratD near,.vl (bs.map partD),ratD far]) M'
theorem z_sHall {p:Addr} {M:Mem} {R:DK} {Y:DXK}:sHall [.ref p] M R Y=(PoolAt M p∧∀ (near:Rat) (bs:List (Str × Rat)) (far:Rat) M',HallOk near bs far→bs.length≤7→acts bs≤4→PStep p M M'→R (.tup [ratD near,.vl (bs.map partD),ratD far]) M'):=propext ⟨fun z=>by obtain ⟨p',e,h⟩:=z; (simp only [List.cons.injEq,and_true,true_and,GM.ratD_iff,GM.partD_iff,GM.partsD_iff,GM.lineD_iff,GM.linesD_iff,D.tup.injEq,D.ref.injEq,D.int.injEq,D.str.injEq,D.bl.injEq,D.vl.injEq,Int.natCast_inj,and_assoc] at e; (repeat (obtain ⟨e1,e⟩:=e; subst e1)); subst e; exact h),fun h=>⟨p,rfl,h⟩⟩
noncomputable def lpD (w:D) (n:D) (x:Str × Rat):D:=.tup [w,n,partD x]
noncomputable def hallP (near:Rat) (bs:List (Str × Rat)) (far:Rat):List D:=(bs.zipIdx.map fun x=>lpD (.str "forth") (.int (x.2:Int)) x.1)++[lpD .non .non (Str.ofString "glass",far)]++(bs.zipIdx.reverse.map fun x=>lpD (.str "back") (.int (x.2:Int)) x.1)++[lpD .non .non (Str.ofString "glass",near)]
noncomputable def sHParts:DSp:=fun ds M R Y=>∃ (near:Rat) (bs:List (Str × Rat)) (far:Rat),ds=[.tup [ratD near,.vl (bs.map partD),ratD far]]∧bs.length≤9∧R (.vl (hallP near bs far)) M
theorem z_sHParts {near:Rat} {bs:List (Str × Rat)} {far:Rat} {M:Mem} {R:DK} {Y:DXK}:sHParts [.tup [ratD near,.vl (bs.map partD),ratD far]] M R Y=(bs.length≤9∧R (.vl (hallP near bs far)) M):=propext ⟨fun z=>by obtain ⟨near',bs',far',e,h⟩:=z; (simp only [List.cons.injEq,and_true,true_and,GM.ratD_iff,GM.partD_iff,GM.partsD_iff,GM.lineD_iff,GM.linesD_iff,D.tup.injEq,D.ref.injEq,D.int.injEq,D.str.injEq,D.bl.injEq,D.vl.injEq,Int.natCast_inj,and_assoc] at e; (repeat (obtain ⟨e1,e⟩:=e; subst e1)); subst e; exact h),fun h=>⟨near,bs,far,rfl,h⟩⟩
theorem woven_ok {G near far:Rat} {bs cs:List (Str × Rat)} (hp:0<G.num) (hG:sz G≤67) (hn:sz (near*G)≤5) (hf:sz (far*G)≤5) (zn:sz near≤80) (zf:sz far≤80)
    (hb:∀ x∈bs,sz (wideP (1 / G) x).2≤5∧sz x.2≤80∧((x.1 = "gap" ∧ 0≤x.2)∨x.1 = "glass")) (hl:bs.length≤4) (hc:cs.length≤7) (hfl:cs.filter actB=bs.filter actB)
    (hm:∀ x∈cs,x∈bs∨(x.1 = "stop" ∧ 0<x.2∧sz x.2≤10)):HallOk near cs far∧cs.length≤7∧acts cs≤4:=by
  have ha:acts cs≤4:=by
    unfold acts; rw [hfl]; exact Nat.le_trans (List.length_filter_le _ _) hl
  refine ⟨⟨⟨G,hp,hG,hn,hf,fun x hx h=>?_⟩,by omega,by omega,fun x hx=>?_,zn,zf⟩,hc,ha⟩
  · rcases hm x hx with h1 | ⟨h1,_⟩
    · exact (hb x h1).1
    · unfold actB at h; rw [h1] at h; exact absurd h (by decide)
  · rcases hm x hx with h1 | ⟨h1,h2,h3⟩
    · obtain ⟨_,h2,h3⟩:=hb x h1
      exact ⟨h2,h3.elim .inl fun h=>.inr (.inl h)⟩
    · exact ⟨by omega,.inr (.inr ⟨h1,h2⟩)⟩
theorem gap_wide {G q:Rat} (h:G≠0):(wideP (1 / G) (Str.ofString "gap",G*q)).2=q:=by
  show (if Str.ofString "gap" = Str.ofString "gap" then (Str.ofString "gap",1 / G*(G*q)) else _).2=q
  rw [if_pos rfl]
  show 1 / G*(G*q)=q
  grind
theorem one_wide (x:Str × Rat):(wideP (1 / 1) x).2=x.2:=by
  unfold wideP
  split
  · show 1 / 1*x.2=x.2; grind
  · split
    · show x.2 / (1 / 1)=x.2; grind
    · rfl
theorem low_hall {G:Rat} (h:0<G.num) {n b:Int} (hb:b≠0):Rat.divInt (n*(G.den:Int)) (b*G.num)=(n:Rat) / (b:Rat) / G:=by
  have hd:(G.den:Rat)≠0:=by
    intro z; exact G.den_nz (by exact_mod_cast z)
  have e:=mul_den G
  have g0:=pos_ne h
  have b0:(b:Rat)≠0:=by
    intro z; exact hb (by exact_mod_cast z)
  rw [Rat.divInt_eq_div,Rat.intCast_mul,Rat.intCast_mul,Rat.intCast_natCast,← e]
  grind
theorem known_ok {G:Rat} (h0:0<G) (hG:sz G≤67) {qs:List Rat} (hl:qs.length≤3) (hq:∀ q∈qs,0≤q∧sz q≤5) {cs:List (Str × Rat)} (hc:cs.length≤7)
    (hfl:cs.filter actB=(qs.map fun q=>(Str.ofString "gap",G*q)).filter actB) (hm:∀ x∈cs,x∈(qs.map fun q=>(Str.ofString "gap",G*q))∨(x.1 = "stop" ∧ 0<x.2∧sz x.2≤10)) {n f b:Int}
    (hn:n.natAbs≤13) (hf:f.natAbs≤13) (hb:b=1∨b=2):HallOk ((n:Rat) / (b:Rat) / G) cs ((f:Rat) / (b:Rat) / G)∧cs.length≤7∧acts cs≤4:=by
  have hp:0<G.num:=num_gt h0
  have g0:=pos_ne hp
  have sm:∀ k:Int,k.natAbs≤13→sz ((k:Rat) / (b:Rat))≤5:=fun k hk=>by
    have:=rat_in (t:=k) (b:=b) (k:=5) (by decide) (show k.natAbs<32 by omega) (by omega) (show b.natAbs<32 by omega)
    rw [Rat.divInt_eq_div] at this
    exact this
  have z1:=RM.sz_div ((n:Rat) / (b:Rat)) G g0
  have z2:=RM.sz_div ((f:Rat) / (b:Rat)) G g0
  have y1:=sm n hn
  have y2:=sm f hf
  refine woven_ok hp hG ?_ ?_ (by omega) (by omega) (fun x hx=>?_) (by rw [List.length_map]; omega) hc hfl hm
  · rw [show (n:Rat) / (b:Rat) / G*G=(n:Rat) / (b:Rat) by grind]; exact y1
  · rw [show (f:Rat) / (b:Rat) / G*G=(f:Rat) / (b:Rat) by grind]; exact y2
  · obtain ⟨q,h1,rfl⟩:=List.mem_map.mp hx
    have h2:=hq q h1
    have z3:=RM.sz_mul G q
    exact ⟨by rw [gap_wide g0]; exact h2.2,by show sz (G*q)≤80; omega,.inl ⟨rfl,Rat.mul_nonneg (Rat.le_of_lt h0) h2.1⟩⟩
theorem plain_ok {near far:Rat} {bs cs:List (Str × Rat)} (hn:sz near≤5) (hf:sz far≤5) (hb:∀ x∈bs,sz x.2≤5∧((x.1 = "gap" ∧ 0≤x.2)∨x.1 = "glass")) (hl:bs.length≤4) (hc:cs.length≤7) (hfl:cs.filter actB=bs.filter actB)
    (hm:∀ x∈cs,x∈bs∨(x.1 = "stop" ∧ 0<x.2∧sz x.2≤10)):HallOk near cs far∧cs.length≤7∧acts cs≤4 :=
  woven_ok (G:=1) (by decide) (by rw [RM.sz_one]; decide) (by rw [show near*1=near by grind]; exact hn) (by rw [show far*1=far by grind]; exact hf) (by omega) (by omega)
    (fun x hx=>⟨by rw [one_wide]; exact (hb x hx).1,Nat.le_trans (hb x hx).1 (by decide),(hb x hx).2⟩) hl hc hfl hm
theorem enum_zipP (bs:List (Str × Rat)):enumD (bs.map partD)=bs.zipIdx.map fun x=>D.tup [.int (x.2:Int),partD x.1]:=by
  unfold enumD
  refine List.ext_getElem (by simp) fun i h1 h2=>?_
  simp
theorem down_zip (bs:List (Str × Rat)):downD ((bs.length:Int) - 1) bs.length=bs.zipIdx.reverse.map fun x=>D.int (x.2:Int):=by
  unfold downD
  refine List.ext_getElem (by simp) fun i h1 h2=>?_
  have hi:i<bs.length:=by simpa using h1
  simp only [List.getElem_map,List.getElem_range,List.getElem_reverse,List.getElem_zipIdx,List.length_zipIdx]
  congr 1
  omega
noncomputable def hallT (near:Rat) (bs:List (Str × Rat)) (far:Rat):List (D × D × (Str × Rat)):=(bs.zipIdx.map fun x=>(D.str "forth",D.int (x.2:Int),x.1))++[(.non,.non,(Str.ofString "glass",far))]++(bs.zipIdx.reverse.map fun x=>(D.str "back",D.int (x.2:Int),x.1))++[(.non,.non,(Str.ofString "glass",near))]
theorem hallP_T (near far:Rat) (bs:List (Str × Rat)):hallP near bs far=(hallT near bs far).map fun z=>lpD z.1 z.2.1 z.2.2:=by
  unfold hallP hallT
  simp only [List.map_append,List.map_map,List.map_cons,List.map_nil,List.map_reverse]
  rfl
theorem hallL_T (near far:Rat) (bs:List (Str × Rat)):hallL near bs far=(hallT near bs far).map fun z=>z.2.2:=by
  unfold hallL hallT
  simp only [List.map_append,List.map_map,List.map_cons,List.map_nil,List.map_reverse]
  have e1:∀ w:D,List.map ((fun z:D × D × (Str × Rat)=>z.2.2) ∘ fun x:(Str × Rat) × Nat=>(w,D.int (x.2:Int),x.1)) bs.zipIdx=bs:=fun w=>by
    have:((fun z:D × D × (Str × Rat)=>z.2.2) ∘ fun x:(Str × Rat) × Nat=>(w,D.int (x.2:Int),x.1))=Prod.fst:=rfl
    rw [this]; exact List.zipIdx_map_fst 0 bs
  rw [e1,e1]
theorem hall_item {near far:Rat} {bs:List (Str × Rat)} {i:Nat} {d:D} (h:(hallP near bs far)[i]? = some d):∃ (w n:D) (x:Str × Rat),d = .tup [w,n,partD x]∧(hallL near bs far)[i]? = some x:=by
  rw [hallP_T,List.getElem?_map] at h
  rw [hallL_T,List.getElem?_map]
  cases e:(hallT near bs far)[i]? with
  | none=>rw [e] at h; cases h
  | some z =>
    rw [e] at h
    exact ⟨z.1,z.2.1,z.2.2,(Option.some.inj h).symm,rfl⟩
theorem hallP_len (near far:Rat) (bs:List (Str × Rat)):(hallP near bs far).length=(hallL near bs far).length:=by rw [hallP_T,hallL_T,List.length_map,List.length_map]
end GM

namespace GM
open PySem PySem.Spec L2 DL
open RM (sz)
theorem tabQ_inj {m k:Q4} (h:tabQ m=tabQ k):m=k:=by
  unfold tabQ tabD at h
  injection h with h
  injection h with h1 h
  injection h with h2 h
  injection h with h3 h
  injection h with h4 _
  exact ext4 (ratD_inj h1) (ratD_inj h2) (ratD_inj h3) (ratD_inj h4)
theorem sz_root {q r:Rat} (h:r*r=q):sz r≤sz q:=by
  have e:=sq_parts r
  rw [h] at e
  refine RM.sz_le (Nat.le_trans (RM.bl_mono ?_) (RM.sz_num q)) (Nat.le_trans (RM.bl_mono ?_) (RM.sz_den q))
  · rw [e.1,Int.natAbs_mul]; exact Nat.le_mul_self _
  · rw [e.2]; exact Nat.le_mul_self _
noncomputable def trQ (m:Q4):Rat:=m.1+m.2.2.2
noncomputable def rtsD (m:Q4):D:=if m=(1,0,0,1) then .int 1 else if m=(-1,0,0,-1) then .int 2 else if trQ m = -1 then .int 3 else if trQ m=0 then .int 4 else if trQ m=1 then .int 6 else .non
noncomputable abbrev sameP (m:Q4):Prop:=m=(1,0,0,1)∨m=(-1,0,0,-1)∨trQ m = -1∨trQ m=0∨trQ m=1
theorem rts_int {m:Q4} (h:sameP m):∃ n:Int,rtsD m = .int n:=by
  unfold rtsD
  by_cases h1:m=(1,0,0,1)
  · exact ⟨1,if_pos h1⟩
  · rw [if_neg h1]
    by_cases h2:m=(-1,0,0,-1)
    · exact ⟨2,if_pos h2⟩
    · rw [if_neg h2]
      by_cases h3:trQ m = -1
      · exact ⟨3,if_pos h3⟩
      · rw [if_neg h3]
        by_cases h4:trQ m=0
        · exact ⟨4,if_pos h4⟩
        · rw [if_neg h4]
          by_cases h5:trQ m=1
          · exact ⟨6,if_pos h5⟩
          · rcases h with h | h | h | h | h <;> contradiction
theorem rts_non {m:Q4} (h:¬ sameP m):rtsD m = .non:=by
  unfold sameP at h
  unfold rtsD
  rw [if_neg (fun e=>h (.inl e)),if_neg (fun e=>h (.inr (.inl e))),if_neg (fun e=>h (.inr (.inr (.inl e)))),if_neg (fun e=>h (.inr (.inr (.inr (.inl e))))),if_neg (fun e=>h (.inr (.inr (.inr (.inr e)))))]
noncomputable def kwS (m:Q4):Str:=if sameP m then "same" else if absQ (trQ m)=2 then "shear" else if absQ (trQ m)<2 then "turns" else "off"
noncomputable def formD (m:Q4):D:=.tup [ratD m.2.2.1,ratD (m.2.2.2 - m.1),ratD (-m.2.1)]
noncomputable def alongD (m:Q4):D:=if m.2.1=0 then rayD 0 1 else rayD m.2.1 (trQ m / 2 - m.1)
noncomputable def ShrIs (t:Rat) (v:D):Prop:=(∃ r:Rat,0≤r∧r*r=t*t - 4∧v=ratD ((t - (if t<0 then -r else r)) / 2))∨((∀ r:Rat,r*r≠t*t - 4)∧v = .non)
noncomputable def KindIs (m:Q4) (v:D):Prop:=(kwS m = "same" ∧ v=rtsD m)∨(kwS m = "turns" ∧ v=formD m)∨(kwS m = "shear" ∧ v=alongD m)∨(kwS m = "off" ∧ ShrIs (trQ m) v)
theorem HallOk.rev {near far:Rat} {bs:List (Str × Rat)} (h:HallOk near bs far):HallOk far bs.reverse near:=by
  obtain ⟨G,g1,g2,g3,g4,g5⟩:=h.ex
  exact ⟨⟨G,g1,g2,g4,g3,fun x hx=>g5 x (List.mem_reverse.mp hx)⟩,by rw [acts_rev]; exact h.act,by rw [List.length_reverse]; exact h.len,fun x hx=>h.part x (List.mem_reverse.mp hx),h.zf,h.zn⟩
noncomputable def rndK (m:Q4) (r:Rat × Rat):Nat→Rat × Rat
  | 0=>r
  | k+1=>(m.1*(rndK m r k).1+m.2.1*(rndK m r k).2,m.2.2.1*(rndK m r k).1+m.2.2.2*(rndK m r k).2)
theorem rnd_out {bs:List (Str × Rat)} (r:Rat × Rat) (k:Nat):outP bs (rndK (tbQ bs) r k)=rndK (tbQ bs) r (k+1):=by
  have l:=out_lin bs (rndK (tbQ bs) r k).1 (rndK (tbQ bs) r k).2
  exact Prod.ext l.1 l.2
theorem rnd_pw (m:Q4) (r:Rat × Rat):∀ k,rndK m r k=((pwQ m k).1*r.1+(pwQ m k).2.1*r.2,(pwQ m k).2.2.1*r.1+(pwQ m k).2.2.2*r.2)
  | 0=>by
    show r=_
    simp only [pwQ]
    exact Prod.ext (by grind) (by grind)
  | k+1=>by
    have ih:=rnd_pw m r k
    show (_,_)=_
    rw [ih]
    simp only [pwQ,mulQ]
    exact Prod.ext (by grind) (by grind)
theorem rnd_cd {S T:Nat} {m:Q4} (h:CDQ S m) {y u:Rat} (g:CD T y 0 u 0):∀ k,CD (T+(S+1)*k) (rndK m (y,u) k).1 0 (rndK m (y,u) k).2 0
  | 0=>g
  | k+1=>by
    have ih:=rnd_cd h g k
    have c:=CD.mul (k:=((rndK m (y,u) k).1,0,(rndK m (y,u) k).2,0)) h ih
    unfold CDQ mulQ at c
    simp only at c
    rw [show ∀ a b:Rat,a*0+b*0=0 from fun a b=>by grind] at c
    rw [show ∀ a b:Rat,a*0+b*0=0 from fun a b=>by grind] at c
    exact c.mono (by rw [Nat.mul_succ]; omega)
noncomputable def sTof:DSp:=fun ds M R Y=>∃ (x:D),ds=[x]∧∃ m:Q4,x=tabQ m∧CDQ 230 m∧R (ratD (trQ m)) M
theorem z_sTof {x:D} {M:Mem} {R:DK} {Y:DXK}:sTof [x] M R Y=(∃ m:Q4,x=tabQ m∧CDQ 230 m∧R (ratD (trQ m)) M):=propext ⟨fun z=>by obtain ⟨x',e,h⟩:=z; (simp only [List.cons.injEq,and_true,true_and,GM.ratD_iff,GM.partD_iff,GM.partsD_iff,GM.lineD_iff,GM.linesD_iff,D.tup.injEq,D.ref.injEq,D.int.injEq,D.str.injEq,D.bl.injEq,D.vl.injEq,Int.natCast_inj,and_assoc] at e; (repeat (obtain ⟨e1,e⟩:=e; subst e1)); subst e; exact h),fun h=>⟨x,rfl,h⟩⟩
noncomputable def sRts:DSp:=fun ds M R Y=>∃ (x:D),ds=[x]∧∃ m:Q4,x=tabQ m∧CDQ 230 m∧R (rtsD m) M
theorem z_sRts {x:D} {M:Mem} {R:DK} {Y:DXK}:sRts [x] M R Y=(∃ m:Q4,x=tabQ m∧CDQ 230 m∧R (rtsD m) M):=propext ⟨fun z=>by obtain ⟨x',e,h⟩:=z; (simp only [List.cons.injEq,and_true,true_and,GM.ratD_iff,GM.partD_iff,GM.partsD_iff,GM.lineD_iff,GM.linesD_iff,D.tup.injEq,D.ref.injEq,D.int.injEq,D.str.injEq,D.bl.injEq,D.vl.injEq,Int.natCast_inj,and_assoc] at e; (repeat (obtain ⟨e1,e⟩:=e; subst e1)); subst e; exact h),fun h=>⟨x,rfl,h⟩⟩
noncomputable def sKw:DSp:=fun ds M R Y=>∃ (x:D),ds=[x]∧∃ m:Q4,x=tabQ m∧CDQ 230 m∧R (.str (kwS m)) M
theorem z_sKw {x:D} {M:Mem} {R:DK} {Y:DXK}:sKw [x] M R Y=(∃ m:Q4,x=tabQ m∧CDQ 230 m∧R (.str (kwS m)) M):=propext ⟨fun z=>by obtain ⟨x',e,h⟩:=z; (simp only [List.cons.injEq,and_true,true_and,GM.ratD_iff,GM.partD_iff,GM.partsD_iff,GM.lineD_iff,GM.linesD_iff,D.tup.injEq,D.ref.injEq,D.int.injEq,D.str.injEq,D.bl.injEq,D.vl.injEq,Int.natCast_inj,and_assoc] at e; (repeat (obtain ⟨e1,e⟩:=e; subst e1)); subst e; exact h),fun h=>⟨x,rfl,h⟩⟩
noncomputable def sFormOf:DSp:=fun ds M R Y=>∃ (x:D),ds=[x]∧∃ m:Q4,x=tabQ m∧CDQ 230 m∧R (formD m) M
theorem z_sFormOf {x:D} {M:Mem} {R:DK} {Y:DXK}:sFormOf [x] M R Y=(∃ m:Q4,x=tabQ m∧CDQ 230 m∧R (formD m) M):=propext ⟨fun z=>by obtain ⟨x',e,h⟩:=z; (simp only [List.cons.injEq,and_true,true_and,GM.ratD_iff,GM.partD_iff,GM.partsD_iff,GM.lineD_iff,GM.linesD_iff,D.tup.injEq,D.ref.injEq,D.int.injEq,D.str.injEq,D.bl.injEq,D.vl.injEq,Int.natCast_inj,and_assoc] at e; (repeat (obtain ⟨e1,e⟩:=e; subst e1)); subst e; exact h),fun h=>⟨x,rfl,h⟩⟩
noncomputable def sAlong:DSp:=fun ds M R Y=>∃ (x:D),ds=[x]∧∃ m:Q4,x=tabQ m∧CDQ 230 m∧R (alongD m) M
theorem z_sAlong {x:D} {M:Mem} {R:DK} {Y:DXK}:sAlong [x] M R Y=(∃ m:Q4,x=tabQ m∧CDQ 230 m∧R (alongD m) M):=propext ⟨fun z=>by obtain ⟨x',e,h⟩:=z; (simp only [List.cons.injEq,and_true,true_and,GM.ratD_iff,GM.partD_iff,GM.partsD_iff,GM.lineD_iff,GM.linesD_iff,D.tup.injEq,D.ref.injEq,D.int.injEq,D.str.injEq,D.bl.injEq,D.vl.injEq,Int.natCast_inj,and_assoc] at e; (repeat (obtain ⟨e1,e⟩:=e; subst e1)); subst e; exact h),fun h=>⟨x,rfl,h⟩⟩
noncomputable def sShr:DSp:=fun ds M R Y=>∃ (t:Rat),ds=[ratD t]∧sz t≤231∧∀ v,ShrIs t v→R v M
theorem z_sShr {t:Rat} {M:Mem} {R:DK} {Y:DXK}:sShr [ratD t] M R Y=(sz t≤231∧∀ v,ShrIs t v→R v M):=propext ⟨fun z=>by obtain ⟨t',e,h⟩:=z; (simp only [List.cons.injEq,and_true,true_and,GM.ratD_iff,GM.partD_iff,GM.partsD_iff,GM.lineD_iff,GM.linesD_iff,D.tup.injEq,D.ref.injEq,D.int.injEq,D.str.injEq,D.bl.injEq,D.vl.injEq,Int.natCast_inj,and_assoc] at e; (repeat (obtain ⟨e1,e⟩:=e; subst e1)); subst e; exact h),fun h=>⟨t,rfl,h⟩⟩
end GM

namespace GM
open PySem PySem.Spec L2 DL
open RM (sz)
noncomputable def xwI (p q:Int):Nat→Int × Int
  | 0=>(0,1)
  | k+1=>((xwI p q k).2,p*(xwI p q k).2 - q*q*(xwI p q k).1)
theorem xwI_cop {p:Int} {q:Nat} (h:Nat.Coprime p.natAbs q):∀ k,Nat.Coprime (xwI p q k).2.natAbs q
  | 0=>by show Nat.Coprime 1 q; exact Nat.coprime_one_left q
  | k+1=>by
    have ih:=xwI_cop h k
    show Nat.Coprime (p*(xwI p q k).2 - (q:Int)*q*(xwI p q k).1).natAbs q
    have h1:Nat.Coprime (p*(xwI p q k).2).natAbs q:=by rw [Int.natAbs_mul]; exact Nat.Coprime.mul_left h ih
    generalize p*(xwI p q k).2=x at *
    generalize (xwI p q k).1=y at *
    have e:Int.gcd (x - (q:Int)*q*y) (q:Int)=Int.gcd x (q:Int):=by
      rw [show x - (q:Int)*q*y=x+(q:Int)*(-((q:Int)*y)) by grind]
      exact Int.gcd_add_mul_left_left ..
    unfold Nat.Coprime at h1 ⊢
    exact Eq.trans e h1
theorem xw_xwI {m:Q4} {p:Int} {q:Nat} (h:trQ m*(q:Rat)=(p:Rat)):∀ k,(xwQ m (k+1)).1*(q:Rat) ^ k=((xwI p q k).2:Rat)∧(xwQ m k).1*(q:Rat) ^ k=(q:Rat)*((xwI p q k).1:Rat)
  | 0=>by
    refine ⟨?_,?_⟩
    · show ((m.1+m.2.2.2)*0 - -1)*(q:Rat) ^ 0=((1:Int):Rat)
      rw [show ((1:Int):Rat)=1 from rfl,Rat.pow_zero]; grind
    · show (0:Rat)*(q:Rat) ^ 0=(q:Rat)*((0:Int):Rat)
      rw [show ((0:Int):Rat)=0 from rfl]; grind
  | k+1=>by
    obtain ⟨h1,h2⟩:=xw_xwI h k
    have e2:(xwQ m (k+1+1)).1=trQ m*(xwQ m (k+1)).1 - (xwQ m k).1:=rfl
    refine ⟨?_,?_⟩
    · rw [e2]
      show _=((p*(xwI p q k).2 - (q:Int)*q*(xwI p q k).1:Int):Rat)
      rw [Rat.intCast_sub,Rat.intCast_mul,Rat.intCast_mul,Rat.intCast_mul,Rat.intCast_natCast,← h1,← h,Rat.pow_succ]
      have:(xwQ m k).1*((q:Rat) ^ k*(q:Rat))=(q:Rat)*(q:Rat)*((xwI p q k).1:Rat):=by
        rw [show (xwQ m k).1*((q:Rat) ^ k*(q:Rat))=(xwQ m k).1*(q:Rat) ^ k*(q:Rat) by grind,h2]; grind
      generalize (q:Rat) ^ k=Q at *
      grind
    · show _=(q:Rat)*((xwI p q k).2:Rat)
      rw [← h1,Rat.pow_succ]
      grind
theorem xw_whole {m:Q4} {k:Nat} (h:(xwQ m (k+1)).1=0):(trQ m).den=1:=by
  have e:=mul_den (trQ m)
  have h1:=(xw_xwI e k).1
  have c:=xwI_cop (trQ m).reduced k
  rw [h,show (0:Rat)*((trQ m).den:Rat) ^ k=0 by grind] at h1
  have:(xwI (trQ m).num (trQ m).den k).2=0:=by exact_mod_cast h1.symm
  rw [this] at c
  unfold Nat.Coprime at c
  simpa using c
theorem ab_mul (a b:Rat):absQ (a*b)=absQ a*absQ b:=by
  have h1:=absQ_nn (a*b)
  have h2:0≤absQ a*absQ b:=Rat.mul_nonneg (absQ_nn a) (absQ_nn b)
  have h3:=absQ_sq (a*b)
  have h4:=absQ_sq a
  have h5:=absQ_sq b
  have e:absQ (a*b)*absQ (a*b)=(absQ a*absQ b)*(absQ a*absQ b):=by grind
  have f:(absQ (a*b) - absQ a*absQ b)*(absQ (a*b)+absQ a*absQ b)=0:=by grind
  rcases Rat.mul_eq_zero.mp f with z | z <;> grind
theorem ab_sub (a b:Rat):absQ a - absQ b≤absQ (a - b):=by
  unfold absQ
  split <;> split <;> split <;> grind
theorem xw_grow {m:Q4} (h:2≤absQ (trQ m)):∀ k,absQ (xwQ m k).1+1≤absQ (xwQ m (k+1)).1
  | 0=>by
    show absQ 0+1≤absQ ((m.1+m.2.2.2)*0 - -1)
    rw [show (m.1+m.2.2.2)*0 - -1=1 by grind]
    decide +kernel
  | k+1=>by
    have ih:=xw_grow h k
    show _≤absQ (trQ m*(xwQ m (k+1)).1 - (xwQ m k).1)
    generalize (xwQ m (k+1)).1=x at *
    generalize (xwQ m k).1=y at *
    generalize trQ m=t at *
    have h1:=ab_sub (t*x) y
    rw [ab_mul] at h1
    have h2:2*absQ x≤absQ t*absQ x:=Rat.mul_le_mul_of_nonneg_right h (absQ_nn x)
    grind
theorem xw_ne {m:Q4} (h:2≤absQ (trQ m)) (k:Nat):(xwQ m (k+1)).1≠0:=by
  intro e
  have g:=xw_grow h k
  rw [e] at g
  have:=absQ_nn (xwQ m k).1
  have z:absQ 0=0:=by decide +kernel
  grind
theorem pw_same {m:Q4} (hd:detQ m=1) {k:Nat} (h:pwQ m (k+1)=(1,0,0,1)):sameP m:=by
  have e:=pw_xw hd (k+1)
  rw [h] at e
  have hd':m.1*m.2.2.2 - m.2.1*m.2.2.1=1:=hd
  by_cases hx:(xwQ m (k+1)).1=0
  · have w:=xw_whole hx
    by_cases h2:2≤absQ (trQ m)
    · exact absurd hx (xw_ne h2 k)
    · have en:=mul_den (trQ m)
      rw [w] at en
      have en:trQ m=((trQ m).num:Rat):=by
        have:((1:Nat):Rat)=1:=rfl
        rw [this] at en
        grind
      generalize (trQ m).num=z at *
      have b1:(z:Rat)<2:=by rw [← en]; unfold absQ at h2; split at h2 <;> grind
      have b2:(-2:Rat)<z:=by rw [← en]; unfold absQ at h2; split at h2 <;> grind
      have b1:z<2:=by exact_mod_cast b1
      have b2:-2<z:=by rw [show (-2:Rat)=((-2:Int):Rat) from rfl] at b2; exact_mod_cast b2
      have:z = -1∨z=0∨z=1:=by omega
      rcases this with rfl | rfl | rfl
      · exact .inr (.inr (.inl en))
      · exact .inr (.inr (.inr (.inl en)))
      · exact .inr (.inr (.inr (.inr en)))
  · generalize (xwQ m (k+1)).1=x at *
    generalize (xwQ m (k+1)).2=w at *
    injection e with e1 e
    injection e with e2 e
    injection e with e3 e4
    have b0:m.2.1=0:=by
      rcases Rat.mul_eq_zero.mp e2.symm with z | z
      · exact z
      · exact absurd z hx
    have c0:m.2.2.1=0:=by
      rcases Rat.mul_eq_zero.mp e3.symm with z | z
      · exact z
      · exact absurd z hx
    have ad:m.1=m.2.2.2:=by
      have:(m.1 - m.2.2.2)*x=0:=by grind
      rcases Rat.mul_eq_zero.mp this with z | z
      · grind
      · exact absurd z hx
    have:(m.1 - 1)*(m.1+1)=0:=by grind
    rcases Rat.mul_eq_zero.mp this with z | z
    · exact .inl (ext4 (by show m.1=1; grind) b0 c0 (by show m.2.2.2=1; grind))
    · exact .inr (.inl (ext4 (by show m.1 = -1; grind) b0 c0 (by show m.2.2.2 = -1; grind)))
theorem rts_pw {m:Q4} (hd:detQ m=1) (h:sameP m):∃ n:Nat,rtsD m = .int (n:Int)∧(n=1∨n=2∨n=3∨n=4∨n=6)∧pwQ m n=(1,0,0,1):=by
  have e:=pw_xw hd
  unfold rtsD
  by_cases h1:m=(1,0,0,1)
  · exact ⟨1,by rw [if_pos h1]; rfl,by decide,by rw [h1]; decide +kernel⟩
  · rw [if_neg h1]
    by_cases h2:m=(-1,0,0,-1)
    · exact ⟨2,by rw [if_pos h2]; rfl,by decide,by rw [h2]; decide +kernel⟩
    · rw [if_neg h2]
      by_cases h3:trQ m = -1
      · refine ⟨3,by rw [if_pos h3]; rfl,by decide,?_⟩
        have h3':m.1+m.2.2.2 = -1:=h3
        rw [e 3]
        simp only [xwQ,h3']
        exact ext4 (by grind) (by grind) (by grind) (by grind)
      · rw [if_neg h3]
        by_cases h4:trQ m=0
        · refine ⟨4,by rw [if_pos h4]; rfl,by decide,?_⟩
          have h3':m.1+m.2.2.2=0:=h4
          rw [e 4]
          simp only [xwQ,h3']
          exact ext4 (by grind) (by grind) (by grind) (by grind)
        · rw [if_neg h4]
          by_cases h5:trQ m=1
          · refine ⟨6,by rw [if_pos h5]; rfl,by decide,?_⟩
            have h3':m.1+m.2.2.2=1:=h5
            rw [e 6]
            simp only [xwQ,h3']
            exact ext4 (by grind) (by grind) (by grind) (by grind)
          · rcases h with h | h | h | h | h <;> contradiction
theorem shr_in {t r:Rat} (h:¬ absQ t<2) (h2:¬ absQ t=2) (r0:0≤r) (r1:r*r=t*t - 4):∀ k,k=(t - (if t<0 then -r else r)) / 2→k<1∧-1<k∧k*k - t*k+1=0:=by
  intro k hk
  unfold absQ at h h2
  by_cases ht:t<0
  · rw [if_pos ht] at hk
    rw [if_neg (by grind)] at h h2
    have e:k+k=t+r:=by grind
    have hr:r < -t:=by
      rcases Rat.le_total (a:=r) (b:=(-t)) with z | z
      · rcases Decidable.em (r = -t) with y | y
        · exfalso; rw [y] at r1; grind
        · grind
      · exfalso
        have:-t * -t≤r*r:=Rat.le_trans (Rat.mul_le_mul_of_nonneg_left z (by grind)) (Rat.mul_le_mul_of_nonneg_right z r0)
        grind
    have kk:k*k - t*k+1=0:=by grind
    refine ⟨by grind,?_,kk⟩
    rcases Rat.le_total (a:=k) (b:=(-1)) with z | z
    · exfalso
      have e2:(k+1)*(k - t - 1)=k*k - t*k - t - 1:=by grind
      have e3:k - t - 1≥0:=by grind
      have:0≤(-1 - k)*(k - t - 1):=Rat.mul_nonneg (by grind) (by grind)
      grind
    · rcases Decidable.em (k = -1) with y | y
      · exfalso; rw [y] at kk; grind
      · grind
  · rw [if_neg ht] at hk
    rw [if_pos (by grind)] at h h2
    have e:k+k=t - r:=by grind
    have kk:k*k - t*k+1=0:=by grind
    have hr:r<t:=by
      rcases Rat.le_total (a:=r) (b:=t) with z | z
      · rcases Decidable.em (r=t) with y | y
        · exfalso; rw [y] at r1; grind
        · grind
      · exfalso
        have:t*t≤r*r:=Rat.le_trans (Rat.mul_le_mul_of_nonneg_left z (by grind)) (Rat.mul_le_mul_of_nonneg_right z r0)
        grind
    refine ⟨?_,by grind,kk⟩
    rcases Rat.le_total (a:=1) (b:=k) with z | z
    · exfalso
      have:0≤(k - 1)*(t - 1 - k):=Rat.mul_nonneg (by grind) (by grind)
      grind
    · rcases Decidable.em (k=1) with y | y
      · exfalso; rw [y] at kk; grind
      · grind
theorem lz (a y b u:Rat):sz (a*y+b*u)≤sz a+sz y+sz b+sz u+1:=by
  have h1:=RM.sz_mul a y
  have h2:=RM.sz_mul b u
  have h3:=RM.sz_add (a*y) (b*u)
  omega
theorem kw_cases (m:Q4):(sameP m∧kwS m=Str.ofString "same")∨(¬ sameP m∧absQ (trQ m)=2∧kwS m=Str.ofString "shear")∨(¬ sameP m∧¬ absQ (trQ m)=2∧absQ (trQ m)<2∧kwS m=Str.ofString "turns")∨(¬ sameP m∧¬ absQ (trQ m)=2∧¬ absQ (trQ m)<2∧kwS m=Str.ofString "off"):=by
  unfold kwS
  by_cases h1:sameP m
  · exact .inl ⟨h1,if_pos h1⟩
  · rw [if_neg h1]
    by_cases h2:absQ (trQ m)=2
    · exact .inr (.inl ⟨h1,h2,if_pos h2⟩)
    · rw [if_neg h2]
      by_cases h3:absQ (trQ m)<2
      · exact .inr (.inr (.inl ⟨h1,h2,h3,if_pos h3⟩))
      · exact .inr (.inr (.inr ⟨h1,h2,h3,if_neg h3⟩))
noncomputable def hD (h:Rat × List (Str × Rat) × Rat):D:=.tup [ratD h.1,.vl (h.2.1.map partD),ratD h.2.2]
end GM

namespace GM
open PySem PySem.Spec L2 DL
open RM (sz)
noncomputable def sTurnS:DSp:=fun ds M R Y=>∃ (x0:D) (xs:List D),ds=[x0]∧(x0 = .vl (xs)∨x0 = .tup (xs))∧R (.vl xs.reverse) M
theorem z_sTurnS {xs:List D} {M:Mem} {R:DK} {Y:DXK}:sTurnS [.vl (xs)] M R Y=(R (.vl xs.reverse) M):=propext ⟨fun z=>by obtain ⟨x0,xs',e,o,h⟩:=z; rcases o with rfl | rfl <;> first | (exfalso; simp only [D.tup.injEq,List.cons.injEq,reduceCtorEq,false_and,and_false] at e; done) | (simp only [List.cons.injEq,and_true,true_and,GM.ratD_iff,GM.partD_iff,GM.partsD_iff,GM.lineD_iff,GM.linesD_iff,D.tup.injEq,D.ref.injEq,D.int.injEq,D.str.injEq,D.bl.injEq,D.vl.injEq,Int.natCast_inj,and_assoc] at e; (repeat (obtain ⟨e1,e⟩:=e; subst e1)); subst e; exact h),fun h=>⟨_,xs,rfl,.inl rfl,h⟩⟩
theorem z_sTurnS_t {xs:List D} {M:Mem} {R:DK} {Y:DXK}:sTurnS [.tup (xs)] M R Y=(R (.vl xs.reverse) M):=propext ⟨fun z=>by obtain ⟨x0,xs',e,o,h⟩:=z; rcases o with rfl | rfl <;> first | (exfalso; simp only [D.tup.injEq,List.cons.injEq,reduceCtorEq,false_and,and_false] at e; done) | (simp only [List.cons.injEq,and_true,true_and,GM.ratD_iff,GM.partD_iff,GM.partsD_iff,GM.lineD_iff,GM.linesD_iff,D.tup.injEq,D.ref.injEq,D.int.injEq,D.str.injEq,D.bl.injEq,D.vl.injEq,Int.natCast_inj,and_assoc] at e; (repeat (obtain ⟨e1,e⟩:=e; subst e1)); subst e; exact h),fun h=>⟨_,xs,rfl,.inr rfl,h⟩⟩
noncomputable def sRndBS:DSp:=fun ds M R Y=>∃ (x0:D) (near:Rat) (bs:List (Str × Rat)) (far:Rat),ds=[.tup [ratD near,x0,ratD far]]∧(x0 = .vl (bs.map partD)∨x0 = .tup (bs.map partD))∧bs.length≤9∧R (.vl ((hallL near bs far).map partD)) M
theorem z_sRndBS {near:Rat} {bs:List (Str × Rat)} {far:Rat} {M:Mem} {R:DK} {Y:DXK}:sRndBS [.tup [ratD near,.vl (bs.map partD),ratD far]] M R Y=(bs.length≤9∧R (.vl ((hallL near bs far).map partD)) M):=propext ⟨fun z=>by obtain ⟨x0,near',bs',far',e,o,h⟩:=z; rcases o with rfl | rfl <;> first | (exfalso; simp only [D.tup.injEq,List.cons.injEq,reduceCtorEq,false_and,and_false] at e; done) | (simp only [List.cons.injEq,and_true,true_and,GM.ratD_iff,GM.partD_iff,GM.partsD_iff,GM.lineD_iff,GM.linesD_iff,D.tup.injEq,D.ref.injEq,D.int.injEq,D.str.injEq,D.bl.injEq,D.vl.injEq,Int.natCast_inj,and_assoc] at e; (repeat (obtain ⟨e1,e⟩:=e; subst e1)); subst e; exact h),fun h=>⟨_,near,bs,far,rfl,.inl rfl,h⟩⟩
theorem z_sRndBS_t {near:Rat} {bs:List (Str × Rat)} {far:Rat} {M:Mem} {R:DK} {Y:DXK}:sRndBS [.tup [ratD near,.tup (bs.map partD),ratD far]] M R Y=(bs.length≤9∧R (.vl ((hallL near bs far).map partD)) M):=propext ⟨fun z=>by obtain ⟨x0,near',bs',far',e,o,h⟩:=z; rcases o with rfl | rfl <;> first | (exfalso; simp only [D.tup.injEq,List.cons.injEq,reduceCtorEq,false_and,and_false] at e; done) | (simp only [List.cons.injEq,and_true,true_and,GM.ratD_iff,GM.partD_iff,GM.partsD_iff,GM.lineD_iff,GM.linesD_iff,D.tup.injEq,D.ref.injEq,D.int.injEq,D.str.injEq,D.bl.injEq,D.vl.injEq,Int.natCast_inj,and_assoc] at e; (repeat (obtain ⟨e1,e⟩:=e; subst e1)); subst e; exact h),fun h=>⟨_,near,bs,far,rfl,.inr rfl,h⟩⟩
noncomputable def sKindS:DSp:=fun ds M R Y=>∃ (x0:D) (near:Rat) (bs:List (Str × Rat)) (far:Rat),ds=[.tup [ratD near,x0,ratD far]]∧(x0 = .vl (bs.map partD)∨x0 = .tup (bs.map partD))∧HallOk near bs far∧∀ v,KindIs (tbQ (hallL near bs far)) v→R (.tup [.str (kwS (tbQ (hallL near bs far))),v]) M
theorem z_sKindS {near:Rat} {bs:List (Str × Rat)} {far:Rat} {M:Mem} {R:DK} {Y:DXK}:sKindS [.tup [ratD near,.vl (bs.map partD),ratD far]] M R Y=(HallOk near bs far∧∀ v,KindIs (tbQ (hallL near bs far)) v→R (.tup [.str (kwS (tbQ (hallL near bs far))),v]) M):=propext ⟨fun z=>by obtain ⟨x0,near',bs',far',e,o,h⟩:=z; rcases o with rfl | rfl <;> first | (exfalso; simp only [D.tup.injEq,List.cons.injEq,reduceCtorEq,false_and,and_false] at e; done) | (simp only [List.cons.injEq,and_true,true_and,GM.ratD_iff,GM.partD_iff,GM.partsD_iff,GM.lineD_iff,GM.linesD_iff,D.tup.injEq,D.ref.injEq,D.int.injEq,D.str.injEq,D.bl.injEq,D.vl.injEq,Int.natCast_inj,and_assoc] at e; (repeat (obtain ⟨e1,e⟩:=e; subst e1)); subst e; exact h),fun h=>⟨_,near,bs,far,rfl,.inl rfl,h⟩⟩
theorem z_sKindS_t {near:Rat} {bs:List (Str × Rat)} {far:Rat} {M:Mem} {R:DK} {Y:DXK}:sKindS [.tup [ratD near,.tup (bs.map partD),ratD far]] M R Y=(HallOk near bs far∧∀ v,KindIs (tbQ (hallL near bs far)) v→R (.tup [.str (kwS (tbQ (hallL near bs far))),v]) M):=propext ⟨fun z=>by obtain ⟨x0,near',bs',far',e,o,h⟩:=z; rcases o with rfl | rfl <;> first | (exfalso; simp only [D.tup.injEq,List.cons.injEq,reduceCtorEq,false_and,and_false] at e; done) | (simp only [List.cons.injEq,and_true,true_and,GM.ratD_iff,GM.partD_iff,GM.partsD_iff,GM.lineD_iff,GM.linesD_iff,D.tup.injEq,D.ref.injEq,D.int.injEq,D.str.injEq,D.bl.injEq,D.vl.injEq,Int.natCast_inj,and_assoc] at e; (repeat (obtain ⟨e1,e⟩:=e; subst e1)); subst e; exact h),fun h=>⟨_,near,bs,far,rfl,.inr rfl,h⟩⟩
end GM

namespace GM
open PySem PySem.Spec L2 DL
open RM (sz)
noncomputable def rtN (m:Q4):Nat:=if m=(1,0,0,1) then 1 else if m=(-1,0,0,-1) then 2 else if trQ m = -1 then 3 else if trQ m=0 then 4 else if trQ m=1 then 6 else 0
theorem rt_rts (m:Q4) (h:sameP m):rtsD m = .int (rtN m:Int):=by
  unfold rtsD rtN
  by_cases h1:m=(1,0,0,1)
  · rw [if_pos h1,if_pos h1]; rfl
  · rw [if_neg h1,if_neg h1]
    by_cases h2:m=(-1,0,0,-1)
    · rw [if_pos h2,if_pos h2]; rfl
    · rw [if_neg h2,if_neg h2]
      by_cases h3:trQ m = -1
      · rw [if_pos h3,if_pos h3]; rfl
      · rw [if_neg h3,if_neg h3]
        by_cases h4:trQ m=0
        · rw [if_pos h4,if_pos h4]; rfl
        · rw [if_neg h4,if_neg h4]
          by_cases h5:trQ m=1
          · rw [if_pos h5,if_pos h5]; rfl
          · rcases h with h | h | h | h | h <;> contradiction
theorem rt_zero {m:Q4} (h:¬ sameP m):rtN m=0:=by
  unfold sameP at h
  unfold rtN
  rw [if_neg (fun e=>h (.inl e)),if_neg (fun e=>h (.inr (.inl e))),if_neg (fun e=>h (.inr (.inr (.inl e)))),if_neg (fun e=>h (.inr (.inr (.inr (.inl e))))),if_neg (fun e=>h (.inr (.inr (.inr (.inr e)))))]
theorem pw_tr {m:Q4} (hd:detQ m=1) (k:Nat):trQ (pwQ m k)=trQ m*(xwQ m k).1 - 2*(xwQ m k).2:=by
  rw [pw_xw hd]; simp only [trQ]; grind
theorem rt_min {m:Q4} (hd:detQ m=1) {j:Nat} (h0:0<j) (h1:j<rtN m):pwQ m j≠(1,0,0,1):=by
  intro e
  have ht:=pw_tr hd j
  rw [e,show trQ (1,0,0,1)=2 by decide +kernel] at ht
  unfold rtN at h1
  by_cases g1:m=(1,0,0,1)
  · rw [if_pos g1] at h1; omega
  · rw [if_neg g1] at h1
    by_cases g2:m=(-1,0,0,-1)
    · rw [if_pos g2] at h1
      have:j=1:=by omega
      subst this
      rw [g2] at e
      exact absurd e (by decide +kernel)
    · rw [if_neg g2] at h1
      by_cases g3:trQ m = -1
      · rw [if_pos g3] at h1
        have g:m.1+m.2.2.2 = -1:=g3
        have:j=1∨j=2:=by omega
        rcases this with rfl | rfl
        all_goals (rw [g3] at ht; simp only [xwQ,g] at ht; grind)
      · rw [if_neg g3] at h1
        by_cases g4:trQ m=0
        · rw [if_pos g4] at h1
          have g:m.1+m.2.2.2=0:=g4
          have:j=1∨j=2∨j=3:=by omega
          rcases this with rfl | rfl | rfl
          all_goals (rw [g4] at ht; simp only [xwQ,g] at ht; grind)
        · rw [if_neg g4] at h1
          by_cases g5:trQ m=1
          · rw [if_pos g5] at h1
            have g:m.1+m.2.2.2=1:=g5
            have:j=1∨j=2∨j=3∨j=4∨j=5:=by omega
            rcases this with rfl | rfl | rfl | rfl | rfl
            all_goals (rw [g5] at ht; simp only [xwQ,g] at ht; grind)
          · rw [if_neg g5] at h1; omega
theorem rt_first {m:Q4} (hd:detQ m=1) {i:Nat} (h0:0<i) (h:pwQ m i=(1,0,0,1)) (hb:∀ j,0<j→j<i→pwQ m j≠(1,0,0,1)):rtN m=i:=by
  obtain ⟨k,rfl⟩:∃ k,i=k+1:=⟨i - 1,by omega⟩
  have hs:=pw_same hd h
  obtain ⟨n,e1,e2,e3⟩:=rts_pw hd hs
  have e4:=rt_rts m hs
  rw [e1] at e4
  injection e4 with e4
  have e4:n=rtN m:=by omega
  rw [e4] at e2 e3
  rcases Nat.lt_trichotomy (k+1) (rtN m) with z | z | z
  · exact absurd h (rt_min hd (by omega) z)
  · exact z.symm
  · exact absurd e3 (hb _ (by omega) z)
theorem rt_none {m:Q4} (hd:detQ m=1) (hb:∀ j,0<j→j≤12→pwQ m j≠(1,0,0,1)):rtN m=0:=by
  by_cases hs:sameP m
  · obtain ⟨n,e1,e2,e3⟩:=rts_pw hd hs
    exact absurd e3 (hb n (by omega) (by omega))
  · exact rt_zero hs
theorem prts_cl (k:Nat):∀ {bs:List (Str × Rat)},(∀ x∈bs,x.1 = "gap" ∨ x.1 = "glass" ∨ x.1 = "stop")→clL (k+2) (bs.map partD)=true
  | [],_=>rfl
  | x :: r,h=>by
    have c:PyData.canLay0 (.str x.1)=true:=by
      rcases h x List.mem_cons_self with e | e | e <;> (rw [e]; decide +kernel)
    have ih:=prts_cl k (bs:=r) fun y hy=>h y (List.mem_cons_of_mem _ hy)
    rw [List.map_cons]
    show ((PyData.canLay0 (.str x.1) && (cl (k+1) (ratD x.2) && true)) && clL (k+2) (r.map partD))=true
    rw [c,ih]; rfl
theorem HallOk.cl {near far:Rat} {bs:List (Str × Rat)} (h:HallOk near bs far):clL 58 (bs.map partD)=true:=prts_cl 56 fun x hx=>by
  rcases (h.part x hx).2 with ⟨e,_⟩ | e | ⟨e,_⟩
  · exact .inl e
  · exact .inr (.inl e)
  · exact .inr (.inr e)
theorem cdA:CD 1 1 0 0 0:=⟨1,0,0,0,1,by decide,by decide,⟨by decide,by decide,by decide,by decide⟩,by grind,by grind,by grind,by grind⟩
theorem cdB:CD 1 0 0 1 0:=⟨0,0,1,0,1,by decide,by decide,⟨by decide,by decide,by decide,by decide⟩,by grind,by grind,by grind,by grind⟩
theorem rndK_cols (m:Q4) (i:Nat):rndK m (1,0) i=((pwQ m i).1,(pwQ m i).2.2.1)∧rndK m (0,1) i=((pwQ m i).2.1,(pwQ m i).2.2.2):=by
  constructor
  · rw [rnd_pw]; exact Prod.ext (by show _*(1:Rat)+_*0=_; grind) (by show _*(1:Rat)+_*0=_; grind)
  · rw [rnd_pw]; exact Prod.ext (by show _*(0:Rat)+_*1=_; grind) (by show _*(0:Rat)+_*1=_; grind)
theorem cols_one {m:Q4} {i:Nat}:D.vl [rayD (rndK m (1,0) i).1 (rndK m (1,0) i).2,rayD (rndK m (0,1) i).1 (rndK m (0,1) i).2] = .vl [.tup [ratD 1,ratD 0],.tup [ratD 0,ratD 1]]↔pwQ m i=(1,0,0,1):=by
  rw [(rndK_cols m i).1,(rndK_cols m i).2]
  constructor
  · intro h
    injection h with h
    injection h with h1 h
    injection h with h2 _
    have h1:D.tup [ratD (pwQ m i).1,ratD (pwQ m i).2.2.1] = .tup [ratD 1,ratD 0]:=h1
    have h2:D.tup [ratD (pwQ m i).2.1,ratD (pwQ m i).2.2.2] = .tup [ratD 0,ratD 1]:=h2
    injection h1 with h1
    injection h1 with h1 h3
    injection h3 with h3 _
    injection h2 with h2
    injection h2 with h2 h4
    injection h4 with h4 _
    exact ext4 (ratD_inj h1) (ratD_inj h2) (ratD_inj h3) (ratD_inj h4)
  · intro h
    rw [h]
theorem abs_lt2 {t:Rat}:absQ t<2 ↔ -2<t∧t<2:=by
  unfold absQ; split <;> constructor <;> grind
end GM

namespace GM
open PySem PySem.Spec L2 DL
open RM (sz)
noncomputable def rchQ (t x f:Rat):Rat:=4*(x*x - t*(x*f)+f*f) / (4 - t*t)
theorem t_lt4 {t:Rat} (h1:-2<t) (h2:t<2):0<4 - t*t:=by
  have:0<(2 - t)*(2+t):=Rat.mul_pos (by grind) (by grind)
  grind
theorem rch_div {D V B n:Rat} (h1:n≠0) (h2:B≠0) (h3:D≠0):4*(n*V*B)*n / (B*(D*(n*n)))=4*V / D:=by
  have nz:B*(D*(n*n))≠0:=by
    intro z
    rcases Rat.mul_eq_zero.mp z with z | z
    · exact h2 z
    · rcases Rat.mul_eq_zero.mp z with z | z
      · exact h3 z
      · rcases Rat.mul_eq_zero.mp z with z | z <;> exact h1 z
  have e1:4*(n*V*B)*n / (B*(D*(n*n)))*(B*(D*(n*n)))=4*(n*V*B)*n:=by grind
  have e2:4*V / D*D=4*V:=by grind
  have:(4*(n*V*B)*n / (B*(D*(n*n))) - 4*V / D)*(B*(D*(n*n)))=0:=by
    generalize 4*(n*V*B)*n / (B*(D*(n*n)))=L at *
    generalize 4*V / D=W at *
    grind
  rcases Rat.mul_eq_zero.mp this with z | z
  · grind
  · exact absurd z nz
noncomputable def cbN (q r:Rat):Nat:=q.den / Nat.gcd q.den r.den*r.den
theorem cb_div (q r:Rat):q.den ∣ cbN q r∧r.den ∣ cbN q r∧0<cbN q r∧cbN q r≤q.den*r.den:=by
  have hq:=q.den_pos
  have hr:=r.den_pos
  have g:=Nat.gcd_pos_of_pos_left r.den hq
  obtain ⟨a,ha⟩:=Nat.gcd_dvd_left q.den r.den
  obtain ⟨b,hb⟩:=Nat.gcd_dvd_right q.den r.den
  have ea:q.den / Nat.gcd q.den r.den=a:=by
    conv=>lhs; lhs; rw [ha]
    exact Nat.mul_div_cancel_left a g
  have a0:0<a:=by
    rcases Nat.eq_zero_or_pos a with z | z
    · rw [z,Nat.mul_zero] at ha; omega
    · exact z
  unfold cbN
  rw [ea]
  refine ⟨⟨b,?_⟩,⟨a,Nat.mul_comm _ _⟩,Nat.mul_pos a0 hr,Nat.mul_le_mul_right _ ?_⟩
  · conv=>lhs; rhs; rw [hb]
    conv=>rhs; lhs; rw [ha]
    rw [← Nat.mul_assoc,Nat.mul_comm a]
  · rw [ha]; exact Nat.le_mul_of_pos_left a g
theorem top_over {q:Rat} {b:Nat} (h:q.den ∣ b):((q.num*((b:Int).fdiv (q.den:Int)):Int):Rat)=q*(b:Rat)∧(q.num*((b:Int).fdiv (q.den:Int))).natAbs≤q.num.natAbs*b:=by
  obtain ⟨k,rfl⟩:=h
  have e:((q.den*k:Nat):Int).fdiv (q.den:Int)=(k:Int):=by
    rw [fdiv_nn (by omega) (by omega),Int.natCast_mul]
    exact Int.mul_ediv_cancel_left _ (by have:=q.den_pos; omega)
  rw [e]
  constructor
  · rw [Rat.intCast_mul,Rat.natCast_mul,← mul_den q,Rat.intCast_natCast]; grind
  · rw [Int.natAbs_mul,Int.natAbs_natCast]
    exact Nat.mul_le_mul_left _ (Nat.le_mul_of_pos_left k q.den_pos)
theorem add_bits {a b:Int} {k:Nat} (h1:a.natAbs<2 ^ k) (h2:b.natAbs<2 ^ k):(a+b).natAbs<2 ^ (k+1):=int_add_lt h1 h2
theorem sub_bits {a b:Int} {k:Nat} (h1:a.natAbs<2 ^ k) (h2:b.natAbs<2 ^ k):(a - b).natAbs<2 ^ (k+1):=by
  rw [Int.sub_eq_add_neg]; exact int_add_lt h1 (by rw [Int.natAbs_neg]; exact h2)
theorem up_bits {n k l:Nat} (h:n<2 ^ k) (hk:k≤l):n<2 ^ l:=Nat.lt_of_lt_of_le h (Nat.pow_le_pow_right (by decide) hk)
noncomputable def sCB:DSp:=fun ds M R Y=>∃ (q r:Rat),ds=[.tup [ratD q,ratD r]]∧sz q+sz r≤4000∧R (.int (cbN q r:Int)) M
theorem z_sCB {q r:Rat} {M:Mem} {R:DK} {Y:DXK}:sCB [.tup [ratD q,ratD r]] M R Y=(sz q+sz r≤4000∧R (.int (cbN q r:Int)) M):=propext ⟨fun z=>by obtain ⟨q',r',e,h⟩:=z; (simp only [List.cons.injEq,and_true,true_and,GM.ratD_iff,GM.partD_iff,GM.partsD_iff,GM.lineD_iff,GM.linesD_iff,D.tup.injEq,D.ref.injEq,D.int.injEq,D.str.injEq,D.bl.injEq,D.vl.injEq,Int.natCast_inj,and_assoc] at e; (repeat (obtain ⟨e1,e⟩:=e; subst e1)); subst e; exact h),fun h=>⟨q,r,rfl,h⟩⟩
noncomputable def sTO:DSp:=fun ds M R Y=>∃ (q r:Rat) (b:Nat),ds=[.tup [ratD q,ratD r],.int (b:Int)]∧(q.den ∣ b∧r.den ∣ b∧0<b∧b<2 ^ 4000∧sz q+sz r≤4000)∧R (.vl [.int (q.num*(b:Int).fdiv (q.den:Int)),.int (r.num*(b:Int).fdiv (r.den:Int))]) M
theorem z_sTO {q r:Rat} {b:Nat} {M:Mem} {R:DK} {Y:DXK}:sTO [.tup [ratD q,ratD r],.int (b:Int)] M R Y=((q.den ∣ b∧r.den ∣ b∧0<b∧b<2 ^ 4000∧sz q+sz r≤4000)∧R (.vl [.int (q.num*(b:Int).fdiv (q.den:Int)),.int (r.num*(b:Int).fdiv (r.den:Int))]) M):=propext ⟨fun z=>by obtain ⟨q',r',b',e,h⟩:=z; (simp only [List.cons.injEq,and_true,true_and,GM.ratD_iff,GM.partD_iff,GM.partsD_iff,GM.lineD_iff,GM.linesD_iff,D.tup.injEq,D.ref.injEq,D.int.injEq,D.str.injEq,D.bl.injEq,D.vl.injEq,Int.natCast_inj,and_assoc] at e; (repeat (obtain ⟨e1,e⟩:=e; subst e1)); subst e; exact h),fun h=>⟨q,r,b,rfl,h⟩⟩
noncomputable def sNumOf:DSp:=fun ds M R Y=>∃ (p q y u:Rat),ds=[ratD p,ratD q,rayD y u]∧sz p+sz y+(sz q+sz u)≤8900∧R (ratD (p*y+q*u)) M
theorem z_sNumOf {p q y u:Rat} {M:Mem} {R:DK} {Y:DXK}:sNumOf [ratD p,ratD q,rayD y u] M R Y=(sz p+sz y+(sz q+sz u)≤8900∧R (ratD (p*y+q*u)) M):=propext ⟨fun z=>by obtain ⟨p',q',y',u',e,h⟩:=z; (simp only [List.cons.injEq,and_true,true_and,GM.ratD_iff,GM.partD_iff,GM.partsD_iff,GM.lineD_iff,GM.linesD_iff,D.tup.injEq,D.ref.injEq,D.int.injEq,D.str.injEq,D.bl.injEq,D.vl.injEq,Int.natCast_inj,and_assoc] at e; (repeat (obtain ⟨e1,e⟩:=e; subst e1)); subst e; exact h),fun h=>⟨p,q,y,u,rfl,h⟩⟩
end GM

namespace GM
open PySem PySem.Spec L2 DL
open RM (sz)
noncomputable def stpL (L:List (Str × Rat)):Nat→List (Rat × Rat × Rat)
  | 0=>[]
  | i+1=>stpL L i++(match L[i]? with | some x=>if x.1 = "stop" then [((outP (L.take i) (1,0)).1,(outP (L.take i) (0,1)).1,x.2)] else [] | none=>[])
noncomputable def stpW (T:List (D × D × (Str × Rat))):Nat→List (D × D)
  | 0=>[]
  | i+1=>stpW T i++(match T[i]? with | some x=>if x.2.2.1 = "stop" then [(x.1,x.2.1)] else [] | none=>[])
noncomputable def hlD (w:D × D) (l:Rat × Rat × Rat):D:=.tup [w.1,w.2,lineD l]
noncomputable def hlN (T:List (D × D × (Str × Rat))) (i:Nat):List D:=List.zipWith hlD (stpW T i) (stpL (T.map fun z=>z.2.2) i)
theorem stp_len (T:List (D × D × (Str × Rat))):∀ i,(stpW T i).length=(stpL (T.map fun z=>z.2.2) i).length
  | 0=>rfl
  | i+1=>by
    have ih:=stp_len T i
    unfold stpW stpL
    rw [List.length_append,List.length_append,ih,List.getElem?_map]
    cases T[i]? with
    | none=>rfl
    | some x =>
      show _+(if x.2.2.1 = "stop" then [(x.1,x.2.1)] else []).length=_+(if x.2.2.1 = "stop" then _ else []).length
      split <;> rfl
theorem stpL_len (L:List (Str × Rat)):∀ i,(stpL L i).length≤i
  | 0=>Nat.le_refl _
  | i+1=>by
    have ih:=stpL_len L i
    unfold stpL
    rw [List.length_append]
    cases L[i]? with
    | none=>exact Nat.le_succ_of_le ih
    | some x =>
      show _+(if x.1 = "stop" then _ else []).length≤_
      split
      · exact Nat.succ_le_succ ih
      · exact Nat.le_succ_of_le ih
theorem stpL_on {L:List (Str × Rat)} {i:Nat} {x:Str × Rat} (h:L[i]? = some x):stpL L (i+1)=if x.1 = "stop" then stpL L i++[((outP (L.take i) (1,0)).1,(outP (L.take i) (0,1)).1,x.2)] else stpL L i:=by
  show stpL L i++(match L[i]? with | some x=>if x.1 = "stop" then [((outP (L.take i) (1,0)).1,(outP (L.take i) (0,1)).1,x.2)] else [] | none=>[])=_
  rw [h]
  show stpL L i++(if x.1 = "stop" then _ else [])=_
  split
  · rfl
  · exact List.append_nil _
theorem hlN_on {T:List (D × D × (Str × Rat))} {i:Nat} {w n:D} {x:Str × Rat} (h:T[i]? = some (w,n,x)):hlN T (i+1)=if x.1 = "stop" then hlN T i++[.tup [w,n,lineD ((outP ((T.map fun z=>z.2.2).take i) (1,0)).1,(outP ((T.map fun z=>z.2.2).take i) (0,1)).1,x.2)]] else hlN T i:=by
  have hl:=stp_len T i
  unfold hlN
  have h2:(T.map fun z=>z.2.2)[i]? = some x:=by rw [List.getElem?_map,h]; rfl
  rw [stpL_on h2]
  have e:stpW T (i+1)=if x.1 = "stop" then stpW T i++[(w,n)] else stpW T i:=by
    show stpW T i++(match T[i]? with | some x=>if x.2.2.1 = "stop" then [(x.1,x.2.1)] else [] | none=>[])=_
    rw [h]
    show stpW T i++(if x.1 = "stop" then _ else [])=_
    split
    · rfl
    · exact List.append_nil _
  rw [e]
  split
  · rw [List.zipWith_append hl]; rfl
  · rfl
theorem stpW_filter (T:List (D × D × (Str × Rat))):∀ i,stpW T i=((T.take i).filter fun z=>z.2.2.1 == Str.ofString "stop").map fun z=>(z.1,z.2.1)
  | 0=>rfl
  | i+1=>by
    have ih:=stpW_filter T i
    unfold stpW
    rw [ih,List.take_add_one,List.filter_append,List.map_append]
    cases h:T[i]? with
    | none=>rfl
    | some x =>
      show _++(if x.2.2.1 = "stop" then [(x.1,x.2.1)] else [])=_++((List.filter _ [x]).map _)
      by_cases e:x.2.2.1=Str.ofString "stop"
      · rw [if_pos e,List.filter_cons,if_pos (by rw [e]; exact beq_self_eq_true _)]; rfl
      · rw [if_neg e,List.filter_cons,if_neg (fun z=>e (eq_of_beq z))]; rfl
noncomputable def frW (bs:List (Str × Rat)):List ((Str × Rat) × Nat):=bs.zipIdx.filter fun x=>x.1.1 == Str.ofString "stop"
theorem stpW_hall (near far:Rat) (bs:List (Str × Rat)):stpW (hallT near bs far) (hallT near bs far).length=((frW bs).map fun x=>(D.str "forth",D.int (x.2:Int)))++((frW bs).reverse.map fun x=>(D.str "back",D.int (x.2:Int))):=by
  rw [stpW_filter,List.take_length]
  unfold hallT frW
  rw [List.filter_append,List.filter_append,List.filter_append,List.filter_map,List.filter_map,List.map_append,List.map_append,List.map_append,List.map_map,List.map_map]
  have g:∀ q:Rat,List.filter (fun z:D × D × (Str × Rat)=>z.2.2.1 == Str.ofString "stop") [(D.non,D.non,(Str.ofString "glass",q))]=[]:=fun q=>by
    rw [List.filter_cons,if_neg (by show ¬ (Str.ofString "glass" == Str.ofString "stop")=true; decide)]; rfl
  rw [g,g,List.map_nil,List.append_nil,List.append_nil,List.filter_reverse]
  rfl
theorem hallT_L (near far:Rat) (bs:List (Str × Rat)):(hallT near bs far).map (fun z=>z.2.2)=hallL near bs far:=(hallL_T near far bs).symm
theorem hallT_len (near far:Rat) (bs:List (Str × Rat)):(hallT near bs far).length=(hallL near bs far).length:=by rw [hallL_T,List.length_map]
theorem hlN_len (T:List (D × D × (Str × Rat))) (i:Nat):(hlN T i).length≤i:=by
  unfold hlN
  rw [List.length_zipWith,← stp_len,Nat.min_self,stp_len]
  exact stpL_len _ i
theorem hallP_item {near far:Rat} {bs:List (Str × Rat)} {i:Nat} {d:D} (h:(hallP near bs far)[i]? = some d):∃ (w n:D) (x:Str × Rat),d = .tup [w,n,partD x]∧(hallT near bs far)[i]? = some (w,n,x)∧(hallL near bs far)[i]? = some x:=by
  rw [hallP_T,List.getElem?_map] at h
  rw [hallL_T,List.getElem?_map]
  cases e:(hallT near bs far)[i]? with
  | none=>rw [e] at h; cases h
  | some z =>
    rw [e] at h
    exact ⟨z.1,z.2.1,z.2.2,(Option.some.inj h).symm,rfl,rfl⟩
noncomputable def fwD (x:(Str × Rat) × Nat):D:=.tup [.str "forth",.int (x.2:Int)]
noncomputable def bwD (x:(Str × Rat) × Nat):D:=.tup [.str "back",.int (x.2:Int)]
noncomputable def prD (w:D × D):D:=.tup [w.1,w.2]
theorem fb_stp (near far:Rat) (bs:List (Str × Rat)):(frW bs).map fwD++(frW bs).reverse.map bwD=(stpW (hallT near bs far) (hallT near bs far).length).map prD:=by
  rw [stpW_hall,List.map_append,List.map_map,List.map_map]; rfl
theorem hl_zip (near far:Rat) (bs:List (Str × Rat)):((stpW (hallT near bs far) (hallT near bs far).length).zip (stpL (hallL near bs far) (hallL near bs far).length)).map (fun z=>hlD z.1 z.2)=hlN (hallT near bs far) (hallT near bs far).length:=by
  unfold hlN
  rw [hallT_L,hallT_len,List.zip_eq_zipWith,List.map_zipWith]
theorem zip_pr (ws:List (D × D)) (ls:List (Rat × Rat × Rat)):zipD (ws.map prD) (ls.map lineD)=(ws.zip ls).map fun z=>D.tup [prD z.1,lineD z.2]:=by
  unfold zipD
  rw [List.zip_eq_zipWith,List.map_zipWith]
  rw [List.zipWith_map]
theorem frW_len (bs:List (Str × Rat)):(frW bs).length≤bs.length:=by
  unfold frW
  have:=List.length_filter_le (fun x:(Str × Rat) × Nat=>x.1.1 == Str.ofString "stop") bs.zipIdx
  rw [List.length_zipIdx] at this
  exact this
theorem stpW_mem {T:List (D × D × (Str × Rat))} {i:Nat} {w:D × D} (h:w∈stpW T i):∃ z∈T,z.1=w.1∧z.2.1=w.2:=by
  rw [stpW_filter] at h
  obtain ⟨z,hz,rfl⟩:=List.mem_map.mp h
  exact ⟨z,List.mem_of_mem_take (List.mem_filter.mp hz).1,rfl,rfl⟩
theorem hallT_cl {near far:Rat} {bs:List (Str × Rat)} {z:D × D × (Str × Rat)} (h:z∈hallT near bs far) (k:Nat):cl (k+1) z.1=true∧cl (k+1) z.2.1=true:=by
  have f:cl (k+1) (D.str (Str.ofString "forth"))=true:=by show PyData.canLay0 (.str (Str.ofString "forth"))=true; decide +kernel
  have b:cl (k+1) (D.str (Str.ofString "back"))=true:=by show PyData.canLay0 (.str (Str.ofString "back"))=true; decide +kernel
  unfold hallT at h
  rcases List.mem_append.mp h with h | h
  · rcases List.mem_append.mp h with h | h
    · rcases List.mem_append.mp h with h | h
      · obtain ⟨x,_,rfl⟩:=List.mem_map.mp h
        exact ⟨f,rfl⟩
      · rw [List.mem_singleton.mp h]; exact ⟨rfl,rfl⟩
    · obtain ⟨x,_,rfl⟩:=List.mem_map.mp h
      exact ⟨b,rfl⟩
  · rw [List.mem_singleton.mp h]; exact ⟨rfl,rfl⟩
theorem stpL_sz {L:List (Str × Rat)} (h:∀ i,CDQ 230 (tbQ (L.take i))):∀ i,∀ l∈stpL L i,sz l.1≤230∧sz l.2.1≤230
  | 0,l,hl=>by cases hl
  | i+1,l,hl=>by
    unfold stpL at hl
    rcases List.mem_append.mp hl with hl | hl
    · exact stpL_sz h i l hl
    · cases e:L[i]? with
      | none=>rw [e] at hl; cases hl
      | some x =>
        rw [e] at hl
        have hl:l∈(if x.1 = "stop" then [((outP (L.take i) (1,0)).1,(outP (L.take i) (0,1)).1,x.2)] else []):=hl
        split at hl
        · rw [List.mem_singleton.mp hl]
          have t4:=CD.t4 (h i)
          exact ⟨t4.a,t4.b⟩
        · cases hl
end GM

namespace GM
open PySem PySem.Spec L2 DL
open RM (sz)
structure HallW (near:Rat) (bs:List (Str × Rat)) (far:Rat):Prop where
  cd:∀ i,CDQ 230 (tbQ ((hallL near bs far).take i))
  szs:∀ x∈hallL near bs far,sz x.2≤3000
  len:bs.length≤9
  part:∀ x∈bs,(x.1 = "gap" ∨ x.1 = "glass")∨(x.1 = "stop" ∧ 0<x.2)
theorem HallOk.w {near far:Rat} {bs:List (Str × Rat)} (h:HallOk near bs far):HallW near bs far :=
  ⟨h.cd,fun x hx=>Nat.le_trans (h.szs x hx) (by decide),h.len,fun x hx=>by
    rcases (h.part x hx).2 with h | h | h
    · exact .inl (.inl h.1)
    · exact .inl (.inr h)
    · exact .inr h⟩
theorem row_sz {S:Nat} {L:List (Str × Rat)} {y u:Rat} (h:∀ i,CDQ 230 (tbQ (L.take i))) (g:CD S y 0 u 0) (i:Nat):sz ((outP (L.take i) (1,0)).1*y+(outP (L.take i) (0,1)).1*u)≤231+S∧sz ((outP (L.take i) (1,0)).1*(outP L (y,u)).1+(outP (L.take i) (0,1)).1*(outP L (y,u)).2)≤462+S:=by
  have c1:=ray_cd (h i) g
  have cL:=h L.length
  rw [List.take_length] at cL
  have c2:=ray_cd cL g
  have c3:=ray_cd (h i) c2
  have e1:=(out_lin (L.take i) y u).1
  have e2:=(out_lin (L.take i) (outP L (y,u)).1 (outP L (y,u)).2).1
  have t1:=c1.t2.y
  have t3:=c3.t2.y
  rw [e1] at t1
  rw [e2] at t3
  exact ⟨by omega,by omega⟩
theorem stpL_mem {L:List (Str × Rat)}:∀ i,∀ l∈stpL L i,∃ (j:Nat) (x:Str × Rat),L[j]? = some x∧x.1 = "stop" ∧ l=((outP (L.take j) (1,0)).1,(outP (L.take j) (0,1)).1,x.2)
  | 0,l,hl=>by cases hl
  | i+1,l,hl=>by
    cases e:L[i]? with
    | none =>
      have:stpL L (i+1)=stpL L i++[]:=by
        show stpL L i++_=_
        rw [e]
      rw [this,List.append_nil] at hl
      exact stpL_mem i l hl
    | some x =>
      rw [stpL_on e] at hl
      by_cases hx:x.1 = "stop"
      · rw [if_pos hx] at hl
        rcases List.mem_append.mp hl with hl | hl
        · exact stpL_mem i l hl
        · exact ⟨i,x,e,hx,List.mem_singleton.mp hl⟩
      · rw [if_neg hx] at hl
        exact stpL_mem i l hl
theorem less_div {q:Rat} {T B:Int} (b0:0<B):q.num*B<T*(q.den:Int)↔q<Rat.divInt T B:=by
  have hB:(0:Rat)<(B:Rat):=by exact_mod_cast b0
  have hd:(0:Rat)<(q.den:Rat):=by
    have:=q.den_pos
    exact_mod_cast this
  rw [Rat.divInt_eq_div,Rat.lt_div_iff hB]
  have e:=mul_den q
  have e1:(q.num*B<T*(q.den:Int))↔((q.num:Rat)*(B:Rat)<(T:Rat)*(q.den:Rat)):=by
    rw [← Rat.intCast_mul,← Rat.intCast_natCast,← Rat.intCast_mul,Rat.intCast_lt_intCast]
  rw [e1,← e]
  constructor
  · intro h
    apply Classical.byContradiction
    intro n
    have h1:=Rat.mul_nonneg (a:=q*(B:Rat) - (T:Rat)) (b:=(q.den:Rat)) (by grind) (by grind)
    grind
  · intro h
    have h1:=Rat.mul_pos (a:=(T:Rat) - q*(B:Rat)) (b:=(q.den:Rat)) (by grind) hd
    grind
noncomputable def swQ (t x f:Rat):Rat:=x*x - t*(x*f)+f*f
noncomputable def lateB (m:Q4) (x f r:Rat):Bool :=
  if sameP m then false else if absQ (trQ m)<2 then decide (r*r<rchQ (trQ m) x f) else if swQ (trQ m) x f≠0 then true else if absQ (trQ m)=2 then false else decide (absQ x<absQ f∨r<absQ x)
theorem hl_at {T:List (D × D × (Str × Rat))} {i k:Nat} {l:Rat × Rat × Rat} (h:(stpL (T.map fun z=>z.2.2) i)[k]? = some l):∃ w,(hlN T i)[k]? = some (hlD w l):=by
  have hk:=(List.getElem?_eq_some_iff.mp h).1
  rw [← stp_len T i] at hk
  refine ⟨(stpW T i)[k],?_⟩
  unfold hlN
  rw [List.getElem?_zipWith,h,List.getElem?_eq_getElem hk]
theorem hl_len (T:List (D × D × (Str × Rat))) (i:Nat):(hlN T i).length=(stpL (T.map fun z=>z.2.2) i).length:=by
  unfold hlN
  rw [List.length_zipWith,stp_len]; omega
theorem CD.ray2 {y u:Rat} {k l:Nat} (h1:sz y≤k) (h2:sz u≤l):CD (k+l) y 0 u 0:=by
  have n1:=num_lt' y h1
  have d1:=den_lt' y h1
  have n2:=num_lt' u h2
  have d2:=den_lt' u h2
  have d1':(y.den:Int).natAbs<2 ^ k:=by rw [Int.natAbs_natCast]; exact d1
  have d2':(u.den:Int).natAbs<2 ^ l:=by rw [Int.natAbs_natCast]; exact d2
  have e1:=mul_den y
  have e2:=mul_den u
  refine ⟨y.num*(u.den:Int),0,u.num*(y.den:Int),0,y.den*u.den,Nat.mul_ne_zero y.den_nz u.den_nz,nat_mul_lt d1 d2,⟨int_mul_lt n1 d2',Nat.two_pow_pos _,by rw [Nat.add_comm k l]; exact int_mul_lt n2 d1',Nat.two_pow_pos _⟩,?_,?_,?_,?_⟩
  · rw [Rat.natCast_mul,Rat.intCast_mul,Rat.intCast_natCast,← e1]; grind
  · show (0:Rat)*_=((0:Int):Rat); grind
  · rw [Rat.natCast_mul,Rat.intCast_mul,Rat.intCast_natCast,← e2]; grind
  · show (0:Rat)*_=((0:Int):Rat); grind
theorem k_sz {t k:Rat} (h:k*k - t*k+1=0):sz k≤sz t:=by
  have e1:=mul_den k
  have e2:=mul_den t
  have kd:(k.den:Rat)≠0:=by intro z; exact k.den_nz (by exact_mod_cast z)
  have tdn:(t.den:Rat)≠0:=by intro z; exact t.den_nz (by exact_mod_cast z)
  have main:(k.num*k.num+(k.den:Int)*(k.den:Int))*(t.den:Int)=t.num*(k.num*(k.den:Int)):=by
    have:(((k.num*k.num+(k.den:Int)*(k.den:Int))*(t.den:Int):Int):Rat)=((t.num*(k.num*(k.den:Int)):Int):Rat):=by
      rw [Rat.intCast_mul,Rat.intCast_add,Rat.intCast_mul,Rat.intCast_mul,Rat.intCast_mul,Rat.intCast_mul,Rat.intCast_natCast,Rat.intCast_natCast,← e1,← e2]
      grind
    exact_mod_cast this
  have cop:Nat.Coprime k.num.natAbs k.den:=k.reduced
  have main':(k.num.natAbs*k.num.natAbs+k.den*k.den)*t.den=t.num.natAbs*(k.num.natAbs*k.den):=by
    have hm:=congrArg Int.natAbs main
    rw [Int.natAbs_mul,Int.natAbs_mul,Int.natAbs_mul,Int.natAbs_natCast,Int.natAbs_natCast] at hm
    rw [← hm]
    congr 1
    have a1:0≤k.num*k.num:=by
      rcases Int.le_total 0 k.num with h | h
      · exact Int.mul_nonneg h h
      · exact Int.mul_nonneg_of_nonpos_of_nonpos h h
    have a2:(k.num.natAbs*k.num.natAbs:Nat)=(k.num*k.num).natAbs:=(Int.natAbs_mul _ _).symm
    have a3:((k.den:Int)*(k.den:Int))=((k.den*k.den:Nat):Int):=by rw [Int.natCast_mul]
    rw [a2,a3]
    omega
  have d0:=t.den_pos
  have key:∀ {P Q d n:Nat},Nat.Coprime P Q→(P*P+Q*Q)*d=n*(P*Q)→P ∣ d∧Q ∣ d:=fun {P Q d n} hc he=>by
    have h1:P ∣ Q*Q*d:=by
      have:P ∣ (P*P+Q*Q)*d:=by rw [he]; exact ⟨n*Q,by rw [Nat.mul_left_comm]⟩
      rw [Nat.add_mul] at this
      exact (Nat.dvd_add_right ⟨P*d,by rw [Nat.mul_assoc]⟩).mp this
    have h2:Q ∣ P*P*d:=by
      have:Q ∣ (P*P+Q*Q)*d:=by rw [he]; exact ⟨n*P,by rw [Nat.mul_comm P Q,Nat.mul_left_comm]⟩
      rw [Nat.add_comm,Nat.add_mul] at this
      exact (Nat.dvd_add_right ⟨Q*d,by rw [Nat.mul_assoc]⟩).mp this
    exact ⟨(Nat.Coprime.mul_right hc hc).dvd_of_dvd_mul_left h1,(Nat.Coprime.mul_right hc.symm hc.symm).dvd_of_dvd_mul_left h2⟩
  obtain ⟨p1,p2⟩:=key cop main'
  exact RM.sz_le (Nat.le_trans (RM.bl_mono (Nat.le_of_dvd d0 p1)) (RM.sz_den t)) (Nat.le_trans (RM.bl_mono (Nat.le_of_dvd d0 p2)) (RM.sz_den t))
theorem shr_sz {t k:Rat} (h:¬ absQ t<2) (h2:¬ absQ t=2) (hs:ShrIs t (ratD k)):k≠0∧sz k≤sz t:=by
  rcases hs with ⟨r,r0,r1,e⟩ | ⟨_,e⟩
  · have e:k=(t - (if t<0 then -r else r)) / 2:=ratD_iff.mp e
    obtain ⟨_,_,q⟩:=shr_in h h2 r0 r1 k e
    exact ⟨fun z=>by rw [z] at q; grind,k_sz q⟩
  · cases e
theorem cp20':CPow 10 20:=⟨by decide,by decide,by decide⟩
theorem cp40':CPow 10 40:=⟨by decide,by decide,by decide⟩
theorem cp25':CPow 10 25:=⟨by decide,by decide,by decide⟩
theorem one_over {N k:Nat} (h0:0<N) (h:N<2 ^ k):∃ q:Rat,D.tup [D.int 1,D.int (N:Int)]=ratD q∧sz q≤k+1:=by
  have hn:(0:Int)<(((N:Int):Rat)).num:=by show (0:Int)<(N:Int); omega
  refine ⟨(((N:Int):Rat))⁻¹,inv_D hn,?_⟩
  have hne : ((N : Int) : Rat) ≠ 0 := by intro z; have : (N : Int) = 0 := by exact_mod_cast z
                                         omega
  have e:(((N:Int):Rat))⁻¹=1 / ((N:Int):Rat):=by grind
  rw [e]
  have s:=RM.sz_div 1 ((N:Int):Rat) hne
  have s1:sz (1:Rat)=1:=RM.sz_one
  have hk:0<k:=by
    rcases Nat.eq_zero_or_pos k with z | z
    · rw [z] at h; omega
    · exact z
  have s2:sz ((N:Int):Rat)≤k:=RM.sz_le (RM.bl_le (by show (N:Int).natAbs<_; rw [Int.natAbs_natCast]; exact h) hk) (RM.bl_le (show 1<2 ^ k from Nat.one_lt_two_pow (by omega)) hk)
  omega
theorem abs_nd (q:Rat):(absQ q).num=(q.num.natAbs:Int)∧(absQ q).den=q.den:=by
  have h:=absQ_D q
  unfold ratD at h
  injection h with h
  injection h with h1 h2
  injection h1 with h1
  injection h2 with h2 _
  injection h2 with h2
  exact ⟨h1,by omega⟩
theorem hl_item {T:List (D × D × (Str × Rat))} {i k:Nat} {d:D} (h:(hlN T i)[k]? = some d):∃ w l,d=hlD w l∧(stpL (T.map fun z=>z.2.2) i)[k]? = some l:=by
  unfold hlN at h
  rw [List.getElem?_zipWith] at h
  cases h1:(stpW T i)[k]? with
  | none=>rw [h1] at h; simp at h
  | some w =>
    cases h2:(stpL (T.map fun z=>z.2.2) i)[k]? with
    | none=>rw [h1,h2] at h; simp at h
    | some l=>rw [h1,h2] at h; exact ⟨w,l,(Option.some.inj h).symm,rfl⟩
theorem hl_item2 {T:List (D × D × (Str × Rat))} {i k:Nat} {d:D} (h:(hlN T i)[k]? = some d):∃ w l,d=hlD w l∧(stpL (T.map fun z=>z.2.2) i)[k]? = some l∧w∈stpW T i:=by
  unfold hlN at h
  rw [List.getElem?_zipWith] at h
  cases h1:(stpW T i)[k]? with
  | none=>rw [h1] at h; simp at h
  | some w =>
    cases h2:(stpL (T.map fun z=>z.2.2) i)[k]? with
    | none=>rw [h1,h2] at h; simp at h
    | some l=>rw [h1,h2] at h; exact ⟨w,l,(Option.some.inj h).symm,rfl,List.mem_of_getElem? h1⟩
theorem rt_none6 {m:Q4} (hd:detQ m=1) (hb:∀ j,0<j→j≤6→pwQ m j≠(1,0,0,1)):rtN m=0:=by
  by_cases hs:sameP m
  · obtain ⟨n,e1,e2,e3⟩:=rts_pw hd hs
    exact absurd e3 (hb n (by omega) (by omega))
  · exact rt_none hd fun j j0 _ e=>by
      obtain ⟨i,rfl⟩:∃ i,j=i+1:=⟨j - 1,by omega⟩
      exact hs (pw_same hd e)
theorem HallW.line {near far:Rat} {bs:List (Str × Rat)} (hw:HallW near bs far) {y u:Rat} (cd:CD 1000 y 0 u 0) {l:Rat × Rat × Rat} (hl:l∈stpL (hallL near bs far) (hallL near bs far).length) :
    (sz l.1≤230∧sz l.2.1≤230)∧(sz l.2.2≤3000∧0<l.2.2)∧sz (l.1*y+l.2.1*u)≤1231∧sz (l.1*(outP (hallL near bs far) (y,u)).1+l.2.1*(outP (hallL near bs far) (y,u)).2)≤1462:=by
  obtain ⟨j,px,hj,hpx,el⟩:=stpL_mem _ l hl
  obtain ⟨z1,z2⟩:=row_sz hw.cd cd j
  have hpz:=hw.szs px (List.mem_of_getElem? hj)
  have hp0:0<px.2:=by
    have hm:=List.mem_of_getElem? hj
    unfold hallL at hm
    have inb:px∈bs→0<px.2:=fun h=>by
      rcases hw.part px h with h | h
      · rw [hpx] at h; exact absurd h (by decide)
      · exact h.2
    rcases List.mem_append.mp hm with hm | hm
    · rcases List.mem_append.mp hm with hm | hm
      · rcases List.mem_append.mp hm with hm | hm
        · exact inb hm
        · rw [List.mem_singleton.mp hm] at hpx; exact absurd hpx (show ¬ Str.ofString "glass" = Str.ofString "stop" by decide)
      · exact inb (List.mem_reverse.mp hm)
    · rw [List.mem_singleton.mp hm] at hpx; exact absurd hpx (show ¬ Str.ofString "glass" = Str.ofString "stop" by decide)
  have lj:=CD.t4 (hw.cd j)
  have lj1:sz (outP ((hallL near bs far).take j) (1,0)).1≤230:=lj.a
  have lj2:sz (outP ((hallL near bs far).take j) (0,1)).1≤230:=lj.b
  rw [el]
  exact ⟨⟨lj1,lj2⟩,⟨hpz,hp0⟩,by omega,by omega⟩
theorem late_two {m:Q4} (hs:¬ sameP m) {x f r:Rat} (ht:trQ m=2):lateB m x f r = !decide (f=x):=by
  have a2:absQ (trQ m)=2:=by rw [ht]; decide +kernel
  have a3:¬ absQ (trQ m)<2:=by rw [a2]; decide
  unfold lateB
  rw [if_neg hs,if_neg a3]
  have e:swQ (trQ m) x f=(x - f)*(x - f):=by unfold swQ; rw [ht]; grind
  by_cases h:f=x
  · rw [if_neg (by rw [e,h]; grind),if_pos a2,decide_eq_true h]; rfl
  · rw [if_pos (by rw [e]; grind),decide_eq_false h]; rfl
theorem late_mtwo {m:Q4} (hs:¬ sameP m) {x f r:Rat} (ht:trQ m = -2):lateB m x f r = !decide (f=0 - x):=by
  have a2:absQ (trQ m)=2:=by rw [ht]; decide +kernel
  have a3:¬ absQ (trQ m)<2:=by rw [a2]; decide
  unfold lateB
  rw [if_neg hs,if_neg a3]
  have e:swQ (trQ m) x f=(x+f)*(x+f):=by unfold swQ; rw [ht]; grind
  by_cases h:f=0 - x
  · rw [if_neg (by rw [e,h]; grind),if_pos a2,decide_eq_true h]; rfl
  · rw [if_pos (by rw [e]; grind),decide_eq_false h]; rfl
theorem abs_ne2 {t:Rat} (h1:¬ t=2) (h2:¬ t = -2):¬ absQ t=2:=by
  unfold absQ
  split <;> grind
theorem late_off {m:Q4} (hs:¬ sameP m) (h3:¬ absQ (trQ m)<2) (h2:¬ absQ (trQ m)=2) (x f r:Rat):lateB m x f r=if swQ (trQ m) x f≠0 then true else decide (absQ x<absQ f∨r<absQ x):=by
  unfold lateB
  rw [if_neg hs,if_neg h3,if_neg h2]
theorem late_nought {m:Q4} (hs:¬ sameP m) (h3:¬ absQ (trQ m)<2) (h2:¬ absQ (trQ m)=2) {f r:Rat} (r0:0<r):lateB m 0 f r = !decide (f=0):=by
  rw [late_off hs h3 h2]
  have e:swQ (trQ m) 0 f=f*f:=by unfold swQ; grind
  have a0:absQ (0:Rat)=0:=by decide +kernel
  by_cases h:f=0
  · rw [if_neg (by rw [e,h]; grind),h,a0,decide_eq_true rfl]
    exact decide_eq_false fun z=>by rcases z with z | z <;> grind
  · rw [if_pos (by rw [e]; grind),decide_eq_false h]; rfl
theorem sw_by {t x f:Rat} (hx:x≠0):swQ t x f=x*x*(1 - t*(f / x)+(f / x)*(f / x)):=by
  unfold swQ
  have:f=(f / x)*x:=by grind
  generalize f / x=p at *
  rw [this]; grind
theorem ab_by {x f:Rat} (hx:x≠0):absQ f=absQ (f / x)*absQ x:=by
  rw [← ab_mul]
  congr 1
  grind
theorem ab_pos {x:Rat} (hx:x≠0):0<absQ x:=by unfold absQ; split <;> grind
theorem late_great {m:Q4} (hs:¬ sameP m) (h3:¬ absQ (trQ m)<2) (h2:¬ absQ (trQ m)=2) {x f r:Rat} (hx:x≠0) (hp:f / x=0∨1<absQ (f / x) ∨ ¬ f / x+1 / (f / x)=trQ m):lateB m x f r=true:=by
  rw [late_off hs h3 h2]
  by_cases h:swQ (trQ m) x f≠0
  · rw [if_pos h]
  · rw [if_neg h]
    have h:swQ (trQ m) x f=0:=Classical.byContradiction h
    rw [sw_by hx] at h
    have h1:1 - trQ m*(f / x)+(f / x)*(f / x)=0:=by
      rcases Rat.mul_eq_zero.mp h with z | z
      · rcases Rat.mul_eq_zero.mp z with z | z <;> exact absurd z hx
      · exact z
    refine decide_eq_true (.inl ?_)
    rcases hp with z | z | z
    · rw [z] at h1; grind
    · rw [ab_by (f:=f) hx]
      have:=Rat.mul_pos (a:=absQ (f / x) - 1) (b:=absQ x) (by grind) (ab_pos hx)
      grind
    · exfalso
      apply z
      have:f / x≠0:=fun e=>by rw [e] at h1; grind
      generalize f / x=p at *
      grind
theorem late_kept {m:Q4} (hs:¬ sameP m) (h3:¬ absQ (trQ m)<2) (h2:¬ absQ (trQ m)=2) {x f r:Rat} (hx:x≠0) (h0:¬ f / x=0) (h1:¬ 1<absQ (f / x)) (he:f / x+1 / (f / x)=trQ m):lateB m x f r=decide (r<absQ x):=by
  rw [late_off hs h3 h2]
  have e:swQ (trQ m) x f=0:=by
    rw [sw_by hx,← he]
    generalize f / x=p at *
    have:(1 / p)*p=1:=by grind
    grind
  rw [if_neg (fun z=>z e)]
  refine decide_eq_decide.mpr ⟨fun z=>z.resolve_left fun z=>?_,.inr⟩
  rw [ab_by (f:=f) hx] at z
  have:=Rat.mul_nonneg (a:=1 - absQ (f / x)) (b:=absQ x) (by grind) (by have:=ab_pos hx; grind)
  grind
theorem rch_sz {t x f:Rat} (ht:sz t≤231) (hx:sz x≤1231) (hf:sz f≤1462) (t1:-2<t) (t2:t<2):sz (rchQ t x f)≤8800:=by
  have h4:=t_lt4 t1 t2
  have m1:=RM.sz_mul x x
  have m2:=RM.sz_mul x f
  have m3:=RM.sz_mul t (x*f)
  have m4:=RM.sz_sub (x*x) (t*(x*f))
  have m5:=RM.sz_mul f f
  have m6:=RM.sz_add (x*x - t*(x*f)) (f*f)
  have m7:=RM.sz_mul 4 (x*x - t*(x*f)+f*f)
  have m8:=RM.sz_mul t t
  have m9:=RM.sz_sub 4 (t*t)
  have s4:sz (4:Rat)≤3:=by decide +kernel
  have d:=RM.sz_div (4*(x*x - t*(x*f)+f*f)) (4 - t*t) (fun z=>by rw [z] at h4; exact absurd h4 (by decide))
  unfold rchQ
  omega
theorem ray_pair {S:Nat} {L:List (Str × Rat)} {y u:Rat} (h:CDQ 230 (tbQ L)) (g:CD S y 0 u 0):CD (230+S+1) y (outP L (y,u)).1 u (outP L (y,u)).2:=by
  have h:CD 230 (outP L (1,0)).1 (outP L (0,1)).1 (outP L (1,0)).2 (outP L (0,1)).2:=h
  have l:=out_lin L y u
  rw [l.1,l.2]
  generalize (outP L (1,0)).1=a at *
  generalize (outP L (0,1)).1=b at *
  generalize (outP L (1,0)).2=c at *
  generalize (outP L (0,1)).2=d at *
  obtain ⟨A,B,C,E,D0,h0,hd,⟨h1,h2,h3,h4⟩,e1,e2,e3,e4⟩:=h.ex
  obtain ⟨Y,_,U,_,D1,k0,kd,⟨k1,_,k3,_⟩,f1,_,f3,_⟩:=g.ex
  have hd':(D0:Int).natAbs<2 ^ 230:=by rw [Int.natAbs_natCast]; exact hd
  have up:∀ {n:Nat},n<2 ^ (230+S)→n<2 ^ (230+S+1):=fun h=>Nat.lt_of_lt_of_le h (Nat.pow_le_pow_right (by decide) (by omega))
  refine ⟨(D0:Int)*Y,A*Y+B*U,(D0:Int)*U,C*Y+E*U,D0*D1,Nat.mul_ne_zero h0 k0,up (nat_mul_lt hd kd),⟨up (int_mul_lt hd' k1),int_add_lt (int_mul_lt h1 k1) (int_mul_lt h2 k3),up (int_mul_lt hd' k3),int_add_lt (int_mul_lt h3 k1) (int_mul_lt h4 k3)⟩,?_,?_,?_,?_⟩
  · rw [Rat.natCast_mul,Rat.intCast_mul,Rat.intCast_natCast,← f1]; grind
  · rw [Rat.natCast_mul,Rat.intCast_add,Rat.intCast_mul,Rat.intCast_mul,← f1,← f3,← e1,← e2]; grind
  · rw [Rat.natCast_mul,Rat.intCast_mul,Rat.intCast_natCast,← f3]; grind
  · rw [Rat.natCast_mul,Rat.intCast_add,Rat.intCast_mul,Rat.intCast_mul,← f1,← f3,← e3,← e4]; grind
theorem div_ext {A Z q:Rat} (hz:Z≠0) (hq:q≠0):A / Z=A*q / (Z*q):=by grind
theorem rch_num {t x f a b:Rat} {S:Nat} (ht:sz t≤231) (h:CD S x f a b) (t1:-2<t) (t2:t<2):(rchQ t x f).num.natAbs<2 ^ (2*S+480):=by
  obtain ⟨X,F,_,_,D0,h0,_,⟨h1,h2,_,_⟩,e1,e2,_,_⟩:=h.ex
  have td:=den_lt' t ht
  have tn:=num_lt' t ht
  have td':(t.den:Int).natAbs<2 ^ 231:=by rw [Int.natAbs_natCast]; exact td
  have e:=mul_den t
  have h4:=t_lt4 t1 t2
  have d0:(t.den:Rat)≠0:=by intro z; exact t.den_nz (by exact_mod_cast z)
  have D0n:(D0:Rat)≠0:=by intro z; exact h0 (by exact_mod_cast z)
  have key:rchQ t x f=Rat.divInt (4*((t.den:Int)*((t.den:Int)*(X*X+F*F) - t.num*(X*F)))) ((4*((t.den:Int)*(t.den:Int)) - t.num*t.num)*((D0:Int)*(D0:Int))):=by
    rw [Rat.divInt_eq_div]
    simp only [Rat.intCast_mul,Rat.intCast_sub,Rat.intCast_add,Rat.intCast_natCast]
    rw [← e1,← e2,← e,show ((4:Int):Rat)=4 from rfl]
    unfold rchQ
    generalize (t.den:Rat)=n at *
    generalize (D0:Rat)=w at *
    have hz:4 - t*t≠0:=fun z=>by rw [z] at h4; exact absurd h4 (by decide)
    rw [show 4*(n*(n*(x*w*(x*w)+f*w*(f*w)) - t*n*(x*w*(f*w))))=(4*(x*x - t*(x*f)+f*f))*((n*n)*(w*w)) by grind,show (4*(n*n) - t*n*(t*n))*(w*w)=(4 - t*t)*((n*n)*(w*w)) by grind]
    have nz:n*n*(w*w)≠0:=by grind
    exact div_ext hz nz
  rw [key]
  refine Nat.lt_of_le_of_lt (RM.num_le _ _) ?_
  have xx:=int_mul_lt h1 h1
  have ff:=int_mul_lt h2 h2
  have xf:=int_mul_lt h1 h2
  have s1:=int_mul_lt td' (int_add_lt xx ff)
  have s2:=int_mul_lt tn xf
  have s3:=int_mul_lt td' (sub_bits s1 (up_bits s2 (show 231+(S+S)≤231+(S+S+1) by omega)))
  exact up_bits (int_mul_lt (show (4:Int).natAbs<2 ^ 3 by decide) s3) (by omega)
theorem line_rch {near far:Rat} {bs:List (Str × Rat)} (hw:HallW near bs far) {y u:Rat} (cd:CD 1000 y 0 u 0) {l:Rat × Rat × Rat} (hl:l∈stpL (hallL near bs far) (hallL near bs far).length) (t1:-2<trQ (tbQ (hallL near bs far))) (t2:trQ (tbQ (hallL near bs far))<2) :
    (rchQ (trQ (tbQ (hallL near bs far))) (l.1*y+l.2.1*u) (l.1*(outP (hallL near bs far) (y,u)).1+l.2.1*(outP (hallL near bs far) (y,u)).2)).num.natAbs<2 ^ 3500:=by
  have cL:=hw.cd (hallL near bs far).length
  rw [List.take_length] at cL
  have zt:sz (trQ (tbQ (hallL near bs far)))≤231:=CD.tr cL
  obtain ⟨j,px,hj,hpx,el⟩:=stpL_mem _ l hl
  have c:=CD.mul (k:=(y,(outP (hallL near bs far) (y,u)).1,u,(outP (hallL near bs far) (y,u)).2)) (hw.cd j) (ray_pair cL cd)
  have n:=rch_num zt c t1 t2
  rw [el]
  exact up_bits n (by omega)
theorem cut_fromW {ds:List D} {n:Nat}:cutD ds (some (n:Int)) none=ds.drop n:=by
  unfold cutD
  rw [HT.sIx_nat,HT.sIx_none]
  by_cases h:n≤ds.length
  · rw [Nat.min_eq_left h,List.take_of_length_le (by rw [List.length_drop]; omega)]
  · rw [Nat.min_eq_right (by omega),List.drop_eq_nil_of_le (by omega),List.drop_eq_nil_of_le (by omega),List.take_nil]
theorem cut_setW {bs:List (Str × Rat)} {k:Nat} (h:k<bs.length) (x:Str × Rat):cutD (bs.map partD) none (some (k:Int))++[partD x]++cutD (bs.map partD) (some ((k:Int)+1)) none=(bs.set k x).map partD:=by
  rw [cut_to,show (k:Int)+1=((k+1:Nat):Int) by omega,cut_fromW,List.set_eq_take_append_cons_drop,if_pos h,List.map_append,List.map_cons,List.map_take,List.map_drop,List.append_assoc]
  rfl
theorem cp9':CPow 10 9:=⟨by decide,by decide,by decide⟩
noncomputable def erS (x:Str × Rat):Str × Rat:=if x.1 = "stop" then (Str.ofString "stop",0) else x
theorem led_er (x:Str × Rat) (y u:Rat):ledP (erS x) y u=ledP x y u:=by
  unfold erS
  split
  · rename_i h
    obtain ⟨w,q⟩:=x
    have h:w=Str.ofString "stop" := h
    subst h
    unfold ledP
    rfl
  · rfl
theorem out_er (xs:List (Str × Rat)):∀ r:Rat × Rat,outP (xs.map erS) r=outP xs r:=by
  induction xs with
  | nil=>intro r; rfl
  | cons x xs ih =>
    intro r
    show outP (xs.map erS) (ledP (erS x) r.1 r.2)=outP xs (ledP x r.1 r.2)
    rw [led_er,ih]
theorem tb_er {xs ys:List (Str × Rat)} (h:xs.map erS=ys.map erS):tbQ xs=tbQ ys:=by
  unfold tbQ
  rw [← out_er xs,← out_er xs,← out_er ys,← out_er ys,h]
theorem hall_er (near far:Rat) {bs cs:List (Str × Rat)} (h:bs.map erS=cs.map erS):(hallL near bs far).map erS=(hallL near cs far).map erS:=by
  unfold hallL
  simp only [List.map_append,List.map_reverse,h]
theorem HallOk.set {near far:Rat} {bs:List (Str × Rat)} (h:HallOk near bs far) {at':Nat} {q0 q:Rat} (hat:bs[at']? = some (Str.ofString "stop",q0)) (hq:0<q) (hz:sz q≤3000):HallW near (bs.set at' (Str.ofString "stop",q)) far:=by
  have hl:=(List.getElem?_eq_some_iff.mp hat).1
  have hm:(bs.set at' (Str.ofString "stop",q)).map erS=bs.map erS:=by
    apply List.ext_getElem?
    intro i
    rw [List.getElem?_map,List.getElem?_map,List.getElem?_set]
    by_cases e:at'=i
    · subst e
      rw [if_pos rfl,if_pos hl,hat]; rfl
    · rw [if_neg e]
  refine ⟨fun i=>?_,fun x hx=>?_,by rw [List.length_set]; exact h.len,fun x hx=>?_⟩
  · rw [tb_er (ys:=(hallL near bs far).take i) (by rw [List.map_take,List.map_take,hall_er near far hm])]
    exact h.cd i
  · have inb:∀ x∈bs.set at' (Str.ofString "stop",q),sz x.2≤3000:=fun x hx=>by
      rcases List.mem_or_eq_of_mem_set hx with hx | rfl
      · exact Nat.le_trans (h.part x hx).1 (by decide)
      · exact hz
    unfold hallL at hx
    rcases List.mem_append.mp hx with hx | hx
    · rcases List.mem_append.mp hx with hx | hx
      · rcases List.mem_append.mp hx with hx | hx
        · exact inb x hx
        · rw [List.mem_singleton.mp hx]; exact Nat.le_trans h.zf (by decide)
      · exact inb x (List.mem_reverse.mp hx)
    · rw [List.mem_singleton.mp hx]; exact Nat.le_trans h.zn (by decide)
  · rcases List.mem_or_eq_of_mem_set hx with hx | rfl
    · exact h.w.part x hx
    · exact .inr ⟨rfl,hq⟩
noncomputable def sTabW:DSp:=fun ds M R Y=>∃ (bs:List (Str × Rat)),ds=[.vl (bs.map partD)]∧(((∀ x∈bs,sz x.2≤3000)∧bs.length≤40)∧∀ i,CDQ 230 (tbQ (bs.take i)))∧R (tabQ (tbQ bs)) M
theorem z_sTabW {bs:List (Str × Rat)} {M:Mem} {R:DK} {Y:DXK}:sTabW [.vl (bs.map partD)] M R Y=((((∀ x∈bs,sz x.2≤3000)∧bs.length≤40)∧∀ i,CDQ 230 (tbQ (bs.take i)))∧R (tabQ (tbQ bs)) M):=propext ⟨fun z=>by obtain ⟨bs',e,h⟩:=z; (simp only [List.cons.injEq,and_true,true_and,GM.ratD_iff,GM.partD_iff,GM.partsD_iff,GM.lineD_iff,GM.linesD_iff,D.tup.injEq,D.ref.injEq,D.int.injEq,D.str.injEq,D.bl.injEq,D.vl.injEq,Int.natCast_inj,and_assoc] at e; (repeat (obtain ⟨e1,e⟩:=e; subst e1)); subst e; exact h),fun h=>⟨bs,rfl,h⟩⟩
noncomputable def sRndW:DSp:=fun ds M R Y=>∃ (x0:D) (near:Rat) (bs:List (Str × Rat)) (far:Rat),ds=[.tup [ratD near,x0,ratD far]]∧(x0 = .vl (bs.map partD)∨x0 = .tup (bs.map partD))∧HallW near bs far∧R (tabQ (tbQ (hallL near bs far))) M
theorem z_sRndW {near:Rat} {bs:List (Str × Rat)} {far:Rat} {M:Mem} {R:DK} {Y:DXK}:sRndW [.tup [ratD near,.vl (bs.map partD),ratD far]] M R Y=(HallW near bs far∧R (tabQ (tbQ (hallL near bs far))) M):=propext ⟨fun z=>by obtain ⟨x0,near',bs',far',e,o,h⟩:=z; rcases o with rfl | rfl <;> first | (exfalso; simp only [D.tup.injEq,List.cons.injEq,reduceCtorEq,false_and,and_false] at e; done) | (simp only [List.cons.injEq,and_true,true_and,GM.ratD_iff,GM.partD_iff,GM.partsD_iff,GM.lineD_iff,GM.linesD_iff,D.tup.injEq,D.ref.injEq,D.int.injEq,D.str.injEq,D.bl.injEq,D.vl.injEq,Int.natCast_inj,and_assoc] at e; (repeat (obtain ⟨e1,e⟩:=e; subst e1)); subst e; exact h),fun h=>⟨_,near,bs,far,rfl,.inl rfl,h⟩⟩
theorem z_sRndW_t {near:Rat} {bs:List (Str × Rat)} {far:Rat} {M:Mem} {R:DK} {Y:DXK}:sRndW [.tup [ratD near,.tup (bs.map partD),ratD far]] M R Y=(HallW near bs far∧R (tabQ (tbQ (hallL near bs far))) M):=propext ⟨fun z=>by obtain ⟨x0,near',bs',far',e,o,h⟩:=z; rcases o with rfl | rfl <;> first | (exfalso; simp only [D.tup.injEq,List.cons.injEq,reduceCtorEq,false_and,and_false] at e; done) | (simp only [List.cons.injEq,and_true,true_and,GM.ratD_iff,GM.partD_iff,GM.partsD_iff,GM.lineD_iff,GM.linesD_iff,D.tup.injEq,D.ref.injEq,D.int.injEq,D.str.injEq,D.bl.injEq,D.vl.injEq,Int.natCast_inj,and_assoc] at e; (repeat (obtain ⟨e1,e⟩:=e; subst e1)); subst e; exact h),fun h=>⟨_,near,bs,far,rfl,.inr rfl,h⟩⟩
noncomputable def sLinesW:DSp:=fun ds M R Y=>∃ (bs:List (Str × Rat)),ds=[.vl (bs.map partD)]∧(((∀ x∈bs,sz x.2≤3000)∧bs.length≤40)∧∀ i,CDQ 230 (tbQ (bs.take i)))∧R (.vl ((stpL bs bs.length).map lineD)) M
theorem z_sLinesW {bs:List (Str × Rat)} {M:Mem} {R:DK} {Y:DXK}:sLinesW [.vl (bs.map partD)] M R Y=((((∀ x∈bs,sz x.2≤3000)∧bs.length≤40)∧∀ i,CDQ 230 (tbQ (bs.take i)))∧R (.vl ((stpL bs bs.length).map lineD)) M):=propext ⟨fun z=>by obtain ⟨bs',e,h⟩:=z; (simp only [List.cons.injEq,and_true,true_and,GM.ratD_iff,GM.partD_iff,GM.partsD_iff,GM.lineD_iff,GM.linesD_iff,D.tup.injEq,D.ref.injEq,D.int.injEq,D.str.injEq,D.bl.injEq,D.vl.injEq,Int.natCast_inj,and_assoc] at e; (repeat (obtain ⟨e1,e⟩:=e; subst e1)); subst e; exact h),fun h=>⟨bs,rfl,h⟩⟩
noncomputable def sHallLnW:DSp:=fun ds M R Y=>∃ (x0:D) (near:Rat) (bs:List (Str × Rat)) (far:Rat),ds=[.tup [ratD near,x0,ratD far]]∧(x0 = .vl (bs.map partD)∨x0 = .tup (bs.map partD))∧HallW near bs far∧∀ p,M p=none→R (.ref p) (updM M p (.lst (hlN (hallT near bs far) (hallT near bs far).length)))
theorem z_sHallLnW {near:Rat} {bs:List (Str × Rat)} {far:Rat} {M:Mem} {R:DK} {Y:DXK}:sHallLnW [.tup [ratD near,.vl (bs.map partD),ratD far]] M R Y=(HallW near bs far∧∀ p,M p=none→R (.ref p) (updM M p (.lst (hlN (hallT near bs far) (hallT near bs far).length)))):=propext ⟨fun z=>by obtain ⟨x0,near',bs',far',e,o,h⟩:=z; rcases o with rfl | rfl <;> first | (exfalso; simp only [D.tup.injEq,List.cons.injEq,reduceCtorEq,false_and,and_false] at e; done) | (simp only [List.cons.injEq,and_true,true_and,GM.ratD_iff,GM.partD_iff,GM.partsD_iff,GM.lineD_iff,GM.linesD_iff,D.tup.injEq,D.ref.injEq,D.int.injEq,D.str.injEq,D.bl.injEq,D.vl.injEq,Int.natCast_inj,and_assoc] at e; (repeat (obtain ⟨e1,e⟩:=e; subst e1)); subst e; exact h),fun h=>⟨_,near,bs,far,rfl,.inl rfl,h⟩⟩
theorem z_sHallLnW_t {near:Rat} {bs:List (Str × Rat)} {far:Rat} {M:Mem} {R:DK} {Y:DXK}:sHallLnW [.tup [ratD near,.tup (bs.map partD),ratD far]] M R Y=(HallW near bs far∧∀ p,M p=none→R (.ref p) (updM M p (.lst (hlN (hallT near bs far) (hallT near bs far).length)))):=propext ⟨fun z=>by obtain ⟨x0,near',bs',far',e,o,h⟩:=z; rcases o with rfl | rfl <;> first | (exfalso; simp only [D.tup.injEq,List.cons.injEq,reduceCtorEq,false_and,and_false] at e; done) | (simp only [List.cons.injEq,and_true,true_and,GM.ratD_iff,GM.partD_iff,GM.partsD_iff,GM.lineD_iff,GM.linesD_iff,D.tup.injEq,D.ref.injEq,D.int.injEq,D.str.injEq,D.bl.injEq,D.vl.injEq,Int.natCast_inj,and_assoc] at e; (repeat (obtain ⟨e1,e⟩:=e; subst e1)); subst e; exact h),fun h=>⟨_,near,bs,far,rfl,.inr rfl,h⟩⟩
noncomputable def sHRoundW:DSp:=fun ds M R Y=>∃ (near:Rat) (bs:List (Str × Rat)) (far:Rat) (y u:Rat),ds=[.tup [ratD near,.vl (bs.map partD),ratD far],rayD y u]∧(HallW near bs far∧∃ S,CD S y 0 u 0∧S≤2000)∧R (rayD (outP (hallL near bs far) (y,u)).1 (outP (hallL near bs far) (y,u)).2) M
theorem z_sHRoundW {near:Rat} {bs:List (Str × Rat)} {far:Rat} {y u:Rat} {M:Mem} {R:DK} {Y:DXK}:sHRoundW [.tup [ratD near,.vl (bs.map partD),ratD far],rayD y u] M R Y=((HallW near bs far∧∃ S,CD S y 0 u 0∧S≤2000)∧R (rayD (outP (hallL near bs far) (y,u)).1 (outP (hallL near bs far) (y,u)).2) M):=propext ⟨fun z=>by obtain ⟨near',bs',far',y',u',e,h⟩:=z; (simp only [List.cons.injEq,and_true,true_and,GM.ratD_iff,GM.partD_iff,GM.partsD_iff,GM.lineD_iff,GM.linesD_iff,D.tup.injEq,D.ref.injEq,D.int.injEq,D.str.injEq,D.bl.injEq,D.vl.injEq,Int.natCast_inj,and_assoc] at e; (repeat (obtain ⟨e1,e⟩:=e; subst e1)); subst e; exact h),fun h=>⟨near,bs,far,y,u,rfl,h⟩⟩
noncomputable def sSwingE:DSp:=fun ds M R Y=>∃ (t x f:Rat),ds=[ratD t,ratD x,ratD f]∧(sz t≤231∧sz x+sz f≤3200)∧∀ (T B:Int),0<B→B.natAbs<2 ^ 6400→T.natAbs<2 ^ 15000→(T:Rat)=t.den*(x*x - t*(x*f)+f*f)*B→R (.tup [.int T,.int B]) M
theorem z_sSwingE {t x f:Rat} {M:Mem} {R:DK} {Y:DXK}:sSwingE [ratD t,ratD x,ratD f] M R Y=((sz t≤231∧sz x+sz f≤3200)∧∀ (T B:Int),0<B→B.natAbs<2 ^ 6400→T.natAbs<2 ^ 15000→(T:Rat)=t.den*(x*x - t*(x*f)+f*f)*B→R (.tup [.int T,.int B]) M):=propext ⟨fun z=>by obtain ⟨t',x',f',e,h⟩:=z; (simp only [List.cons.injEq,and_true,true_and,GM.ratD_iff,GM.partD_iff,GM.partsD_iff,GM.lineD_iff,GM.linesD_iff,D.tup.injEq,D.ref.injEq,D.int.injEq,D.str.injEq,D.bl.injEq,D.vl.injEq,Int.natCast_inj,and_assoc] at e; (repeat (obtain ⟨e1,e⟩:=e; subst e1)); subst e; exact h),fun h=>⟨t,x,f,rfl,h⟩⟩
noncomputable def sRchE:DSp:=fun ds M R Y=>∃ (t x f:Rat),ds=[ratD t,ratD x,ratD f]∧(sz t≤231∧-2<t∧t<2∧sz x+sz f≤3200)∧∀ (T B:Int),0<B→B.natAbs<2 ^ 7000→T.natAbs<2 ^ 16000→Rat.divInt T B=rchQ t x f→R (.tup [.int T,.int B]) M
theorem z_sRchE {t x f:Rat} {M:Mem} {R:DK} {Y:DXK}:sRchE [ratD t,ratD x,ratD f] M R Y=((sz t≤231∧-2<t∧t<2∧sz x+sz f≤3200)∧∀ (T B:Int),0<B→B.natAbs<2 ^ 7000→T.natAbs<2 ^ 16000→Rat.divInt T B=rchQ t x f→R (.tup [.int T,.int B]) M):=propext ⟨fun z=>by obtain ⟨t',x',f',e,h⟩:=z; (simp only [List.cons.injEq,and_true,true_and,GM.ratD_iff,GM.partD_iff,GM.partsD_iff,GM.lineD_iff,GM.linesD_iff,D.tup.injEq,D.ref.injEq,D.int.injEq,D.str.injEq,D.bl.injEq,D.vl.injEq,Int.natCast_inj,and_assoc] at e; (repeat (obtain ⟨e1,e⟩:=e; subst e1)); subst e; exact h),fun h=>⟨t,x,f,rfl,h⟩⟩
noncomputable def sLessP:DSp:=fun ds M R Y=>∃ (q:Rat) (T B:Int),ds=[ratD q,.tup [.int T,.int B]]∧(0<B∧sz q≤9000∧B.natAbs<2 ^ 9000∧T.natAbs<2 ^ 20000)∧R (.bl (decide (q<Rat.divInt T B))) M
theorem z_sLessP {q:Rat} {T B:Int} {M:Mem} {R:DK} {Y:DXK}:sLessP [ratD q,.tup [.int T,.int B]] M R Y=((0<B∧sz q≤9000∧B.natAbs<2 ^ 9000∧T.natAbs<2 ^ 20000)∧R (.bl (decide (q<Rat.divInt T B))) M):=propext ⟨fun z=>by obtain ⟨q',T',B',e,h⟩:=z; (simp only [List.cons.injEq,and_true,true_and,GM.ratD_iff,GM.partD_iff,GM.partsD_iff,GM.lineD_iff,GM.linesD_iff,D.tup.injEq,D.ref.injEq,D.int.injEq,D.str.injEq,D.bl.injEq,D.vl.injEq,Int.natCast_inj,and_assoc] at e; (repeat (obtain ⟨e1,e⟩:=e; subst e1)); subst e; exact h),fun h=>⟨q,T,B,rfl,h⟩⟩
noncomputable def sFirstTwo:DSp:=fun ds M R Y=>∃ (a b c d y u:Rat) (x:D),ds=[tabD a b c d,rayD y u,x]∧∃ ls:List (Rat × Rat × Rat),x = .vl (ls.map lineD)∧((sz a+sz y+(sz b+sz u)≤8900∧sz c+sz y+(sz d+sz u)≤8900)∧ls.length≤40∧∀ l∈ls,sz l.1+sz y+(sz l.2.1+sz u)≤8900∧sz l.1+sz (a*y+b*u)+(sz l.2.1+sz (c*y+d*u))≤8900)∧R (.vl (ls.map fun l=>D.tup [ratD (l.1*y+l.2.1*u),ratD (l.1*(a*y+b*u)+l.2.1*(c*y+d*u)),ratD l.2.2])) M
theorem z_sFirstTwo {a b c d y u:Rat} {x:D} {M:Mem} {R:DK} {Y:DXK}:sFirstTwo [tabD a b c d,rayD y u,x] M R Y=(∃ ls:List (Rat × Rat × Rat),x = .vl (ls.map lineD)∧((sz a+sz y+(sz b+sz u)≤8900∧sz c+sz y+(sz d+sz u)≤8900)∧ls.length≤40∧∀ l∈ls,sz l.1+sz y+(sz l.2.1+sz u)≤8900∧sz l.1+sz (a*y+b*u)+(sz l.2.1+sz (c*y+d*u))≤8900)∧R (.vl (ls.map fun l=>D.tup [ratD (l.1*y+l.2.1*u),ratD (l.1*(a*y+b*u)+l.2.1*(c*y+d*u)),ratD l.2.2])) M):=propext ⟨fun z=>by obtain ⟨a',b',c',d',y',u',x',e,h⟩:=z; (simp only [List.cons.injEq,and_true,true_and,GM.ratD_iff,GM.partD_iff,GM.partsD_iff,GM.lineD_iff,GM.linesD_iff,D.tup.injEq,D.ref.injEq,D.int.injEq,D.str.injEq,D.bl.injEq,D.vl.injEq,Int.natCast_inj,and_assoc] at e; (repeat (obtain ⟨e1,e⟩:=e; subst e1)); subst e; exact h),fun h=>⟨a,b,c,d,y,u,x,rfl,h⟩⟩
noncomputable def sShows:DSp:=fun ds M R Y=>∃ (w:D) (t x f r:Rat),ds=[w,ratD t,ratD x,ratD f,ratD r]∧∃ m:Q4,w = .str (kwS m)∧t=trQ m∧(CDQ 230 m∧detQ m=1∧sz x+sz f≤3200∧sz r≤3000∧0<r)∧R (.bl (lateB m x f r)) M
theorem z_sShows {w:D} {t x f r:Rat} {M:Mem} {R:DK} {Y:DXK}:sShows [w,ratD t,ratD x,ratD f,ratD r] M R Y=(∃ m:Q4,w = .str (kwS m)∧t=trQ m∧(CDQ 230 m∧detQ m=1∧sz x+sz f≤3200∧sz r≤3000∧0<r)∧R (.bl (lateB m x f r)) M):=propext ⟨fun z=>by obtain ⟨w',t',x',f',r',e,h⟩:=z; (simp only [List.cons.injEq,and_true,true_and,GM.ratD_iff,GM.partD_iff,GM.partsD_iff,GM.lineD_iff,GM.linesD_iff,D.tup.injEq,D.ref.injEq,D.int.injEq,D.str.injEq,D.bl.injEq,D.vl.injEq,Int.natCast_inj,and_assoc] at e; (repeat (obtain ⟨e1,e⟩:=e; subst e1)); subst e; exact h),fun h=>⟨w,t,x,f,r,rfl,h⟩⟩
noncomputable def sLateSh:DSp:=fun ds M R Y=>∃ (x0:D) (near:Rat) (bs:List (Str × Rat)) (far:Rat) (y u:Rat) (k:Nat),ds=[.tup [ratD near,x0,ratD far],rayD y u,.int (k:Int)]∧(x0 = .vl (bs.map partD)∨x0 = .tup (bs.map partD))∧(HallW near bs far∧∃ S,CD S y 0 u 0∧S≤1000)∧∃ l,(stpL (hallL near bs far) (hallL near bs far).length)[k]? = some l∧R (.bl (lateB (tbQ (hallL near bs far)) (l.1*y+l.2.1*u) (l.1*(outP (hallL near bs far) (y,u)).1+l.2.1*(outP (hallL near bs far) (y,u)).2) l.2.2)) M
theorem z_sLateSh {near:Rat} {bs:List (Str × Rat)} {far:Rat} {y u:Rat} {k:Nat} {M:Mem} {R:DK} {Y:DXK}:sLateSh [.tup [ratD near,.vl (bs.map partD),ratD far],rayD y u,.int (k:Int)] M R Y=((HallW near bs far∧∃ S,CD S y 0 u 0∧S≤1000)∧∃ l,(stpL (hallL near bs far) (hallL near bs far).length)[k]? = some l∧R (.bl (lateB (tbQ (hallL near bs far)) (l.1*y+l.2.1*u) (l.1*(outP (hallL near bs far) (y,u)).1+l.2.1*(outP (hallL near bs far) (y,u)).2) l.2.2)) M):=propext ⟨fun z=>by obtain ⟨x0,near',bs',far',y',u',k',e,o,h⟩:=z; rcases o with rfl | rfl <;> first | (exfalso; simp only [D.tup.injEq,List.cons.injEq,reduceCtorEq,false_and,and_false] at e; done) | (simp only [List.cons.injEq,and_true,true_and,GM.ratD_iff,GM.partD_iff,GM.partsD_iff,GM.lineD_iff,GM.linesD_iff,D.tup.injEq,D.ref.injEq,D.int.injEq,D.str.injEq,D.bl.injEq,D.vl.injEq,Int.natCast_inj,and_assoc] at e; (repeat (obtain ⟨e1,e⟩:=e; subst e1)); subst e; exact h),fun h=>⟨_,near,bs,far,y,u,k,rfl,.inl rfl,h⟩⟩
theorem z_sLateSh_t {near:Rat} {bs:List (Str × Rat)} {far:Rat} {y u:Rat} {k:Nat} {M:Mem} {R:DK} {Y:DXK}:sLateSh [.tup [ratD near,.tup (bs.map partD),ratD far],rayD y u,.int (k:Int)] M R Y=((HallW near bs far∧∃ S,CD S y 0 u 0∧S≤1000)∧∃ l,(stpL (hallL near bs far) (hallL near bs far).length)[k]? = some l∧R (.bl (lateB (tbQ (hallL near bs far)) (l.1*y+l.2.1*u) (l.1*(outP (hallL near bs far) (y,u)).1+l.2.1*(outP (hallL near bs far) (y,u)).2) l.2.2)) M):=propext ⟨fun z=>by obtain ⟨x0,near',bs',far',y',u',k',e,o,h⟩:=z; rcases o with rfl | rfl <;> first | (exfalso; simp only [D.tup.injEq,List.cons.injEq,reduceCtorEq,false_and,and_false] at e; done) | (simp only [List.cons.injEq,and_true,true_and,GM.ratD_iff,GM.partD_iff,GM.partsD_iff,GM.lineD_iff,GM.linesD_iff,D.tup.injEq,D.ref.injEq,D.int.injEq,D.str.injEq,D.bl.injEq,D.vl.injEq,Int.natCast_inj,and_assoc] at e; (repeat (obtain ⟨e1,e⟩:=e; subst e1)); subst e; exact h),fun h=>⟨_,near,bs,far,y,u,k,rfl,.inr rfl,h⟩⟩
noncomputable def sWhRoot:DSp:=fun ds M R Y=>∃ (N:Nat),ds=[.int (N:Int)]∧N<2 ^ 20000∧∀ a:Nat,a*a≤N→N<(a+1)*(a+1)→R (.int (a:Int)) M
theorem z_sWhRoot {N:Nat} {M:Mem} {R:DK} {Y:DXK}:sWhRoot [.int (N:Int)] M R Y=(N<2 ^ 20000∧∀ a:Nat,a*a≤N→N<(a+1)*(a+1)→R (.int (a:Int)) M):=propext ⟨fun z=>by obtain ⟨N',e,h⟩:=z; (simp only [List.cons.injEq,and_true,true_and,GM.ratD_iff,GM.partD_iff,GM.partsD_iff,GM.lineD_iff,GM.linesD_iff,D.tup.injEq,D.ref.injEq,D.int.injEq,D.str.injEq,D.bl.injEq,D.vl.injEq,Int.natCast_inj,and_assoc] at e; (repeat (obtain ⟨e1,e⟩:=e; subst e1)); subst e; exact h),fun h=>⟨N,rfl,h⟩⟩
noncomputable def sScaled:DSp:=fun ds M R Y=>∃ (y u g:Rat),ds=[rayD y u,ratD g]∧(sz y+sz g≤8900∧sz u+sz g≤8900)∧R (rayD (y*g) (u*g)) M
theorem z_sScaled {y u g:Rat} {M:Mem} {R:DK} {Y:DXK}:sScaled [rayD y u,ratD g] M R Y=((sz y+sz g≤8900∧sz u+sz g≤8900)∧R (rayD (y*g) (u*g)) M):=propext ⟨fun z=>by obtain ⟨y',u',g',e,h⟩:=z; (simp only [List.cons.injEq,and_true,true_and,GM.ratD_iff,GM.partD_iff,GM.partsD_iff,GM.lineD_iff,GM.linesD_iff,D.tup.injEq,D.ref.injEq,D.int.injEq,D.str.injEq,D.bl.injEq,D.vl.injEq,Int.natCast_inj,and_assoc] at e; (repeat (obtain ⟨e1,e⟩:=e; subst e1)); subst e; exact h),fun h=>⟨y,u,g,rfl,h⟩⟩
noncomputable def sAlongL:DSp:=fun ds M R Y=>∃ (near:Rat) (bs:List (Str × Rat)) (far:Rat) (b:Bool),ds=[.tup [ratD near,.vl (bs.map partD),ratD far],.bl b]∧HallOk near bs far∧∀ (y u:Rat),(sz y≤463∧sz u≤463∧sz y+sz u≤700)→R (rayD y u) M
theorem z_sAlongL {near:Rat} {bs:List (Str × Rat)} {far:Rat} {b:Bool} {M:Mem} {R:DK} {Y:DXK}:sAlongL [.tup [ratD near,.vl (bs.map partD),ratD far],.bl b] M R Y=(HallOk near bs far∧∀ (y u:Rat),(sz y≤463∧sz u≤463∧sz y+sz u≤700)→R (rayD y u) M):=propext ⟨fun z=>by obtain ⟨near',bs',far',b',e,h⟩:=z; (simp only [List.cons.injEq,and_true,true_and,GM.ratD_iff,GM.partD_iff,GM.partsD_iff,GM.lineD_iff,GM.linesD_iff,D.tup.injEq,D.ref.injEq,D.int.injEq,D.str.injEq,D.bl.injEq,D.vl.injEq,Int.natCast_inj,and_assoc] at e; (repeat (obtain ⟨e1,e⟩:=e; subst e1)); subst e; exact h),fun h=>⟨near,bs,far,b,rfl,h⟩⟩
noncomputable def sRatP2:DSp:=fun ds M R Y=>∃ (p:Addr) (x y:D),ds=[.ref p,x,y]∧PoolAt M p∧∃ (ts bs:List Int) (P:Rat→Prop),x = .vl (ts.map D.int)∧y = .vl (bs.map D.int)∧((0<ts.length∧ts.length≤100)∧(0<bs.length∧bs.length≤100)∧(∀ b∈bs,0<b∧b.natAbs<2 ^ 133)∧∀ t∈ts,∀ b∈bs,P (Rat.divInt t b))∧∀ (q:Rat) M',P q→PStep p M M'→R (ratD q) M'
theorem z_sRatP2 {p:Addr} {x y:D} {M:Mem} {R:DK} {Y:DXK}:sRatP2 [.ref p,x,y] M R Y=(PoolAt M p∧∃ (ts bs:List Int) (P:Rat→Prop),x = .vl (ts.map D.int)∧y = .vl (bs.map D.int)∧((0<ts.length∧ts.length≤100)∧(0<bs.length∧bs.length≤100)∧(∀ b∈bs,0<b∧b.natAbs<2 ^ 133)∧∀ t∈ts,∀ b∈bs,P (Rat.divInt t b))∧∀ (q:Rat) M',P q→PStep p M M'→R (ratD q) M'):=propext ⟨fun z=>by obtain ⟨p',x',y',e,h⟩:=z; (simp only [List.cons.injEq,and_true,true_and,GM.ratD_iff,GM.partD_iff,GM.partsD_iff,GM.lineD_iff,GM.linesD_iff,D.tup.injEq,D.ref.injEq,D.int.injEq,D.str.injEq,D.bl.injEq,D.vl.injEq,Int.natCast_inj,and_assoc] at e; (repeat (obtain ⟨e1,e⟩:=e; subst e1)); subst e; exact h),fun h=>⟨p,x,y,rfl,h⟩⟩
noncomputable def sRayH:DSp:=fun ds M R Y=>∃ (p:Addr) (near:Rat) (bs:List (Str × Rat)) (far:Rat),ds=[.ref p,.tup [ratD near,.vl (bs.map partD),ratD far]]∧PoolAt M p∧HallOk near bs far∧∀ (y u:Rat) M',CD 1000 y 0 u 0→PStep p M M'→R (rayD y u) M'
theorem z_sRayH {p:Addr} {near:Rat} {bs:List (Str × Rat)} {far:Rat} {M:Mem} {R:DK} {Y:DXK}:sRayH [.ref p,.tup [ratD near,.vl (bs.map partD),ratD far]] M R Y=(PoolAt M p∧HallOk near bs far∧∀ (y u:Rat) M',CD 1000 y 0 u 0→PStep p M M'→R (rayD y u) M'):=propext ⟨fun z=>by obtain ⟨p',near',bs',far',e,h⟩:=z; (simp only [List.cons.injEq,and_true,true_and,GM.ratD_iff,GM.partD_iff,GM.partsD_iff,GM.lineD_iff,GM.linesD_iff,D.tup.injEq,D.ref.injEq,D.int.injEq,D.str.injEq,D.bl.injEq,D.vl.injEq,Int.natCast_inj,and_assoc] at e; (repeat (obtain ⟨e1,e⟩:=e; subst e1)); subst e; exact h),fun h=>⟨p,near,bs,far,rfl,h⟩⟩
noncomputable def sLwLines:DSp:=fun ds M R Y=>∃ (near:Rat) (bs:List (Str × Rat)) (far:Rat),ds=[.tup [ratD near,.vl (bs.map partD),ratD far]]∧HallW near bs far∧R (.vl (hlN (hallT near bs far) (hallT near bs far).length)) M
theorem z_sLwLines {near:Rat} {bs:List (Str × Rat)} {far:Rat} {M:Mem} {R:DK} {Y:DXK}:sLwLines [.tup [ratD near,.vl (bs.map partD),ratD far]] M R Y=(HallW near bs far∧R (.vl (hlN (hallT near bs far) (hallT near bs far).length)) M):=propext ⟨fun z=>by obtain ⟨near',bs',far',e,h⟩:=z; (simp only [List.cons.injEq,and_true,true_and,GM.ratD_iff,GM.partD_iff,GM.partsD_iff,GM.lineD_iff,GM.linesD_iff,D.tup.injEq,D.ref.injEq,D.int.injEq,D.str.injEq,D.bl.injEq,D.vl.injEq,Int.natCast_inj,and_assoc] at e; (repeat (obtain ⟨e1,e⟩:=e; subst e1)); subst e; exact h),fun h=>⟨near,bs,far,rfl,h⟩⟩
noncomputable def sLwT:DSp:=fun ds M R Y=>∃ (near:Rat) (bs:List (Str × Rat)) (far:Rat),ds=[.tup [ratD near,.vl (bs.map partD),ratD far]]∧HallW near bs far∧R (ratD (trQ (tbQ (hallL near bs far)))) M
theorem z_sLwT {near:Rat} {bs:List (Str × Rat)} {far:Rat} {M:Mem} {R:DK} {Y:DXK}:sLwT [.tup [ratD near,.vl (bs.map partD),ratD far]] M R Y=(HallW near bs far∧R (ratD (trQ (tbQ (hallL near bs far)))) M):=propext ⟨fun z=>by obtain ⟨near',bs',far',e,h⟩:=z; (simp only [List.cons.injEq,and_true,true_and,GM.ratD_iff,GM.partD_iff,GM.partsD_iff,GM.lineD_iff,GM.linesD_iff,D.tup.injEq,D.ref.injEq,D.int.injEq,D.str.injEq,D.bl.injEq,D.vl.injEq,Int.natCast_inj,and_assoc] at e; (repeat (obtain ⟨e1,e⟩:=e; subst e1)); subst e; exact h),fun h=>⟨near,bs,far,rfl,h⟩⟩
noncomputable def numD3 (L:List (Str × Rat)) (y u:Rat) (l:Rat × Rat × Rat):D:=.tup [ratD (l.1*y+l.2.1*u),ratD (l.1*(outP L (y,u)).1+l.2.1*(outP L (y,u)).2),ratD l.2.2]
noncomputable def sLwNums:DSp:=fun ds M R Y=>∃ (near:Rat) (bs:List (Str × Rat)) (far:Rat) (y u:Rat),ds=[.tup [ratD near,.vl (bs.map partD),ratD far],rayD y u]∧(HallW near bs far∧CD 1000 y 0 u 0)∧R (.vl ((stpL (hallL near bs far) (hallL near bs far).length).map (numD3 (hallL near bs far) y u))) M
theorem z_sLwNums {near:Rat} {bs:List (Str × Rat)} {far:Rat} {y u:Rat} {M:Mem} {R:DK} {Y:DXK}:sLwNums [.tup [ratD near,.vl (bs.map partD),ratD far],rayD y u] M R Y=((HallW near bs far∧CD 1000 y 0 u 0)∧R (.vl ((stpL (hallL near bs far) (hallL near bs far).length).map (numD3 (hallL near bs far) y u))) M):=propext ⟨fun z=>by obtain ⟨near',bs',far',y',u',e,h⟩:=z; (simp only [List.cons.injEq,and_true,true_and,GM.ratD_iff,GM.partD_iff,GM.partsD_iff,GM.lineD_iff,GM.linesD_iff,D.tup.injEq,D.ref.injEq,D.int.injEq,D.str.injEq,D.bl.injEq,D.vl.injEq,Int.natCast_inj,and_assoc] at e; (repeat (obtain ⟨e1,e⟩:=e; subst e1)); subst e; exact h),fun h=>⟨near,bs,far,y,u,rfl,h⟩⟩
noncomputable def sLwBey:DSp:=fun ds M R Y=>∃ (x r:Rat),ds=[ratD x,ratD r]∧sz x+sz r≤8900∧R (.bl (decide (r<absQ x))) M
theorem z_sLwBey {x r:Rat} {M:Mem} {R:DK} {Y:DXK}:sLwBey [ratD x,ratD r] M R Y=(sz x+sz r≤8900∧R (.bl (decide (r<absQ x))) M):=propext ⟨fun z=>by obtain ⟨x',r',e,h⟩:=z; (simp only [List.cons.injEq,and_true,true_and,GM.ratD_iff,GM.partD_iff,GM.partsD_iff,GM.lineD_iff,GM.linesD_iff,D.tup.injEq,D.ref.injEq,D.int.injEq,D.str.injEq,D.bl.injEq,D.vl.injEq,Int.natCast_inj,and_assoc] at e; (repeat (obtain ⟨e1,e⟩:=e; subst e1)); subst e; exact h),fun h=>⟨x,r,rfl,h⟩⟩
noncomputable def sLwReach:DSp:=fun ds M R Y=>∃ (t x f:Rat),ds=[ratD t,ratD x,ratD f]∧(sz t≤231∧sz x≤1231∧sz f≤1462∧-2<t∧t<2)∧R (ratD (rchQ t x f)) M
theorem z_sLwReach {t x f:Rat} {M:Mem} {R:DK} {Y:DXK}:sLwReach [ratD t,ratD x,ratD f] M R Y=((sz t≤231∧sz x≤1231∧sz f≤1462∧-2<t∧t<2)∧R (ratD (rchQ t x f)) M):=propext ⟨fun z=>by obtain ⟨t',x',f',e,h⟩:=z; (simp only [List.cons.injEq,and_true,true_and,GM.ratD_iff,GM.partD_iff,GM.partsD_iff,GM.lineD_iff,GM.linesD_iff,D.tup.injEq,D.ref.injEq,D.int.injEq,D.str.injEq,D.bl.injEq,D.vl.injEq,Int.natCast_inj,and_assoc] at e; (repeat (obtain ⟨e1,e⟩:=e; subst e1)); subst e; exact h),fun h=>⟨t,x,f,rfl,h⟩⟩
noncomputable def sLwSame:DSp:=fun ds M R Y=>∃ (near:Rat) (bs:List (Str × Rat)) (far:Rat),ds=[.tup [ratD near,.vl (bs.map partD),ratD far]]∧HallW near bs far∧R (.int (rtN (tbQ (hallL near bs far)):Int)) M
theorem z_sLwSame {near:Rat} {bs:List (Str × Rat)} {far:Rat} {M:Mem} {R:DK} {Y:DXK}:sLwSame [.tup [ratD near,.vl (bs.map partD),ratD far]] M R Y=(HallW near bs far∧R (.int (rtN (tbQ (hallL near bs far)):Int)) M):=propext ⟨fun z=>by obtain ⟨near',bs',far',e,h⟩:=z; (simp only [List.cons.injEq,and_true,true_and,GM.ratD_iff,GM.partD_iff,GM.partsD_iff,GM.lineD_iff,GM.linesD_iff,D.tup.injEq,D.ref.injEq,D.int.injEq,D.str.injEq,D.bl.injEq,D.vl.injEq,Int.natCast_inj,and_assoc] at e; (repeat (obtain ⟨e1,e⟩:=e; subst e1)); subst e; exact h),fun h=>⟨near,bs,far,rfl,h⟩⟩
noncomputable def sLwTurn:DSp:=fun ds M R Y=>∃ (near:Rat) (bs:List (Str × Rat)) (far:Rat) (t:Rat),ds=[.tup [ratD near,.vl (bs.map partD),ratD far],ratD t]∧(HallW near bs far∧t=trQ (tbQ (hallL near bs far)))∧R (.bl (decide (absQ t<2∧rtN (tbQ (hallL near bs far))=0))) M
theorem z_sLwTurn {near:Rat} {bs:List (Str × Rat)} {far:Rat} {t:Rat} {M:Mem} {R:DK} {Y:DXK}:sLwTurn [.tup [ratD near,.vl (bs.map partD),ratD far],ratD t] M R Y=((HallW near bs far∧t=trQ (tbQ (hallL near bs far)))∧R (.bl (decide (absQ t<2∧rtN (tbQ (hallL near bs far))=0))) M):=propext ⟨fun z=>by obtain ⟨near',bs',far',t',e,h⟩:=z; (simp only [List.cons.injEq,and_true,true_and,GM.ratD_iff,GM.partD_iff,GM.partsD_iff,GM.lineD_iff,GM.linesD_iff,D.tup.injEq,D.ref.injEq,D.int.injEq,D.str.injEq,D.bl.injEq,D.vl.injEq,Int.natCast_inj,and_assoc] at e; (repeat (obtain ⟨e1,e⟩:=e; subst e1)); subst e; exact h),fun h=>⟨near,bs,far,t,rfl,h⟩⟩
noncomputable def sLwLate:DSp:=fun ds M R Y=>∃ (near:Rat) (bs:List (Str × Rat)) (far:Rat) (y u:Rat) (n:Nat),ds=[.tup [ratD near,.vl (bs.map partD),ratD far],rayD y u,.int (n:Int)]∧(HallW near bs far∧CD 1000 y 0 u 0)∧∃ l,(stpL (hallL near bs far) (hallL near bs far).length)[n]? = some l∧R (.bl (lateB (tbQ (hallL near bs far)) (l.1*y+l.2.1*u) (l.1*(outP (hallL near bs far) (y,u)).1+l.2.1*(outP (hallL near bs far) (y,u)).2) l.2.2)) M
theorem z_sLwLate {near:Rat} {bs:List (Str × Rat)} {far:Rat} {y u:Rat} {n:Nat} {M:Mem} {R:DK} {Y:DXK}:sLwLate [.tup [ratD near,.vl (bs.map partD),ratD far],rayD y u,.int (n:Int)] M R Y=((HallW near bs far∧CD 1000 y 0 u 0)∧∃ l,(stpL (hallL near bs far) (hallL near bs far).length)[n]? = some l∧R (.bl (lateB (tbQ (hallL near bs far)) (l.1*y+l.2.1*u) (l.1*(outP (hallL near bs far) (y,u)).1+l.2.1*(outP (hallL near bs far) (y,u)).2) l.2.2)) M):=propext ⟨fun z=>by obtain ⟨near',bs',far',y',u',n',e,h⟩:=z; (simp only [List.cons.injEq,and_true,true_and,GM.ratD_iff,GM.partD_iff,GM.partsD_iff,GM.lineD_iff,GM.linesD_iff,D.tup.injEq,D.ref.injEq,D.int.injEq,D.str.injEq,D.bl.injEq,D.vl.injEq,Int.natCast_inj,and_assoc] at e; (repeat (obtain ⟨e1,e⟩:=e; subst e1)); subst e; exact h),fun h=>⟨near,bs,far,y,u,n,rfl,h⟩⟩
noncomputable def sReachE:DSp:=fun ds M R Y=>∃ (x0:D) (near:Rat) (bs:List (Str × Rat)) (far:Rat) (y u p q:Rat),ds=[.tup [ratD near,x0,ratD far],rayD y u,ratD p,ratD q]∧(x0 = .vl (bs.map partD)∨x0 = .tup (bs.map partD))∧(HallW near bs far∧CD 1000 y 0 u 0∧(sz p≤230∧sz q≤230)∧sz (p*y+q*u)≤1231∧sz (p*(outP (hallL near bs far) (y,u)).1+q*(outP (hallL near bs far) (y,u)).2)≤1462∧-2<trQ (tbQ (hallL near bs far))∧trQ (tbQ (hallL near bs far))<2)∧R (ratD (rchQ (trQ (tbQ (hallL near bs far))) (p*y+q*u) (p*(outP (hallL near bs far) (y,u)).1+q*(outP (hallL near bs far) (y,u)).2))) M
theorem z_sReachE {near:Rat} {bs:List (Str × Rat)} {far:Rat} {y u p q:Rat} {M:Mem} {R:DK} {Y:DXK}:sReachE [.tup [ratD near,.vl (bs.map partD),ratD far],rayD y u,ratD p,ratD q] M R Y=((HallW near bs far∧CD 1000 y 0 u 0∧(sz p≤230∧sz q≤230)∧sz (p*y+q*u)≤1231∧sz (p*(outP (hallL near bs far) (y,u)).1+q*(outP (hallL near bs far) (y,u)).2)≤1462∧-2<trQ (tbQ (hallL near bs far))∧trQ (tbQ (hallL near bs far))<2)∧R (ratD (rchQ (trQ (tbQ (hallL near bs far))) (p*y+q*u) (p*(outP (hallL near bs far) (y,u)).1+q*(outP (hallL near bs far) (y,u)).2))) M):=propext ⟨fun z=>by obtain ⟨x0,near',bs',far',y',u',p',q',e,o,h⟩:=z; rcases o with rfl | rfl <;> first | (exfalso; simp only [D.tup.injEq,List.cons.injEq,reduceCtorEq,false_and,and_false] at e; done) | (simp only [List.cons.injEq,and_true,true_and,GM.ratD_iff,GM.partD_iff,GM.partsD_iff,GM.lineD_iff,GM.linesD_iff,D.tup.injEq,D.ref.injEq,D.int.injEq,D.str.injEq,D.bl.injEq,D.vl.injEq,Int.natCast_inj,and_assoc] at e; (repeat (obtain ⟨e1,e⟩:=e; subst e1)); subst e; exact h),fun h=>⟨_,near,bs,far,y,u,p,q,rfl,.inl rfl,h⟩⟩
theorem z_sReachE_t {near:Rat} {bs:List (Str × Rat)} {far:Rat} {y u p q:Rat} {M:Mem} {R:DK} {Y:DXK}:sReachE [.tup [ratD near,.tup (bs.map partD),ratD far],rayD y u,ratD p,ratD q] M R Y=((HallW near bs far∧CD 1000 y 0 u 0∧(sz p≤230∧sz q≤230)∧sz (p*y+q*u)≤1231∧sz (p*(outP (hallL near bs far) (y,u)).1+q*(outP (hallL near bs far) (y,u)).2)≤1462∧-2<trQ (tbQ (hallL near bs far))∧trQ (tbQ (hallL near bs far))<2)∧R (ratD (rchQ (trQ (tbQ (hallL near bs far))) (p*y+q*u) (p*(outP (hallL near bs far) (y,u)).1+q*(outP (hallL near bs far) (y,u)).2))) M):=propext ⟨fun z=>by obtain ⟨x0,near',bs',far',y',u',p',q',e,o,h⟩:=z; rcases o with rfl | rfl <;> first | (exfalso; simp only [D.tup.injEq,List.cons.injEq,reduceCtorEq,false_and,and_false] at e; done) | (simp only [List.cons.injEq,and_true,true_and,GM.ratD_iff,GM.partD_iff,GM.partsD_iff,GM.lineD_iff,GM.linesD_iff,D.tup.injEq,D.ref.injEq,D.int.injEq,D.str.injEq,D.bl.injEq,D.vl.injEq,Int.natCast_inj,and_assoc] at e; (repeat (obtain ⟨e1,e⟩:=e; subst e1)); subst e; exact h),fun h=>⟨_,near,bs,far,y,u,p,q,rfl,.inr rfl,h⟩⟩
noncomputable def sTight:DSp:=fun ds M R Y=>∃ (p:Addr) (near:Rat) (bs:List (Str × Rat)) (far:Rat) (y u:Rat),ds=[.ref p,.tup [ratD near,.vl (bs.map partD),ratD far],rayD y u]∧PoolAt M p∧(HallOk near bs far∧bs.length≤7∧CD 1000 y 0 u 0)∧∀ (bs':List (Str × Rat)) M',HallW near bs' far→PStep p M M'→R (.tup [ratD near,.vl (bs'.map partD),ratD far]) M'
theorem z_sTight {p:Addr} {near:Rat} {bs:List (Str × Rat)} {far:Rat} {y u:Rat} {M:Mem} {R:DK} {Y:DXK}:sTight [.ref p,.tup [ratD near,.vl (bs.map partD),ratD far],rayD y u] M R Y=(PoolAt M p∧(HallOk near bs far∧bs.length≤7∧CD 1000 y 0 u 0)∧∀ (bs':List (Str × Rat)) M',HallW near bs' far→PStep p M M'→R (.tup [ratD near,.vl (bs'.map partD),ratD far]) M'):=propext ⟨fun z=>by obtain ⟨p',near',bs',far',y',u',e,h⟩:=z; (simp only [List.cons.injEq,and_true,true_and,GM.ratD_iff,GM.partD_iff,GM.partsD_iff,GM.lineD_iff,GM.linesD_iff,D.tup.injEq,D.ref.injEq,D.int.injEq,D.str.injEq,D.bl.injEq,D.vl.injEq,Int.natCast_inj,and_assoc] at e; (repeat (obtain ⟨e1,e⟩:=e; subst e1)); subst e; exact h),fun h=>⟨p,near,bs,far,y,u,rfl,h⟩⟩
end GM


namespace K42
open PySem PySem.Spec L2 DL GM
open RM (sz)
open PyProof.Rows hiding St
local macro_rules | `(tactic| walk_at "sim")=>`(tactic| (try simp only [↓DL.z_C,↓DL.z_Op,↓DL.z_Un,↓DL.z_fI,↓DL.z_fB,↓DL.z_fS,↓DL.z_gI,↓DL.z_gU,↓DL.z_Test,↓DL.z_BlK,↓DL.z_And,↓DL.z_Or,↓DL.z_Not,↓DL.z_AndV,↓DL.z_OrV,↓DL.z_NotV,↓DL.z_If,↓DL.z_IfS,↓DL.z_Nil,↓DL.z_Cons,↓DL.z_Tup,↓DL.z_Lst,↓DL.z_Call,↓DL.z_CB,↓DL.z_Next,↓DL.z_Seq,↓DL.z_Drop,↓DL.z_Ret,↓DL.z_Never,↓DL.z_gName,↓DL.z_gNil,↓DL.z_gCons,↓DL.z_gTup,↓DL.z_gTupLs,↓DL.z_Asg,↓DL.z_Par,↓DL.z_ParK,↓DL.z_Abs,↓DL.z_Max,↓DL.z_IfT,↓DL.z_IfF,↓DL.z_IfK,↓DL.z_LstV,↓DL.z_CatV,↓DL.z_SlV,↓DL.z_NoPart,↓DL.z_Part,↓DL.z_PartK,↓DL.z_ListV,↓DL.z_gListT,↓DL.z_gListVl,↓DL.z_gTupVl,↓DL.z_gCatVl,↓DL.z_gSlVl,↓DL.z_RevS,↓DL.z_gRevSV,↓DL.z_gRevST,↓DL.z_diRevR,↓DL.z_diBack,↓DL.z_BackK,↓DL.z_RevRK,↓DL.z_gSub,↓DL.z_gSlVt,↓DL.z_Frz,↓DL.z_Fgt,↓DL.z_CompV,↓DL.z_CompL,↓DL.z_Yes,↓DL.z_diSeq,↓DL.z_SeqT,↓DL.z_SeqV,↓DL.z_diEnum,↓DL.z_EnumT,↓DL.z_EnumV,↓DL.z_diZip,↓DL.z_ZipTT,↓DL.z_ZipVV,↓DL.z_ZipTV,↓DL.z_ZipVT,↓DL.z_diRng,↓DL.z_RngK,↓DL.z_diRng2,↓DL.z_Rng2K,↓DL.z_For,↓DL.z_EqC,↓DL.z_LenV,↓DL.z_LenT,↓DL.z_LM,↓DL.z_isiTTuple,↓DL.z_isiTList,↓DL.z_isiTInt,↓DL.z_isiTBool,↓DL.z_isiTStr,↓DL.z_isiVTuple,↓DL.z_isiVList,↓DL.z_isiVInt,↓DL.z_isiVBool,↓DL.z_isiVStr,↓DL.z_isiITuple,↓DL.z_isiIList,↓DL.z_isiIInt,↓DL.z_isiIBool,↓DL.z_isiIStr,↓DL.z_isiNTuple,↓DL.z_isiNList,↓DL.z_isiNInt,↓DL.z_isiNBool,↓DL.z_isiNStr,↓DL.z_isiSTuple,↓DL.z_isiSList,↓DL.z_isiSInt,↓DL.z_isiSBool,↓DL.z_isiSStr,↓DL.z_isiBTuple,↓DL.z_isiBList,↓DL.z_isiBInt,↓DL.z_isiBBool,↓DL.z_isiBStr,↓DL.z_isiDTuple,↓DL.z_isiDList,↓DL.z_isiDInt,↓DL.z_isiDBool,↓DL.z_isiDStr,↓DL.z_v0,↓DL.z_v1,↓DL.z_v2,↓DL.z_v3,↓DL.z_v4,↓DL.z_v5,↓DL.z_v6,↓DL.z_v7,↓DL.z_v8,↓DL.z_v9,↓DL.z_v10,↓DL.z_v11,↓DL.z_v12,↓DL.z_v13,↓DL.z_v14,↓DL.z_s0,↓DL.z_s1,↓DL.z_s2,↓DL.z_s3,↓DL.z_s4,↓DL.z_s5,↓DL.z_s6,↓DL.z_s7,↓DL.z_s8,↓DL.z_s9,↓DL.z_s10,↓DL.z_s11,↓DL.z_s12,↓DL.z_s13,↓DL.z_s14,↓DL.z_ixT0,↓DL.z_ixT1,↓DL.z_ixT2,↓DL.z_ixT3,↓DL.z_ixT4,↓DL.z_ixT5,↓DL.z_ixT6,↓DL.z_ixT7,↓DL.z_ixV0,↓DL.z_ixV1,↓DL.z_ixV2,↓DL.z_ixV3,↓DL.z_ixV4,↓DL.z_ixV5,↓DL.z_ixV6,↓DL.z_ixV7,↓DL.z_sz0,↓DL.z_sz1,↓DL.z_sz2,↓DL.z_sz3,↓DL.z_sz4,↓DL.z_sz5,↓DL.z_sz6,↓DL.z_sz7,↓DL.z_sz8,↓DL.z_sz9,↓GM.z_ratIsT,↓GM.z_partIsT,↓GM.z_partL,↓GM.z_rat0,↓GM.z_rat1,↓GM.z_ratG,↓GM.z_ratL,↓GM.z_part0,↓GM.z_part1,↓GM.z_partG,↓GM.z_lineG,↓GM.z_line0,↓GM.z_line1,↓GM.z_line2,↓GM.z_sAlong,↓GM.z_sAlongL,↓GM.z_sCB,↓GM.z_sFirstTwo,↓GM.z_sFormOf,↓GM.z_sHParts,↓GM.z_sHRoundW,↓GM.z_sHStops,↓GM.z_sHall,↓GM.z_sHallLnW,↓GM.z_sHallLnW_t,↓GM.z_sKindS,↓GM.z_sKindS_t,↓GM.z_sKw,↓GM.z_sLateSh,↓GM.z_sLateSh_t,↓GM.z_sLed,↓GM.z_sLedP,↓GM.z_sLessP,↓GM.z_sLinesW,↓GM.z_sLwBey,↓GM.z_sLwLate,↓GM.z_sLwLines,↓GM.z_sLwNums,↓GM.z_sLwReach,↓GM.z_sLwSame,↓GM.z_sLwT,↓GM.z_sLwTurn,↓GM.z_sNumOf,↓GM.z_sPieces,↓GM.z_sRatP,↓GM.z_sRatP2,↓GM.z_sRayH,↓GM.z_sRchE,↓GM.z_sReachE,↓GM.z_sReachE_t,↓GM.z_sRndBS,↓GM.z_sRndBS_t,↓GM.z_sRndW,↓GM.z_sRndW_t,↓GM.z_sRts,↓GM.z_sScaled,↓GM.z_sShows,↓GM.z_sShr,↓GM.z_sSwingE,↓GM.z_sTO,↓GM.z_sTabW,↓GM.z_sTight,↓GM.z_sTof,↓GM.z_sTurnS,↓GM.z_sTurnS_t,↓GM.z_sWhRoot,↓GM.z_spAbs,↓GM.z_spColumns,↓GM.z_spDivisor,↓GM.z_spLess,↓GM.z_spLow,↓GM.z_spMinus,↓GM.z_spNext,↓GM.z_spOpp,↓GM.z_spOver,↓GM.z_spPlus,↓GM.z_spPool,↓GM.z_spRoot,↓GM.z_spTimes,↓GM.z_spWhole,GM.z_ratIsT,GM.z_partIsT,GM.z_partL,GM.z_rat0,GM.z_rat1,GM.z_ratG,GM.z_ratL,GM.z_part0,GM.z_part1,GM.z_partG,GM.z_lineG,GM.z_line0,GM.z_line1,GM.z_line2,GM.z_sAlong,GM.z_sAlongL,GM.z_sCB,GM.z_sFirstTwo,GM.z_sFormOf,GM.z_sHParts,GM.z_sHRoundW,GM.z_sHStops,GM.z_sHall,GM.z_sHallLnW,GM.z_sHallLnW_t,GM.z_sKindS,GM.z_sKindS_t,GM.z_sKw,GM.z_sLateSh,GM.z_sLateSh_t,GM.z_sLed,GM.z_sLedP,GM.z_sLessP,GM.z_sLinesW,GM.z_sLwBey,GM.z_sLwLate,GM.z_sLwLines,GM.z_sLwNums,GM.z_sLwReach,GM.z_sLwSame,GM.z_sLwT,GM.z_sLwTurn,GM.z_sNumOf,GM.z_sPieces,GM.z_sRatP,GM.z_sRatP2,GM.z_sRayH,GM.z_sRchE,GM.z_sReachE,GM.z_sReachE_t,GM.z_sRndBS,GM.z_sRndBS_t,GM.z_sRndW,GM.z_sRndW_t,GM.z_sRts,GM.z_sScaled,GM.z_sShows,GM.z_sShr,GM.z_sSwingE,GM.z_sTO,GM.z_sTabW,GM.z_sTight,GM.z_sTof,GM.z_sTurnS,GM.z_sTurnS_t,GM.z_sWhRoot,GM.z_spAbs,GM.z_spColumns,GM.z_spDivisor,GM.z_spLess,GM.z_spLow,GM.z_spMinus,GM.z_spNext,GM.z_spOpp,GM.z_spOver,GM.z_spPlus,GM.z_spPool,GM.z_spRoot,GM.z_spTimes,GM.z_spWhole,DL.z_C,DL.z_Op,DL.z_Un,DL.z_fI,DL.z_fB,DL.z_fS,DL.z_gI,DL.z_gU,DL.z_Test,DL.z_BlK,DL.z_And,DL.z_Or,DL.z_Not,DL.z_AndV,DL.z_OrV,DL.z_NotV,DL.z_If,DL.z_IfS,DL.z_Nil,DL.z_Cons,DL.z_Tup,DL.z_Lst,DL.z_Call,DL.z_CB,DL.z_Next,DL.z_Seq,DL.z_Drop,DL.z_Ret,DL.z_Never,DL.z_gName,DL.z_gNil,DL.z_gCons,DL.z_gTup,DL.z_gTupLs,DL.z_Asg,DL.z_Par,DL.z_ParK,DL.z_Abs,DL.z_Max,DL.z_IfT,DL.z_IfF,DL.z_IfK,DL.z_LstV,DL.z_CatV,DL.z_SlV,DL.z_NoPart,DL.z_Part,DL.z_PartK,DL.z_ListV,DL.z_gListT,DL.z_gListVl,DL.z_gTupVl,DL.z_gCatVl,DL.z_gSlVl,DL.z_RevS,DL.z_gRevSV,DL.z_gRevST,DL.z_diRevR,DL.z_diBack,DL.z_BackK,DL.z_RevRK,DL.z_gSub,DL.z_gSlVt,DL.z_Frz,DL.z_Fgt,DL.z_CompV,DL.z_CompL,DL.z_Yes,DL.z_diSeq,DL.z_SeqT,DL.z_SeqV,DL.z_diEnum,DL.z_EnumT,DL.z_EnumV,DL.z_diZip,DL.z_ZipTT,DL.z_ZipVV,DL.z_ZipTV,DL.z_ZipVT,DL.z_diRng,DL.z_RngK,DL.z_diRng2,DL.z_Rng2K,DL.z_For,DL.z_EqC,DL.z_LenV,DL.z_LenT,DL.z_LM,DL.z_isiTTuple,DL.z_isiTList,DL.z_isiTInt,DL.z_isiTBool,DL.z_isiTStr,DL.z_isiVTuple,DL.z_isiVList,DL.z_isiVInt,DL.z_isiVBool,DL.z_isiVStr,DL.z_isiITuple,DL.z_isiIList,DL.z_isiIInt,DL.z_isiIBool,DL.z_isiIStr,DL.z_isiNTuple,DL.z_isiNList,DL.z_isiNInt,DL.z_isiNBool,DL.z_isiNStr,DL.z_isiSTuple,DL.z_isiSList,DL.z_isiSInt,DL.z_isiSBool,DL.z_isiSStr,DL.z_isiBTuple,DL.z_isiBList,DL.z_isiBInt,DL.z_isiBBool,DL.z_isiBStr,DL.z_isiDTuple,DL.z_isiDList,DL.z_isiDInt,DL.z_isiDBool,DL.z_isiDStr,DL.z_v0,DL.z_v1,DL.z_v2,DL.z_v3,DL.z_v4,DL.z_v5,DL.z_v6,DL.z_v7,DL.z_v8,DL.z_v9,DL.z_v10,DL.z_v11,DL.z_v12,DL.z_v13,DL.z_v14,DL.z_s0,DL.z_s1,DL.z_s2,DL.z_s3,DL.z_s4,DL.z_s5,DL.z_s6,DL.z_s7,DL.z_s8,DL.z_s9,DL.z_s10,DL.z_s11,DL.z_s12,DL.z_s13,DL.z_s14,DL.z_ixT0,DL.z_ixT1,DL.z_ixT2,DL.z_ixT3,DL.z_ixT4,DL.z_ixT5,DL.z_ixT6,DL.z_ixT7,DL.z_ixV0,DL.z_ixV1,DL.z_ixV2,DL.z_ixV3,DL.z_ixV4,DL.z_ixV5,DL.z_ixV6,DL.z_ixV7,DL.z_sz0,DL.z_sz1,DL.z_sz2,DL.z_sz3,DL.z_sz4,DL.z_sz5,DL.z_sz6,DL.z_sz7,DL.z_sz8,DL.z_sz9,DL.z_clI60,DL.z_clN60,DL.z_clT60,DL.z_clV60,DL.z_clI59,DL.z_clN59,DL.z_clT59,DL.z_clV59,DL.z_clI58,DL.z_clN58,DL.z_clT58,DL.z_clV58,DL.z_clI57,DL.z_clN57,DL.z_clT57,DL.z_clV57,DL.z_clI56,DL.z_clN56,DL.z_clT56,DL.z_clV56,DL.z_clI55,DL.z_clN55,DL.z_clT55,DL.z_clV55,DL.z_cln59,DL.z_clc59,DL.z_cln58,DL.z_clc58,DL.z_cln57,DL.z_clc57,DL.z_cln56,DL.z_clc56,DL.z_cln55,DL.z_clc55,DL.z_cln54,DL.z_clc54,GM.z_clR60,GM.z_clR59,GM.z_clR58,GM.z_clR57,DL.z_szk1,DL.z_szk2,DL.z_szk3,DL.z_szk4,DL.z_szk5,DL.z_szk6,DL.z_szk7,DL.z_szk8,DL.z_szk9,DL.z_szk10,DL.z_szk11,DL.z_szk12,Nat.reduceAdd,Nat.reduceLT,Nat.reduceLeDiff,Nat.zero_add,Int.reduceLT,Int.reduceLE,Int.reduceEq,eq_self,decide_true,decide_false,D.int.injEq,D.str.injEq,beq_self_eq_true,and_self,true_and,and_true,not_true_eq_false,not_false_eq_true,false_implies,true_implies,forall_const,dstart,List.map_cons,List.map_nil,List.cons_append,List.nil_append,List.append_nil,List.length_cons,List.length_nil,List.replicate,capE,List.getElem?_cons_zero,List.getElem?_cons_succ,Option.getD_some,decide_eq_true_eq,decide_eq_false_iff_not,Bool.not_eq_true',Bool.not_eq_false',Bool.and_self,Bool.true_and,Bool.and_true,Bool.xor_false,Bool.false_xor,Bool.true_xor,Bool.not_true,Bool.not_false,Bool.false_eq_true,Bool.true_eq_false,reduceIte,GM.r0,GM.r1,GM.r2,GM.r4,GM.rm1,GM.rm2,GM.ratD_iff,GM.r_line,GM.r_abs,GM.r_neg,GM.r_self]))
local macro_rules | `(tactic| walk_at "len")=>`(tactic| (intro ds M R Y h; first | (obtain ⟨_,e,_⟩:=h; exact congrArg List.length e) | (obtain ⟨_,_,e,_⟩:=h; exact congrArg List.length e) | (obtain ⟨_,_,_,e,_⟩:=h; exact congrArg List.length e) | (obtain ⟨_,_,_,_,e,_⟩:=h; exact congrArg List.length e) | (obtain ⟨_,_,_,_,_,e,_⟩:=h; exact congrArg List.length e) | (obtain ⟨_,_,_,_,_,_,e,_⟩:=h; exact congrArg List.length e) | (obtain ⟨_,_,_,_,_,_,_,e,_⟩:=h; exact congrArg List.length e) | (obtain ⟨_,_,_,_,_,_,_,_,e,_⟩:=h; exact congrArg List.length e) | (obtain ⟨_,_,_,_,_,_,_,_,_,e,_⟩:=h; exact congrArg List.length e) | (obtain ⟨_,_,_,_,_,_,_,_,_,_,e,_⟩:=h; exact congrArg List.length e) | (obtain ⟨_,_,_,_,_,_,_,_,_,_,_,e,_⟩:=h; exact congrArg List.length e) | (obtain ⟨_,_,_,_,_,_,_,_,_,_,_,_,e,_⟩:=h; exact congrArg List.length e)))
local macro_rules | `(tactic| walk_at "size")=>`(tactic| first | omega | grind only [RM.sz_mul,RM.sz_add,RM.sz_sub,RM.sz_neg,RM.sz_one,RM.sz_zero,GM.sz_abs])
noncomputable def top (i:Nat):Stmt:=PySem.Challenge.pw_roundglass_k42_late_lines_judged.main.body.getD i (.Pass ⟨0,0,0,0⟩)
noncomputable abbrev s__law_parts:Stmt:=top 63
noncomputable abbrev s_divisor:Stmt:=top 7
noncomputable abbrev s_is_whole:Stmt:=top 6
noncomputable abbrev s_ratio:Stmt:=top 8
noncomputable abbrev s_plus:Stmt:=top 11
noncomputable abbrev s_opposite:Stmt:=top 9
noncomputable abbrev s_minus:Stmt:=top 12
noncomputable abbrev s_times:Stmt:=top 13
noncomputable abbrev s__law_part:Stmt:=top 62
noncomputable abbrev s__law_lines:Stmt:=top 70
noncomputable abbrev s_less:Stmt:=top 17
noncomputable abbrev s_unsigned:Stmt:=top 10
noncomputable abbrev s_tops_over:Stmt:=top 16
noncomputable abbrev s_common_bottom:Stmt:=top 15
noncomputable abbrev s_swing:Stmt:=top 43
noncomputable abbrev s_reach_by:Stmt:=top 44
noncomputable abbrev s_shows_late:Stmt:=top 51
noncomputable abbrev s_t_of:Stmt:=top 35
noncomputable abbrev s_rounds_to_self:Stmt:=top 36
noncomputable abbrev s_kind_word:Stmt:=top 37
noncomputable abbrev s_number_of:Stmt:=top 42
noncomputable abbrev s_led:Stmt:=top 24
noncomputable abbrev s_first_two:Stmt:=top 50
noncomputable abbrev s_by_columns:Stmt:=top 25
noncomputable abbrev s_led_by_part:Stmt:=top 27
noncomputable abbrev s_table_of:Stmt:=top 28
noncomputable abbrev s_turned_bench:Stmt:=top 29
noncomputable abbrev s_round_bench:Stmt:=top 33
noncomputable abbrev s_round_of:Stmt:=top 34
noncomputable abbrev s_lines_of:Stmt:=top 47
noncomputable abbrev s_hall_lines:Stmt:=top 49
noncomputable abbrev s_late_shown:Stmt:=top 53
noncomputable abbrev s__law_beyond:Stmt:=top 73
noncomputable abbrev s_over:Stmt:=top 14
noncomputable abbrev s__law_round:Stmt:=top 64
noncomputable abbrev s__law_same:Stmt:=top 76
noncomputable abbrev s__law_turning:Stmt:=top 77
noncomputable abbrev s__law_reach:Stmt:=top 78
noncomputable abbrev s__law_numbers:Stmt:=top 72
noncomputable abbrev s__law_t:Stmt:=top 71
noncomputable abbrev s__law_late_shown:Stmt:=top 79
noncomputable abbrev s__law_next:Stmt:=top 56
noncomputable abbrev s__law_whole_root:Stmt:=top 68
noncomputable abbrev s_reach:Stmt:=top 45
noncomputable abbrev s_floor_root:Stmt:=top 18
noncomputable abbrev s_root:Stmt:=top 19
noncomputable abbrev s_shrinking:Stmt:=top 40
noncomputable abbrev s_ray_along:Stmt:=top 39
noncomputable abbrev s_form_of:Stmt:=top 38
noncomputable abbrev s_kind:Stmt:=top 41
noncomputable abbrev s__law_tight:Stmt:=top 69
noncomputable abbrev s__law_scaled:Stmt:=top 65
noncomputable abbrev s__law_along:Stmt:=top 66
noncomputable abbrev s__law_ratio:Stmt:=top 57
noncomputable abbrev s__law_ray:Stmt:=top 67
noncomputable abbrev s__law_stops:Stmt:=top 59
noncomputable abbrev s__law_pieces:Stmt:=top 58
noncomputable abbrev s__law_known_hall:Stmt:=top 60
noncomputable abbrev s__law_hall:Stmt:=top 61
noncomputable abbrev s__law_pool:Stmt:=top 55
noncomputable abbrev s_law:Stmt:=top 80
theorem sc__law_parts:FnScope ["hall", "found"] ["hall"] (defScope s__law_parts):=⟨rfl,rfl,rfl,by decide +kernel,rfl,by decide +kernel,by decide +kernel⟩
theorem sc_divisor:FnScope ["one", "other"] ["one", "other"] (defScope s_divisor):=⟨rfl,rfl,rfl,by decide +kernel,rfl,by decide +kernel,by decide +kernel⟩
theorem sc_is_whole:FnScope ["thing"] ["thing"] (defScope s_is_whole):=⟨rfl,rfl,rfl,by decide +kernel,rfl,by decide +kernel,by decide +kernel⟩
theorem sc_ratio:FnScope ["top", "bottom", "share"] ["top", "bottom"] (defScope s_ratio):=⟨rfl,rfl,rfl,by decide +kernel,rfl,by decide +kernel,by decide +kernel⟩
theorem sc_plus:FnScope ["one", "other"] ["one", "other"] (defScope s_plus):=⟨rfl,rfl,rfl,by decide +kernel,rfl,by decide +kernel,by decide +kernel⟩
theorem sc_opposite:FnScope ["one"] ["one"] (defScope s_opposite):=⟨rfl,rfl,rfl,by decide +kernel,rfl,by decide +kernel,by decide +kernel⟩
theorem sc_minus:FnScope ["one", "other"] ["one", "other"] (defScope s_minus):=⟨rfl,rfl,rfl,by decide +kernel,rfl,by decide +kernel,by decide +kernel⟩
theorem sc_times:FnScope ["one", "other"] ["one", "other"] (defScope s_times):=⟨rfl,rfl,rfl,by decide +kernel,rfl,by decide +kernel,by decide +kernel⟩
theorem sc__law_part:FnScope ["part", "ray", "word", "number"] ["part", "ray"] (defScope s__law_part):=⟨rfl,rfl,rfl,by decide +kernel,rfl,by decide +kernel,by decide +kernel⟩
theorem sc__law_lines:FnScope ["hall", "first", "second", "found", "word", "number", "part"] ["hall"] (defScope s__law_lines):=⟨rfl,rfl,rfl,by decide +kernel,rfl,by decide +kernel,by decide +kernel⟩
theorem sc_less:FnScope ["one", "other"] ["one", "other"] (defScope s_less):=⟨rfl,rfl,rfl,by decide +kernel,rfl,by decide +kernel,by decide +kernel⟩
theorem sc_unsigned:FnScope ["one"] ["one"] (defScope s_unsigned):=⟨rfl,rfl,rfl,by decide +kernel,rfl,by decide +kernel,by decide +kernel⟩
theorem sc_tops_over:FnScope ["ratios", "bottom"] ["ratios", "bottom"] (defScope s_tops_over):=⟨rfl,rfl,rfl,by decide +kernel,rfl,by decide +kernel,by decide +kernel⟩
theorem sc_common_bottom:FnScope ["ratios", "bottom", "one"] ["ratios"] (defScope s_common_bottom):=⟨rfl,rfl,rfl,by decide +kernel,rfl,by decide +kernel,by decide +kernel⟩
theorem sc_swing:FnScope ["t", "x", "later", "bottom", "one", "other"] ["t", "x", "later"] (defScope s_swing):=⟨rfl,rfl,rfl,by decide +kernel,rfl,by decide +kernel,by decide +kernel⟩
theorem sc_reach_by:FnScope ["t", "x", "later", "top", "bottom"] ["t", "x", "later"] (defScope s_reach_by):=⟨rfl,rfl,rfl,by decide +kernel,rfl,by decide +kernel,by decide +kernel⟩
theorem sc_shows_late:FnScope ["word", "t", "x", "later", "r"] ["word", "t", "x", "later", "r"] (defScope s_shows_late):=⟨rfl,rfl,rfl,by decide +kernel,rfl,by decide +kernel,by decide +kernel⟩
theorem sc_t_of:FnScope ["table"] ["table"] (defScope s_t_of):=⟨rfl,rfl,rfl,by decide +kernel,rfl,by decide +kernel,by decide +kernel⟩
theorem sc_rounds_to_self:FnScope ["table", "t"] ["table"] (defScope s_rounds_to_self):=⟨rfl,rfl,rfl,by decide +kernel,rfl,by decide +kernel,by decide +kernel⟩
theorem sc_kind_word:FnScope ["table", "size"] ["table"] (defScope s_kind_word):=⟨rfl,rfl,rfl,by decide +kernel,rfl,by decide +kernel,by decide +kernel⟩
theorem sc_number_of:FnScope ["p", "q", "ray"] ["p", "q", "ray"] (defScope s_number_of):=⟨rfl,rfl,rfl,by decide +kernel,rfl,by decide +kernel,by decide +kernel⟩
theorem sc_led:FnScope ["table", "ray", "a", "b", "c", "d", "y", "u"] ["table", "ray"] (defScope s_led):=⟨rfl,rfl,rfl,by decide +kernel,rfl,by decide +kernel,by decide +kernel⟩
theorem sc_first_two:FnScope ["table", "ray", "lines", "later"] ["table", "ray", "lines"] (defScope s_first_two):=⟨rfl,rfl,rfl,by decide +kernel,rfl,by decide +kernel,by decide +kernel⟩
theorem sc_by_columns:FnScope ["first", "second"] ["first", "second"] (defScope s_by_columns):=⟨rfl,rfl,rfl,by decide +kernel,rfl,by decide +kernel,by decide +kernel⟩
theorem sc_led_by_part:FnScope ["part", "ray", "word", "number", "y", "u"] ["part", "ray"] (defScope s_led_by_part):=⟨rfl,rfl,rfl,by decide +kernel,rfl,by decide +kernel,by decide +kernel⟩
theorem sc_table_of:FnScope ["bench", "first", "second", "part"] ["bench"] (defScope s_table_of):=⟨rfl,rfl,rfl,by decide +kernel,rfl,by decide +kernel,by decide +kernel⟩
theorem sc_turned_bench:FnScope ["bench"] ["bench"] (defScope s_turned_bench):=⟨rfl,rfl,rfl,by decide +kernel,rfl,by decide +kernel,by decide +kernel⟩
theorem sc_round_bench:FnScope ["hall", "near", "bench", "far"] ["hall"] (defScope s_round_bench):=⟨rfl,rfl,rfl,by decide +kernel,rfl,by decide +kernel,by decide +kernel⟩
theorem sc_round_of:FnScope ["hall"] ["hall"] (defScope s_round_of):=⟨rfl,rfl,rfl,by decide +kernel,rfl,by decide +kernel,by decide +kernel⟩
theorem sc_lines_of:FnScope ["bench", "lines", "level", "axis", "part"] ["bench"] (defScope s_lines_of):=⟨rfl,rfl,rfl,by decide +kernel,rfl,by decide +kernel,by decide +kernel⟩
theorem sc_hall_lines:FnScope ["hall", "forth", "back", "lines"] ["hall"] (defScope s_hall_lines):=⟨rfl,rfl,rfl,by decide +kernel,rfl,by decide +kernel,by decide +kernel⟩
theorem sc_late_shown:FnScope ["hall", "ray", "k", "met", "table", "x", "later", "r"] ["hall", "ray", "k"] (defScope s_late_shown):=⟨rfl,rfl,rfl,by decide +kernel,rfl,by decide +kernel,by decide +kernel⟩
theorem sc__law_beyond:FnScope ["x", "r"] ["x", "r"] (defScope s__law_beyond):=⟨rfl,rfl,rfl,by decide +kernel,rfl,by decide +kernel,by decide +kernel⟩
theorem sc_over:FnScope ["one", "other"] ["one", "other"] (defScope s_over):=⟨rfl,rfl,rfl,by decide +kernel,rfl,by decide +kernel,by decide +kernel⟩
theorem sc__law_round:FnScope ["hall", "ray", "word", "number", "part"] ["hall", "ray"] (defScope s__law_round):=⟨rfl,rfl,rfl,by decide +kernel,rfl,by decide +kernel,by decide +kernel⟩
theorem sc__law_same:FnScope ["hall", "rays", "here", "n"] ["hall"] (defScope s__law_same):=⟨rfl,rfl,rfl,by decide +kernel,rfl,by decide +kernel,by decide +kernel⟩
theorem sc__law_turning:FnScope ["hall", "t"] ["hall", "t"] (defScope s__law_turning):=⟨rfl,rfl,rfl,by decide +kernel,rfl,by decide +kernel,by decide +kernel⟩
theorem sc__law_reach:FnScope ["t", "x", "further", "top"] ["t", "x", "further"] (defScope s__law_reach):=⟨rfl,rfl,rfl,by decide +kernel,rfl,by decide +kernel,by decide +kernel⟩
theorem sc__law_numbers:FnScope ["hall", "ray", "later", "found", "word", "number", "p", "q", "r", "x"] ["hall", "ray"] (defScope s__law_numbers):=⟨rfl,rfl,rfl,by decide +kernel,rfl,by decide +kernel,by decide +kernel⟩
theorem sc__law_t:FnScope ["hall", "first", "second"] ["hall"] (defScope s__law_t):=⟨rfl,rfl,rfl,by decide +kernel,rfl,by decide +kernel,by decide +kernel⟩
theorem sc__law_late_shown:FnScope ["hall", "ray", "k", "t", "x", "further", "r", "factor", "kept"] ["hall", "ray", "k"] (defScope s__law_late_shown):=⟨rfl,rfl,rfl,by decide +kernel,rfl,by decide +kernel,by decide +kernel⟩
theorem sc__law_next:FnScope ["pool", "base", "digit", "near", "stir"] ["pool", "base"] (defScope s__law_next):=⟨rfl,rfl,rfl,by decide +kernel,rfl,by decide +kernel,by decide +kernel⟩
theorem sc__law_whole_root:FnScope ["number", "low", "high", "mid"] ["number"] (defScope s__law_whole_root):=⟨rfl,rfl,rfl,by decide +kernel,rfl,by decide +kernel,by decide +kernel⟩
theorem sc_reach:FnScope ["hall", "ray", "p", "q", "table", "top", "bottom"] ["hall", "ray", "p", "q"] (defScope s_reach):=⟨rfl,rfl,rfl,by decide +kernel,rfl,by decide +kernel,by decide +kernel⟩
theorem sc_floor_root:FnScope ["number", "guess", "step", "better"] ["number"] (defScope s_floor_root):=⟨rfl,rfl,rfl,by decide +kernel,rfl,by decide +kernel,by decide +kernel⟩
theorem sc_root:FnScope ["one", "top", "bottom"] ["one"] (defScope s_root):=⟨rfl,rfl,rfl,by decide +kernel,rfl,by decide +kernel,by decide +kernel⟩
theorem sc_shrinking:FnScope ["t", "apart"] ["t"] (defScope s_shrinking):=⟨rfl,rfl,rfl,by decide +kernel,rfl,by decide +kernel,by decide +kernel⟩
theorem sc_ray_along:FnScope ["table", "a", "b", "c", "d"] ["table"] (defScope s_ray_along):=⟨rfl,rfl,rfl,by decide +kernel,rfl,by decide +kernel,by decide +kernel⟩
theorem sc_form_of:FnScope ["table", "a", "b", "c", "d"] ["table"] (defScope s_form_of):=⟨rfl,rfl,rfl,by decide +kernel,rfl,by decide +kernel,by decide +kernel⟩
theorem sc_kind:FnScope ["hall", "table", "word"] ["hall"] (defScope s_kind):=⟨rfl,rfl,rfl,by decide +kernel,rfl,by decide +kernel,by decide +kernel⟩
theorem sc__law_tight:FnScope ["pool", "hall", "ray", "stops", "at", "farthest", "word", "number", "p", "q", "r", "scale", "low", "some"] ["pool", "hall", "ray"] (defScope s__law_tight):=⟨rfl,rfl,rfl,by decide +kernel,rfl,by decide +kernel,by decide +kernel⟩
theorem sc__law_scaled:FnScope ["ray", "factor"] ["ray", "factor"] (defScope s__law_scaled):=⟨rfl,rfl,rfl,by decide +kernel,rfl,by decide +kernel,by decide +kernel⟩
theorem sc__law_along:FnScope ["hall", "other", "a", "b", "c", "d", "told", "k", "found"] ["hall", "other"] (defScope s__law_along):=⟨rfl,rfl,rfl,by decide +kernel,rfl,by decide +kernel,by decide +kernel⟩
theorem sc__law_ratio:FnScope ["pool", "tops", "bottoms"] ["pool", "tops", "bottoms"] (defScope s__law_ratio):=⟨rfl,rfl,rfl,by decide +kernel,rfl,by decide +kernel,by decide +kernel⟩
theorem sc__law_ray:FnScope ["pool", "hall", "way_drawn", "ray", "factor", "along", "little"] ["pool", "hall"] (defScope s__law_ray):=⟨rfl,rfl,rfl,by decide +kernel,rfl,by decide +kernel,by decide +kernel⟩
theorem sc__law_stops:FnScope ["pool", "parts", "count", "found", "k", "r"] ["pool", "parts", "count"] (defScope s__law_stops):=⟨rfl,rfl,rfl,by decide +kernel,rfl,by decide +kernel,by decide +kernel⟩
theorem sc__law_pieces:FnScope ["pool", "gap", "count", "found", "k", "piece"] ["pool", "gap"] (defScope s__law_pieces):=⟨rfl,rfl,rfl,by decide +kernel,rfl,by decide +kernel,by decide +kernel⟩
theorem sc__law_known_hall:FnScope ["pool", "pairs", "near", "far", "bottoms", "halves", "gap", "parts", "first"] ["pool"] (defScope s__law_known_hall):=⟨rfl,rfl,rfl,by decide +kernel,rfl,by decide +kernel,by decide +kernel⟩
theorem sc__law_hall:FnScope ["pool", "way_drawn", "power_drawn", "parts", "k"] ["pool"] (defScope s__law_hall):=⟨rfl,rfl,rfl,by decide +kernel,rfl,by decide +kernel,by decide +kernel⟩
theorem sc__law_pool:FnScope ["cell"] ["cell"] (defScope s__law_pool):=⟨rfl,rfl,rfl,by decide +kernel,rfl,by decide +kernel,by decide +kernel⟩
theorem sc_law:FnScope ["script", "cell", "pool", "hall", "ray", "kept", "k", "due", "turn", "found"] ["script"] (defScope s_law):=⟨rfl,rfl,rfl,by decide +kernel,rfl,by decide +kernel,by decide +kernel⟩
structure Txt (K:PySem.W.Frag) (mg:Str→Option Value):Prop where
  b_abs:mg "abs" = none
  b_bool:mg "bool" = none
  b_enumerate:mg "enumerate" = none
  b_int:mg "int" = none
  b_isinstance:mg "isinstance" = none
  b_len:mg "len" = none
  b_list:mg "list" = none
  b_max:mg "max" = none
  b_range:mg "range" = none
  b_reversed:mg "reversed" = none
  b_tuple:mg "tuple" = none
  b_zip:mg "zip" = none
  sub:SubOk K
  c_AXIS_RAY:GlD K mg "AXIS_RAY" (.tup [(.tup [(.int 0),(.int 1)]),(.tup [(.int 1),(.int 1)])])
  c_FOUR:GlD K mg "FOUR" (.tup [(.int 4),(.int 1)])
  c_LEVEL_RAY:GlD K mg "LEVEL_RAY" (.tup [(.tup [(.int 1),(.int 1)]),(.tup [(.int 0),(.int 1)])])
  c_NOUGHT:GlD K mg "NOUGHT" (.tup [(.int 0),(.int 1)])
  c_ONE:GlD K mg "ONE" (.tup [(.int 1),(.int 1)])
  c_SELF:GlD K mg "SELF" (.tup [(.tup [(.int 1),(.int 1)]),(.tup [(.int 0),(.int 1)]),(.tup [(.int 0),(.int 1)]),(.tup [(.int 1),(.int 1)])])
  c_TWO:GlD K mg "TWO" (.tup [(.int 2),(.int 1)])
section
variable {P:Program} {w:World} {K:PySem.W.Frag} {mg:Str→Option Value} {base:Heap}
theorem ok__law_parts (T:Txt K mg) (d:Df K mg "_law_parts" s__law_parts ["hall"])  : Fn P w K mg base "_law_parts" 1 ["hall"] sHParts:=by
  have sc:=sc__law_parts
  refine fn_by d sc (by walk_at "len") (fun f cdv A outer s H E ds M R Y hr h=>?_)
  have hu:=hr.units
  obtain ⟨near,bs,far,rfl,hl,k⟩:=h
  refine ⟨_,(jsc (jds_setCompL (i:=1) [] ["k", "part"] [] sc.nd rfl (Or.inl rfl) rfl (by decide +kernel) rfl (by decide +kernel) (by decide +kernel) rfl all0 all0 (jpd_enum rfl T.b_enumerate (jac (jd_ix i_any (jdv 0) jdi (fun _ _=>rfl)) jan)) (fun _ _ _ _ _ _=>(jdg_tup (n:=2) rfl (jdgs_cons (jdg_name (i:=0) (show (["k", "part"]:List Str).Nodup by decide +kernel) rfl (Or.inl rfl)) (jdgs_cons (jdg_name (i:=1) (show (["k", "part"]:List Str).Nodup by decide +kernel) rfl (Or.inl rfl)) jdgs_nil)))) (fun _ _ _ _ _ _=>jdifs_nil) (fun _ _ _ _ _ _=>(jd_tup (jac jd_str (jac (jdv 0) (jac (jdv 1) jan)))))) (jsc (jds_expr (jd_lm PySem.F.slot_list_append PySem.F.type_list_append dm_append (jdv 1) (jac (jd_tup (jac jd_non (jac jd_non (jac (jd_tup (jac jd_str (jac (jd_ix i_any (jdv 0) jdi (fun _ _=>rfl)) jan))) jan)))) jan))) (jsc (jds_expr (jd_lm PySem.F.slot_list_extend PySem.F.type_list_extend dm_extend (jdv 1) (jac (jd_compL [0] ["k"] ["hall"] rfl (by decide +kernel) rfl (by decide +kernel) (by decide +kernel) rfl (all1 ⟨rfl,rfl⟩) (all1 (Or.inl rfl)) (jpd_revR rfl T.b_reversed bt_reversed rfl T.b_range boot_range (jac (jd_blt c_len rfl T.b_len bt_len (jac (jd_ix i_any (jdv 0) jdi (fun _ _=>rfl)) jan)) jan)) (fun _ _ _ _ _ _=>(jdg_name (i:=0) (show (["k", "hall"]:List Str).Nodup by decide +kernel) rfl (Or.inl rfl))) (fun _ _ _ _ _ _=>jdifs_nil) (fun _ _ _ _ _ _=>(jd_tup (jac jd_str (jac (jdv 0) (jac (jd_ix i_any (jd_ix i_any (jdv 1) jdi (fun _ _=>rfl)) (jdv 0) (fun _ _=>rfl)) jan)))))) jan))) (jsc (jds_expr (jd_lm PySem.F.slot_list_append PySem.F.type_list_append dm_append (jdv 1) (jac (jd_tup (jac jd_non (jac jd_non (jac (jd_tup (jac jd_str (jac (jd_ix i_any (jdv 0) jdi (fun _ _=>rfl)) jan))) jan)))) jan))) (js1 (jds_ret (jd_fgt (jd_frz (jdv 1))))))))),?_⟩
  walk_at "sim"
  rw [enum_zipP]
  refine compV_map (fun x:(Str × Rat) × Nat=>lpD (.str "forth") (.int (x.2:Int)) x.1) (by rw [List.length_zipIdx]; omega) (by simp only [seqD_vl]) (fun x hx Q hQ=>?_) (fun p hp=>?_)
  · walk_at "sim"
    exact hQ
  · refine LMK_of updM_same (App_of updM_same (by rw [List.length_map,List.length_zipIdx]; omega) (LMK_of updM_same ⟨by rw [List.length_map]; omega,?_⟩))
    rw [List.length_map,Int.toNat_natCast,down_zip]
    refine compV_map (fun x:(Str × Rat) × Nat=>lpD (.str "back") (.int (x.2:Int)) x.1) (by rw [List.length_reverse,List.length_zipIdx]; omega) trivial (fun x hx Q hQ=>?_) (fun b hb=>?_)
    · have hx1:bs[x.2]? = some x.1:=by
        have:=List.mem_reverse.mp hx
        obtain ⟨y,j⟩:=x
        exact List.mem_zipIdx_iff_getElem?.mp this
      walk_at "sim"
      exact ⟨partD x.1,atI_lit (n:=x.2) (by rw [List.getElem?_map,hx1]; rfl),hQ⟩
    · have hbp:b≠p:=fun e=>by rw [e,updM_same] at hb; cases hb
      have hMb:M b=none:=by rw [updM_ne hbp,updM_ne hbp] at hb; exact hb
      have hlz:(bs.zipIdx.map fun x:(Str × Rat) × Nat=>lpD (.str "forth") (.int (x.2:Int)) x.1).length=bs.length:=by rw [List.length_map,List.length_zipIdx]
      have hlr:(bs.zipIdx.reverse.map fun x:(Str × Rat) × Nat=>lpD (.str "back") (.int (x.2:Int)) x.1).length=bs.length:=by rw [List.length_map,List.length_reverse,List.length_zipIdx]
      refine Ext_of (by rw [updM_ne (Ne.symm hbp)]; exact updM_same) updM_same (by rw [List.length_append,hlz,hlr]; show bs.length+1+bs.length≤1000; omega) (LMK_of updM_same (App_of updM_same (by rw [List.length_append,List.length_append,hlz,hlr]; show bs.length+1+bs.length<1000; omega) ⟨p,_,rfl,updM_same,Fgt_of (M2:=M) (fun c o h=>?_) k⟩))
      have c1:c≠p:=fun e=>by rw [e,hp] at h; cases h
      have c2:c≠b:=fun e=>by rw [e,hMb] at h; cases h
      rw [delM_ne c1,updM_ne c1,updM_ne c1,updM_ne c2,updM_ne c1,updM_ne c1]
      exact h
theorem ok_divisor (T:Txt K mg) (d:Df K mg "divisor" s_divisor ["one", "other"]):Fn P w K mg base "divisor" 1 ["one", "other"] spDivisor:=by
  have sc:=sc_divisor
  refine fn_by d sc (fun ds M R Y h=>?_) (fun f cdv A outer s H E ds M R Y hr h=>?_)
  · obtain ⟨a,b,rfl,_⟩:=h; rfl
  · obtain ⟨a,b,rfl,k⟩:=h
    refine ⟨_,(jsc (jds_while PassesOwn.never (jd_tcmp o_neI (jdv 1) jdi (nomark _)) (js1 (jds_par (i:=0) (j:=1) rfl sc.nd rfl rfl (by decide) rfl rfl (jac (jdv 1) (jac (jd_op o_mod (jdv 0) (jdv 1)) jan))))) (js1 (jds_ret (jdv 0)))),?_⟩
    refine ⟨fun m e M'=>M'=M∧∃ u:Nat,e=[some (.int (u:Int)),some (.int (m:Int))]∧Nat.gcd u m=Nat.gcd a b,⟨b,rfl,a,rfl,rfl⟩,?_⟩
    rintro v e M' ⟨rfl,u,rfl,hg⟩
    refine ⟨_,rfl,_,rfl,_,rfl,?_⟩
    refine iteND (fun h0=>?_) (fun h0=>?_)
    · have hv:0<v:=by omega
      refine ⟨_,rfl,_,rfl,_,rfl,_,_,rfl,rfl,by omega,_,_,rfl,?_⟩
      exact ⟨u % v,Nat.mod_lt _ hv,rfl,v,rfl,by rw [← RM.gcd_step u v (by omega)]; exact hg⟩
    · have hv:v=0:=by omega
      subst hv
      rw [Nat.gcd_zero_right] at hg
      subst hg
      exact ⟨_,rfl,k⟩
theorem ok_is_whole (T:Txt K mg) (d:Df K mg "is_whole" s_is_whole ["thing"]):Fn P w K mg base "is_whole" 1 ["thing"] spWhole:=by
  have sc:=sc_is_whole
  refine fn_by d sc (fun ds M R Y h=>?_) (fun f cdv A outer s H E ds M R Y hr h=>?_)
  · obtain ⟨n,rfl,_⟩:=h; rfl
  · obtain ⟨n,rfl,k⟩:=h
    refine ⟨_,(js1 (jds_ret (jd_vand (jd_blt (c_isi T.sub) rfl T.b_isinstance bt_isinstance (jac (jdv 0) (jac (jd_ty rfl T.b_int bt_int) jan))) (jd_vone (jd_vnot (jd_blt (c_isi T.sub) rfl T.b_isinstance bt_isinstance (jac (jdv 0) (jac (jd_ty rfl T.b_bool bt_bool) jan)))))))),?_⟩
    refine ⟨_,rfl,_,_,_,_,rfl,rfl,rfl,_,rfl,?_⟩
    refine iteT ?_
    exact ⟨_,rfl,_,_,_,_,rfl,rfl,rfl,_,rfl,k⟩
theorem ok_ratio (T:Txt K mg) (d:Df K mg "ratio" s_ratio ["top", "bottom"]) (G_is_whole:Fn P w K mg base "is_whole" 1 ["thing"] spWhole) (G_divisor:Fn P w K mg base "divisor" 1 ["one", "other"] spDivisor):Fn P w K mg base "ratio" 2 ["top", "bottom"] spLow:=by
  have sc:=sc_ratio
  refine fn_by d sc (fun ds M R Y h=>?_) (fun f cdv A outer s H E ds M R Y hr h=>?_)
  · obtain ⟨p,b,rfl,_⟩:=h; rfl
  · obtain ⟨a,b,rfl,hb,hl,k⟩:=h
    refine ⟨_,(jsc (jds_if (jd_tw (jd_or (jd_not (jd_tval (jcF G_is_whole (hr.mono (by decide)) rfl (jac (jdv 0) jan)))) (jd_or (jd_not (jd_tval (jcF G_is_whole (hr.mono (by decide)) rfl (jac (jdv 1) jan)))) (jd_or1 (jd_tcmp o_eqI (jdv 1) jdi (nomark _)))))) (js1 jds_never) jds_nil) (jsc (jds_set (i:=2) sc.nd rfl (Or.inl rfl) (jcF G_divisor (hr.mono (by decide)) rfl (jac (jd_blt c_abs rfl T.b_abs bt_abs (jac (jdv 0) jan)) (jac (jd_blt c_abs rfl T.b_abs bt_abs (jac (jdv 1) jan)) jan)))) (jsc (jds_if (jd_tcmp o_lt (jdv 1) jdi (nomark _)) (js1 (jds_set (i:=2) sc.nd rfl (Or.inl rfl) (jd_neg (jdv 2)))) jds_nil) (js1 (jds_ret (jd_tup (jac (jd_op o_fdiv (jdv 0) (jdv 2)) (jac (jd_op o_fdiv (jdv 1) (jdv 2)) jan)))))))),?_⟩
    refine ⟨_,rfl,_,rfl,true,rfl,?_⟩
    refine iteF ?_
    refine ⟨_,rfl,_,rfl,true,rfl,?_⟩
    refine iteF ?_
    refine ⟨_,rfl,_,rfl,_,rfl,?_⟩
    refine iteD (fun h=>absurd h hb) (fun _=>?_)
    refine ⟨_,rfl,_,rfl,_,rfl,_,rfl,a.natAbs,b.natAbs,rfl,?_⟩
    have hn:=gcd_ne (a:=a) hb
    have hlg:=gcd_log (a:=a) hb hl
    refine ⟨_,rfl,_,rfl,_,rfl,?_⟩
    refine iteD (fun h1=>?_) (fun h1=>?_)
    · have c1:∀ i:Int,CFd i (-((Nat.gcd a.natAbs b.natAbs:Nat):Int)):=fun i=>⟨by omega,by rw [Int.natAbs_neg]; exact hlg⟩
      refine ⟨_,rfl,_,rfl,_,rfl,_,rfl,_,_,rfl,rfl,c1 _,_,rfl,_,rfl,_,_,rfl,rfl,c1 _,sl 2,?_⟩
      exact low_fin hb (by rw [if_pos h1]) k
    · have c1:∀ i:Int,CFd i ((Nat.gcd a.natAbs b.natAbs:Nat):Int):=fun i=>⟨hn,hlg⟩
      refine ⟨_,rfl,_,rfl,_,_,rfl,rfl,c1 _,_,rfl,_,rfl,_,_,rfl,rfl,c1 _,sl 2,?_⟩
      exact low_fin hb (by rw [if_neg h1]) k
theorem ok_plus (T:Txt K mg) (d:Df K mg "plus" s_plus ["one", "other"]) (G_ratio:Fn P w K mg base "ratio" 2 ["top", "bottom"] spLow):Fn P w K mg base "plus" 3 ["one", "other"] spPlus:=by
  have sc:=sc_plus
  refine fn_by d sc (fun ds M R Y h=>?_) (fun f cdv A outer s H E ds M R Y hr h=>?_)
  · obtain ⟨q,r,rfl,_⟩:=h; rfl
  · obtain ⟨q,r,rfl,hz,k⟩:=h
    refine ⟨_,(js1 (jds_ret (jcF G_ratio (hr.mono (by decide)) rfl (jac (jd_op o_add (jd_op o_mul (jd_ix i_any (jdv 0) jdi (fun _ _=>rfl)) (jd_ix i_any (jdv 1) jdi (fun _ _=>rfl))) (jd_op o_mul (jd_ix i_any (jdv 1) jdi (fun _ _=>rfl)) (jd_ix i_any (jdv 0) jdi (fun _ _=>rfl)))) (jac (jd_op o_mul (jd_ix i_any (jdv 0) jdi (fun _ _=>rfl)) (jd_ix i_any (jdv 1) jdi (fun _ _=>rfl))) jan))))),?_⟩
    refine ⟨_,rfl,_,rfl,_,rfl,_,rfl,_,_,rfl,rfl,mND hz,_,rfl,_,rfl,_,rfl,_,rfl,_,_,rfl,rfl,mND (by omega),_,rfl,_,rfl,_,rfl,_,rfl,_,rfl,_,_,rfl,rfl,mDD hz,_,_,rfl,Int.mul_ne_zero (RM.den_ne q) (RM.den_ne r),lDD hz,?_⟩
    rw [RM.add_eq] at k
    exact k
theorem ok_opposite (T:Txt K mg) (d:Df K mg "opposite" s_opposite ["one"]):Fn P w K mg base "opposite" 1 ["one"] spOpp:=by
  have sc:=sc_opposite
  refine fn_by d sc (fun ds M R Y h=>?_) (fun f cdv A outer s H E ds M R Y hr h=>?_)
  · obtain ⟨q,rfl,_⟩:=h; rfl
  · obtain ⟨q,rfl,k⟩:=h
    refine ⟨_,(js1 (jds_ret (jd_tup (jac (jd_neg (jd_ix i_any (jdv 0) jdi (fun _ _=>rfl))) (jac (jd_ix i_any (jdv 0) jdi (fun _ _=>rfl)) jan))))),?_⟩
    refine ⟨_,rfl,_,rfl,_,rfl,_,rfl,_,rfl,sl 2,?_⟩
    have e:ratD (-q) = .tup [.int (-q.num),.int (q.den:Int)]:=by unfold ratD; rw [Rat.neg_num,Rat.neg_den]
    rw [e] at k
    exact k
theorem ok_minus (T:Txt K mg) (d:Df K mg "minus" s_minus ["one", "other"]) (G_plus:Fn P w K mg base "plus" 3 ["one", "other"] spPlus) (G_opposite:Fn P w K mg base "opposite" 1 ["one"] spOpp):Fn P w K mg base "minus" 4 ["one", "other"] spMinus:=by
  have sc:=sc_minus
  refine fn_by d sc (fun ds M R Y h=>?_) (fun f cdv A outer s H E ds M R Y hr h=>?_)
  · obtain ⟨q,r,rfl,_⟩:=h; rfl
  · obtain ⟨q,r,rfl,hz,k⟩:=h
    refine ⟨_,(js1 (jds_ret (jcF G_plus (hr.mono (by decide)) rfl (jac (jdv 0) (jac (jcF G_opposite (hr.mono (by decide)) rfl (jac (jdv 1) jan)) jan))))),?_⟩
    refine ⟨_,rfl,_,rfl,r,rfl,q,-r,rfl,by rw [RM.sz_neg]; exact hz,?_⟩
    rw [Rat.sub_eq_add_neg] at k
    exact k
theorem ok_times (T:Txt K mg) (d:Df K mg "times" s_times ["one", "other"]) (G_ratio:Fn P w K mg base "ratio" 2 ["top", "bottom"] spLow):Fn P w K mg base "times" 3 ["one", "other"] spTimes:=by
  have sc:=sc_times
  refine fn_by d sc (fun ds M R Y h=>?_) (fun f cdv A outer s H E ds M R Y hr h=>?_)
  · obtain ⟨q,r,rfl,_⟩:=h; rfl
  · obtain ⟨q,r,rfl,hz,k⟩:=h
    refine ⟨_,(js1 (jds_ret (jcF G_ratio (hr.mono (by decide)) rfl (jac (jd_op o_mul (jd_ix i_any (jdv 0) jdi (fun _ _=>rfl)) (jd_ix i_any (jdv 1) jdi (fun _ _=>rfl))) (jac (jd_op o_mul (jd_ix i_any (jdv 0) jdi (fun _ _=>rfl)) (jd_ix i_any (jdv 1) jdi (fun _ _=>rfl))) jan))))),?_⟩
    refine ⟨_,rfl,_,rfl,_,rfl,_,rfl,_,_,rfl,rfl,mNN hz,_,rfl,_,rfl,_,rfl,_,rfl,_,_,rfl,rfl,mDD hz,_,_,rfl,Int.mul_ne_zero (RM.den_ne q) (RM.den_ne r),lDD hz,?_⟩
    rw [RM.mul_eq] at k
    exact k
theorem ok__law_part (T:Txt K mg) (d:Df K mg "_law_part" s__law_part ["part", "ray"]) (G_minus:Fn P w K mg base "minus" 4 ["one", "other"] spMinus) (G_times:Fn P w K mg base "times" 3 ["one", "other"] spTimes) (G_plus:Fn P w K mg base "plus" 3 ["one", "other"] spPlus):Fn P w K mg base "_law_part" 5 ["part", "ray"] sLedP:=by
  have sc:=sc__law_part
  refine fn_by d sc (by walk_at "len") (fun f cdv A outer s H E ds M R Y hr h=>?_)
  have hu:=hr.units
  obtain ⟨x,y,u,rfl,hz,k⟩:=h
  refine ⟨_,(jsc (jds_asg (jdv 0) (jdg_tup (n:=2) rfl (jdgs_cons (jdg_name (i:=2) sc.nd rfl (Or.inl rfl)) (jdgs_cons (jdg_name (i:=3) sc.nd rfl (Or.inl rfl)) jdgs_nil)))) (jsc (jds_if (jd_tcmp o_eqS (jdv 2) jd_str (nomark _)) (js1 (jds_ret (jd_tup (jac (jcF G_plus (hr.mono (by decide)) rfl (jac (jd_ix i_any (jdv 1) jdi (fun _ _=>rfl)) (jac (jcF G_times (hr.mono (by decide)) rfl (jac (jdv 3) (jac (jd_ix i_any (jdv 1) jdi (fun _ _=>rfl)) jan))) jan))) (jac (jd_ix i_any (jdv 1) jdi (fun _ _=>rfl)) jan))))) jds_nil) (jsc (jds_if (jd_tcmp o_eqS (jdv 2) jd_str (nomark _)) (js1 (jds_ret (jd_tup (jac (jd_ix i_any (jdv 1) jdi (fun _ _=>rfl)) (jac (jcF G_minus (hr.mono (by decide)) rfl (jac (jd_ix i_any (jdv 1) jdi (fun _ _=>rfl)) (jac (jcF G_times (hr.mono (by decide)) rfl (jac (jdv 3) (jac (jd_ix i_any (jdv 1) jdi (fun _ _=>rfl)) jan))) jan))) jan))))) jds_nil) (js1 (jds_ret (jdv 1)))))),?_⟩
  walk_at "sim"
  unfold ledP at k
  refine ⟨fun h1=>?_,fun h1=>⟨fun h2=>?_,fun h2=>?_⟩⟩
  · rw [if_pos h1] at k; exact ⟨by omega,by walk_at "size",k⟩
  · rw [if_neg h1,if_pos h2] at k; exact ⟨by omega,by walk_at "size",k⟩
  · rw [if_neg h1,if_neg h2] at k; exact k
theorem ok__law_lines (T:Txt K mg) (d:Df K mg "_law_lines" s__law_lines ["hall"]) (G__law_parts:Fn P w K mg base "_law_parts" 1 ["hall"] sHParts) (G__law_part:Fn P w K mg base "_law_part" 5 ["part", "ray"] sLedP):Fn P w K mg base "_law_lines" 6 ["hall"] sLwLines:=by
  have sc:=sc__law_lines
  refine fn_by d sc (by walk_at "len") (fun f cdv A outer s H E ds M R Y hr h=>?_)
  have hu:=hr.units
  obtain ⟨near,bs,far,rfl,hok,k⟩:=h
  have hl:=hok.len
  have hl2:=hall_len near far bs
  refine ⟨_,(jsc (jds_set (i:=1) sc.nd rfl (Or.inl rfl) (jd_tup (jac (jd_tup (jac jdi (jac jdi jan))) (jac (jd_tup (jac jdi (jac jdi jan))) jan)))) (jsc (jds_set (i:=2) sc.nd rfl (Or.inl rfl) (jd_tup (jac (jd_tup (jac jdi (jac jdi jan))) (jac (jd_tup (jac jdi (jac jdi jan))) jan)))) (jsc (jds_set (i:=3) sc.nd rfl (Or.inl rfl) (jd_lst jan)) (jsc (jds_forI PassesOwn.never rfl (jpd_seq (jcF G__law_parts (hr.mono (by decide)) rfl (jac (jdv 0) jan))) (jdg_tup (n:=3) rfl (jdgs_cons (jdg_name (i:=4) sc.nd rfl (Or.inl rfl)) (jdgs_cons (jdg_name (i:=5) sc.nd rfl (Or.inl rfl)) (jdgs_cons (jdg_name (i:=6) sc.nd rfl (Or.inl rfl)) jdgs_nil)))) (jds_consM (jds_if (jd_tcmp o_eqS (jd_ix i_any (jdv 6) jdi (fun _ _=>rfl)) jd_str (nomark _)) (js1 (jds_expr (jd_lm PySem.F.slot_list_append PySem.F.type_list_append dm_append (jdv 3) (jac (jd_tup (jac (jdv 4) (jac (jdv 5) (jac (jd_tup (jac (jd_ix i_any (jdv 1) jdi (fun _ _=>rfl)) (jac (jd_ix i_any (jdv 2) jdi (fun _ _=>rfl)) (jac (jd_ix i_any (jdv 6) jdi (fun _ _=>rfl)) jan)))) jan)))) jan)))) jds_nil) (jsc (jds_set (i:=1) sc.nd rfl (Or.inl rfl) (jcF G__law_part (hr.mono (by decide)) rfl (jac (jdv 6) (jac (jdv 1) jan)))) (js1 (jds_set (i:=2) sc.nd rfl (Or.inl rfl) (jcF G__law_part (hr.mono (by decide)) rfl (jac (jdv 6) (jac (jdv 2) jan)))))))) (js1 (jds_ret (jd_fgt (jd_frz (jdv 3))))))))),?_⟩
  walk_at "sim"
  intro p hp
  refine ⟨hl,?_⟩
  refine ForK.by (fun i e M'=>∃ z6 z7 z8:Option D,e=[some (D.tup [ratD near,D.vl (List.map partD bs),ratD far]),some (rayD (outP ((hallL near bs far).take i) (1,0)).1 (outP ((hallL near bs far).take i) (1,0)).2),some (rayD (outP ((hallL near bs far).take i) (0,1)).1 (outP ((hallL near bs far).take i) (0,1)).2),some (D.ref p),z6,z7,z8]∧M'=updM M p (.lst (hlN (hallT near bs far) i))) ⟨_,_,_,rfl,rfl⟩ (fun i e M' _ _=>by simp only [seqD_vl]) ?_ ?_
  · rintro i dd e M' hd ⟨z6,z7,z8,rfl,rfl⟩
    obtain ⟨w,n,x,rfl,hT,hx⟩:=hallP_item hd
    have t4:=CD.t4 (hok.cd i)
    have a1:sz (outP ((hallL near bs far).take i) (1,0)).1≤230:=t4.a
    have a2:sz (outP ((hallL near bs far).take i) (0,1)).1≤230:=t4.b
    have b1:sz (outP ((hallL near bs far).take i) (1,0)).2≤230:=t4.c
    have b2:sz (outP ((hallL near bs far).take i) (0,1)).2≤230:=t4.d
    have q2:=hok.szs x (List.mem_of_getElem? hx)
    have o1:=out_take hx (1,0)
    have o2:=out_take hx (0,1)
    have hi:=(List.getElem?_eq_some_iff.mp hx).1
    have on:=hlN_on hT
    rw [hallT_L] at on
    have l1:=hlN_len (hallT near bs far) i
    walk_at "sim"
    refine JoinBy (fun e' M'=>e'=[some (D.tup [ratD near,D.vl (List.map partD bs),ratD far]),some (rayD (outP ((hallL near bs far).take i) (1,0)).1 (outP ((hallL near bs far).take i) (1,0)).2),some (rayD (outP ((hallL near bs far).take i) (0,1)).1 (outP ((hallL near bs far).take i) (0,1)).2),some (D.ref p),some w,some n,some (partD x)]∧M'=updM M p (.lst (hlN (hallT near bs far) (i+1)))) ?_ ?_
    · walk_at "sim"
      refine ⟨fun h1=>?_,fun h1=>by rw [on,if_neg h1]⟩
      refine LMK_of updM_same (App_of updM_same (by omega) ?_)
      rw [updM_upd,on,if_pos h1]
    · rintro e' M' ⟨rfl,rfl⟩
      walk_at "sim"
      refine ⟨by omega,by omega,some w,some n,some (partD x),?_⟩
      rw [o1,o2]
  · rintro e M' ⟨z6,z7,z8,rfl,rfl⟩
    rw [hallP_len,← hallT_len]
    walk_at "sim"
    rw [z_FrzK updM_same,delM_upd hp]
    exact Fgt_of (M2:=M) (fun _ _ h=>h) k
theorem ok_less (T:Txt K mg) (d:Df K mg "less" s_less ["one", "other"]):Fn P w K mg base "less" 1 ["one", "other"] spLess:=by
  have sc:=sc_less
  refine fn_by d sc (fun ds M R Y h=>?_) (fun f cdv A outer s H E ds M R Y hr h=>?_)
  · obtain ⟨q,r,rfl,_⟩:=h; rfl
  · obtain ⟨q,r,rfl,hz,k⟩:=h
    refine ⟨_,(js1 (jds_ret (jd_cmp o_lt (jd_op o_mul (jd_ix i_any (jdv 0) jdi (fun _ _=>rfl)) (jd_ix i_any (jdv 1) jdi (fun _ _=>rfl))) (jd_op o_mul (jd_ix i_any (jdv 1) jdi (fun _ _=>rfl)) (jd_ix i_any (jdv 0) jdi (fun _ _=>rfl))) (nomark _)))),?_⟩
    refine ⟨_,rfl,_,rfl,_,rfl,_,rfl,_,_,rfl,rfl,mND hz,_,rfl,_,rfl,_,rfl,_,rfl,_,_,rfl,rfl,mND (by omega),_,rfl,?_⟩
    rw [← RM.lt_eq] at k
    exact k

theorem ok_unsigned (T:Txt K mg) (d:Df K mg "unsigned" s_unsigned ["one"])  : Fn P w K mg base "unsigned" 1 ["one"] spAbs:=by
  have sc:=sc_unsigned
  refine fn_by d sc (by walk_at "len") (fun f cdv A outer s H E ds M R Y hr h=>?_)
  have hu:=hr.units
  obtain ⟨q,rfl,k⟩:=h
  refine ⟨_,(js1 (jds_ret (jd_tup (jac (jd_blt c_abs rfl T.b_abs bt_abs (jac (jd_ix i_any (jdv 0) jdi (fun _ _=>rfl)) jan)) (jac (jd_ix i_any (jdv 0) jdi (fun _ _=>rfl)) jan))))),?_⟩
  walk_at "sim"
  exact k
theorem ok_tops_over (T:Txt K mg) (d:Df K mg "tops_over" s_tops_over ["ratios", "bottom"])  : Fn P w K mg base "tops_over" 1 ["ratios", "bottom"] sTO:=by
  have sc:=sc_tops_over
  refine fn_by d sc (by walk_at "len") (fun f cdv A outer s H E ds M R Y hr h=>?_)
  have hu:=hr.units
  obtain ⟨q,r,b,rfl,⟨h1,h2,h0,hb,hz⟩,k⟩:=h
  have key:∀ s:Rat,sz s≤4000→IntMulOk s.num ((b:Int).fdiv (s.den:Int))∧CFd (b:Int) (s.den:Int):=fun s hs=>by
    have e1:((b:Int).fdiv (s.den:Int))=((b / s.den:Nat):Int):=by
      rw [fdiv_nn (by omega) (by omega)]; norm_cast
    refine ⟨?_,?_⟩
    · rw [e1]
      exact mulOk 4000 4000 (num_lt' s hs) (by rw [Int.natAbs_natCast]; exact Nat.lt_of_le_of_lt (Nat.div_le_self _ _) hb) (by decide)
    · exact ⟨by have:=s.den_pos; omega,by rw [Int.natAbs_natCast]; exact Nat.lt_of_lt_of_le (log_lt (den_lt' s hs) (by decide)) (by decide)⟩
  refine ⟨_,(js1 (jds_ret (jd_compV [1] ["one"] ["bottom"] rfl (by decide +kernel) rfl (by decide +kernel) (by decide +kernel) rfl (all1 ⟨rfl,rfl⟩) (all1 (Or.inl rfl)) (jpd_seq (jdv 0)) (fun _ _ _ _ _ _=>(jdg_name (i:=0) (show (["one", "bottom"]:List Str).Nodup by decide +kernel) rfl (Or.inl rfl))) (fun _ _ _ _ _ _=>jdifs_nil) (fun _ _ _ _ _ _=>(jd_op o_mul (jd_ix i_any (jdv 0) jdi (fun _ _=>rfl)) (jd_op o_fdiv (jdv 1) (jd_ix i_any (jdv 0) jdi (fun _ _=>rfl)))))))),?_⟩
  walk_at "sim"
  refine compV_map (xs:=[q,r]) (enc:=ratD) (fun s=>D.int (s.num*(b:Int).fdiv (s.den:Int))) (by show 2≤1000; decide) (by simp only [seqD_tup]) (fun s hs Q hQ=>?_) ?_
  · have hs':sz s≤4000:=by
      simp only [List.mem_cons,List.not_mem_nil,or_false] at hs
      rcases hs with rfl | rfl <;> omega
    obtain ⟨k1,k2⟩:=key s hs'
    walk_at "sim"
    exact ⟨k2,k1,hQ⟩
  · exact k
theorem ok_common_bottom (T:Txt K mg) (d:Df K mg "common_bottom" s_common_bottom ["ratios"]) (G_divisor:Fn P w K mg base "divisor" 1 ["one", "other"] spDivisor):Fn P w K mg base "common_bottom" 2 ["ratios"] sCB:=by
  have sc:=sc_common_bottom
  refine fn_by d sc (by walk_at "len") (fun f cdv A outer s H E ds M R Y hr h=>?_)
  have hu:=hr.units
  obtain ⟨q,r,rfl,hz,k⟩:=h
  refine ⟨_,(jsc (jds_set (i:=1) sc.nd rfl (Or.inl rfl) jdi) (jsc (jds_forI PassesOwn.never rfl (jpd_seq (jdv 0)) (jdg_name (i:=2) sc.nd rfl (Or.inl rfl)) (js1 (jds_set (i:=1) sc.nd rfl (Or.inl rfl) (jd_op o_mul (jd_op o_fdiv (jdv 1) (jcF G_divisor (hr.mono (by decide)) rfl (jac (jdv 1) (jac (jd_ix i_any (jdv 2) jdi (fun _ _=>rfl)) jan)))) (jd_ix i_any (jdv 2) jdi (fun _ _=>rfl)))))) (js1 (jds_ret (jdv 1))))),?_⟩
  walk_at "sim"
  refine ForK.by (fun i e M'=>M'=M∧∃ (b:Nat) (z:Option D),e=[some (D.tup [ratD q,ratD r]),some (.int (b:Int)),z]∧((i=0∧b=1)∨(i=1∧b=q.den)∨(i=2∧b=cbN q r))) ⟨rfl,1,_,rfl,.inl ⟨rfl,rfl⟩⟩ (fun _ _ _ _ _=>by simp only [seqD_tup]) ?_ ?_
  · rintro i dd e M' hd ⟨rfl,b,z,rfl,hb⟩
    obtain ⟨s,rfl,hs⟩:∃ s:Rat,dd=ratD s∧((i=0∧s=q)∨(i=1∧s=r)):=by
      match i,hd with
      | 0,hd=>exact ⟨q,(Option.some.inj hd).symm,.inl ⟨rfl,rfl⟩⟩
      | 1,hd=>exact ⟨r,(Option.some.inj hd).symm,.inr ⟨rfl,rfl⟩⟩
      | n+2,hd=>cases hd
    have s0:=s.den_pos
    have sl:s.den<2 ^ 4000:=by
      have h1:=den_lt' q (k:=4000) (by omega)
      have h2:=den_lt' r (k:=4000) (by omega)
      rcases hs with ⟨_,rfl⟩ | ⟨_,rfl⟩
      · exact h1
      · exact h2
    have bl:b<2 ^ 4000:=by
      have h1:=den_lt' q (k:=4000) (by omega)
      rcases hb with ⟨_,rfl⟩ | ⟨_,rfl⟩ | ⟨z,_⟩
      · exact Nat.one_lt_two_pow (by decide)
      · exact h1
      · rcases hs with ⟨z2,_⟩ | ⟨z2,_⟩ <;> omega
    have g0:=Nat.gcd_pos_of_pos_right b s0
    have gl:Nat.gcd b s.den<2 ^ 4000:=Nat.lt_of_le_of_lt (Nat.gcd_le_right b s0) sl
    have e1:((b:Int).fdiv ((Nat.gcd b s.den:Nat):Int))=((b / Nat.gcd b s.den:Nat):Int):=by
      rw [fdiv_nn (by omega) (by omega)]; norm_cast
    have dl:b / Nat.gcd b s.den<2 ^ 4000:=Nat.lt_of_le_of_lt (Nat.div_le_self _ _) bl
    walk_at "sim"
    rw [e1]
    refine ⟨⟨by omega,by rw [Int.natAbs_natCast]; exact Nat.lt_of_lt_of_le (log_lt gl (by decide)) (by decide)⟩,mulOk 4000 4000 (by rw [Int.natAbs_natCast]; exact dl) (by rw [Int.natAbs_natCast]; exact sl) (by decide),b / Nat.gcd b s.den*s.den,_,by rw [Int.natCast_mul],?_⟩
    rcases hs with ⟨rfl,rfl⟩ | ⟨rfl,rfl⟩
    · rcases hb with ⟨_,rfl⟩ | ⟨z,_⟩ | ⟨z,_⟩
      · refine .inr (.inl ⟨rfl,?_⟩)
        rw [Nat.gcd_one_left,Nat.div_one,Nat.one_mul]
      · exact absurd z (by decide)
      · exact absurd z (by decide)
    · rcases hb with ⟨z,_⟩ | ⟨_,rfl⟩ | ⟨z,_⟩
      · exact absurd z (by decide)
      · exact .inr (.inr ⟨rfl,rfl⟩)
      · exact absurd z (by decide)
  · rintro e M' ⟨rfl,b,z,rfl,hb⟩
    rcases hb with ⟨z,_⟩ | ⟨z,_⟩ | ⟨_,rfl⟩
    · exact absurd z (by show ¬ 2=0; decide)
    · exact absurd z (by show ¬ 2=1; decide)
    · walk_at "sim"
      exact k
theorem ok_swing (T:Txt K mg) (d:Df K mg "swing" s_swing ["t", "x", "later"]) (G_tops_over:Fn P w K mg base "tops_over" 1 ["ratios", "bottom"] sTO) (G_common_bottom:Fn P w K mg base "common_bottom" 2 ["ratios"] sCB):Fn P w K mg base "swing" 3 ["t", "x", "later"] sSwingE:=by
  have sc:=sc_swing
  refine fn_by d sc (by walk_at "len") (fun f cdv A outer s H E ds M R Y hr h=>?_)
  have hu:=hr.units
  obtain ⟨t,x,f',rfl,⟨ht,hz⟩,k⟩:=h
  obtain ⟨c1,c2,c3,c4⟩:=cb_div x f'
  have xn:=num_lt x
  have xd:=den_lt x
  have fn:=num_lt f'
  have fd:=den_lt f'
  rw [Int.natAbs_natCast] at xd fd
  have cl1:cbN x f'<2 ^ 3200:=by
    refine Nat.lt_of_le_of_lt c4 (Nat.lt_of_lt_of_le (nat_mul_lt xd fd) (Nat.pow_le_pow_right (by decide) hz))
  obtain ⟨o1,o2⟩:=top_over c1
  obtain ⟨p1,p2⟩:=top_over c2
  refine ⟨_,(jsc (jds_set (i:=3) sc.nd rfl (Or.inl rfl) (jcF G_common_bottom (hr.mono (by decide)) rfl (jac (jd_tup (jac (jdv 1) (jac (jdv 2) jan))) jan))) (jsc (jds_asg (jcF G_tops_over (hr.mono (by decide)) rfl (jac (jd_tup (jac (jdv 1) (jac (jdv 2) jan))) (jac (jdv 3) jan))) (jdg_tupL (n:=2) rfl (jdgs_cons (jdg_name (i:=4) sc.nd rfl (Or.inl rfl)) (jdgs_cons (jdg_name (i:=5) sc.nd rfl (Or.inl rfl)) jdgs_nil)))) (js1 (jds_ret (jd_tup (jac (jd_op o_sub (jd_op o_mul (jd_ix i_any (jdv 0) jdi (fun _ _=>rfl)) (jd_op o_add (jd_op o_mul (jdv 4) (jdv 4)) (jd_op o_mul (jdv 5) (jdv 5)))) (jd_op o_mul (jd_op o_mul (jd_ix i_any (jdv 0) jdi (fun _ _=>rfl)) (jdv 4)) (jdv 5))) (jac (jd_op o_mul (jdv 3) (jdv 3)) jan))))))),?_⟩
  walk_at "sim"
  refine ⟨by omega,⟨c1,c2,c3,Nat.lt_of_lt_of_le cl1 (Nat.pow_le_pow_right (by decide) (by decide)),by omega⟩,?_⟩
  have o3:(x.num*((cbN x f':Nat):Int).fdiv (x.den:Int)).natAbs<2 ^ 6400:=by
    refine Nat.lt_of_le_of_lt o2 (Nat.lt_of_lt_of_le (nat_mul_lt xn cl1) (Nat.pow_le_pow_right (by decide) (by omega)))
  have p3:(f'.num*((cbN x f':Nat):Int).fdiv (f'.den:Int)).natAbs<2 ^ 6400:=by
    refine Nat.lt_of_le_of_lt p2 (Nat.lt_of_lt_of_le (nat_mul_lt fn cl1) (Nat.pow_le_pow_right (by decide) (by omega)))
  generalize x.num*((cbN x f':Nat):Int).fdiv (x.den:Int)=O at *
  generalize f'.num*((cbN x f':Nat):Int).fdiv (f'.den:Int)=P at *
  generalize cbN x f'=B at *
  have td:=den_lt' t ht
  have tn:=num_lt' t ht
  have td':(t.den:Int).natAbs<2 ^ 231:=by rw [Int.natAbs_natCast]; exact td
  have B':(B:Int).natAbs<2 ^ 3200:=by rw [Int.natAbs_natCast]; exact cl1
  have oo:=int_mul_lt o3 o3
  have pp:=int_mul_lt p3 p3
  have op:=add_bits oo pp
  have tdo:=int_mul_lt td' op
  have tno:=int_mul_lt tn o3
  have tnop:=int_mul_lt tno p3
  walk_at "sim"
  refine ⟨mulOk _ _ o3 o3 (by decide),mulOk _ _ p3 p3 (by decide),mulOk _ _ td' op (by decide),mulOk _ _ tn o3 (by decide),mulOk _ _ tno p3 (by decide),mulOk _ _ B' B' (by decide),?_⟩
  refine k _ _ ?_ ?_ ?_ ?_
  · have:(0:Int)<(B:Int):=by omega
    exact Int.mul_pos this this
  · exact up_bits (int_mul_lt B' B') (by decide)
  · exact up_bits (sub_bits (up_bits tdo (show _≤13033 by decide)) (up_bits tnop (by decide))) (by decide)
  · have e:=mul_den t
    rw [Rat.intCast_sub,Rat.intCast_mul,Rat.intCast_add,Rat.intCast_mul,Rat.intCast_mul,Rat.intCast_mul,Rat.intCast_mul,Rat.intCast_mul,Rat.intCast_natCast,Rat.intCast_natCast,o1,p1,← e]
    grind
theorem ok_less__2 (T:Txt K mg) (d:Df K mg "less" s_less ["one", "other"])  : Fn P w K mg base "less" 1 ["one", "other"] sLessP:=by
  have sc:=sc_less
  refine fn_by d sc (by walk_at "len") (fun f cdv A outer s H E ds M R Y hr h=>?_)
  have hu:=hr.units
  obtain ⟨q,T',B,rfl,⟨b0,zq,zB,zT⟩,k⟩:=h
  have e:decide (q<Rat.divInt T' B)=decide (q.num*B<T'*(q.den:Int)):=decide_eq_decide.mpr (less_div b0).symm
  rw [e] at k
  refine ⟨_,(js1 (jds_ret (jd_cmp o_lt (jd_op o_mul (jd_ix i_any (jdv 0) jdi (fun _ _=>rfl)) (jd_ix i_any (jdv 1) jdi (fun _ _=>rfl))) (jd_op o_mul (jd_ix i_any (jdv 1) jdi (fun _ _=>rfl)) (jd_ix i_any (jdv 0) jdi (fun _ _=>rfl))) (nomark _)))),?_⟩
  walk_at "sim"
  exact ⟨mulOk _ _ (num_lt' q zq) zB (by decide),mulOk _ _ zT (by rw [Int.natAbs_natCast]; exact den_lt' q zq) (by decide),k⟩
theorem ok_reach_by (T:Txt K mg) (d:Df K mg "reach_by" s_reach_by ["t", "x", "later"]) (G_swing:Fn P w K mg base "swing" 3 ["t", "x", "later"] sSwingE):Fn P w K mg base "reach_by" 4 ["t", "x", "later"] sRchE:=by
  have sc:=sc_reach_by
  refine fn_by d sc (by walk_at "len") (fun f cdv A outer s H E ds M R Y hr h=>?_)
  have hu:=hr.units
  obtain ⟨t,x,f',rfl,⟨ht,t1,t2,hz⟩,k⟩:=h
  have td:=den_lt' t ht
  have tn:=num_lt' t ht
  have td':(t.den:Int).natAbs<2 ^ 231:=by rw [Int.natAbs_natCast]; exact td
  have e:=mul_den t
  have d0:(0:Rat)<(t.den:Rat):=by
    have:=t.den_pos
    exact_mod_cast this
  have h4:=t_lt4 t1 t2
  refine ⟨_,(jsc (jds_asg (jcF G_swing (hr.mono (by decide)) rfl (jac (jdv 0) (jac (jdv 1) (jac (jdv 2) jan)))) (jdg_tup (n:=2) rfl (jdgs_cons (jdg_name (i:=3) sc.nd rfl (Or.inl rfl)) (jdgs_cons (jdg_name (i:=4) sc.nd rfl (Or.inl rfl)) jdgs_nil)))) (js1 (jds_ret (jd_tup (jac (jd_op o_mul (jd_op o_mul jdi (jdv 3)) (jd_ix i_any (jdv 0) jdi (fun _ _=>rfl))) (jac (jd_op o_mul (jdv 4) (jd_op o_sub (jd_op o_mul (jd_op o_mul jdi (jd_ix i_any (jdv 0) jdi (fun _ _=>rfl))) (jd_ix i_any (jdv 0) jdi (fun _ _=>rfl))) (jd_op o_mul (jd_ix i_any (jdv 0) jdi (fun _ _=>rfl)) (jd_ix i_any (jdv 0) jdi (fun _ _=>rfl))))) jan)))))),?_⟩
  walk_at "sim"
  refine ⟨⟨ht,hz⟩,fun T B b0 bB bT eT=>?_⟩
  have t4d:(4*(t.den:Int)).natAbs<2 ^ (3+231):=int_mul_lt (show (4:Int).natAbs<2 ^ 3 by decide) td'
  have tdd:=int_mul_lt t4d td'
  have tnn:=int_mul_lt tn tn
  have bd:=sub_bits tdd (up_bits tnn (by decide))
  have rat:(((4*(t.den:Int)*(t.den:Int) - t.num*t.num:Int)):Rat)=(4 - t*t)*((t.den:Rat)*(t.den:Rat)):=by
    rw [Rat.intCast_sub,Rat.intCast_mul,Rat.intCast_mul,Rat.intCast_mul,Rat.intCast_natCast,← e]
    rw [show (((4:Int)):Rat)=4 from rfl]
    grind
  have pos:0<4*(t.den:Int)*(t.den:Int) - t.num*t.num:=by
    have:(0:Rat)<((4*(t.den:Int)*(t.den:Int) - t.num*t.num:Int):Rat):=by
      rw [rat]; exact Rat.mul_pos h4 (Rat.mul_pos d0 d0)
    exact_mod_cast this
  have t4:=int_mul_lt (show (4:Int).natAbs<2 ^ 3 by decide) bT
  have t4t:=int_mul_lt t4 td'
  refine ⟨m64l (by decide) (by decide),mulOk _ _ t4 td' (by decide),m64l (by decide) (by decide),mulOk _ _ t4d td' (by decide),mulOk _ _ tn tn (by decide),mulOk _ _ bB bd (by decide),?_⟩
  refine k _ _ (Int.mul_pos b0 pos) (up_bits (int_mul_lt bB bd) (by decide)) (up_bits t4t (by decide)) ?_
  have b0':(0:Rat)<(B:Rat):=by exact_mod_cast b0
  rw [Rat.divInt_eq_div,Rat.intCast_mul,Rat.intCast_mul,Rat.intCast_mul,rat,eT,Rat.intCast_natCast]
  unfold rchQ
  rw [show (((4:Int)):Rat)=4 from rfl]
  exact rch_div (fun z=>by rw [z] at d0; exact absurd d0 (by decide)) (fun z=>by rw [z] at b0'; exact absurd b0' (by decide)) (fun z=>by rw [z] at h4; exact absurd h4 (by decide))
theorem ok_shows_late (T:Txt K mg) (d:Df K mg "shows_late" s_shows_late ["word", "t", "x", "later", "r"]) (G_less:Fn P w K mg base "less" 1 ["one", "other"] spLess) (G_unsigned:Fn P w K mg base "unsigned" 1 ["one"] spAbs) (G_swing:Fn P w K mg base "swing" 3 ["t", "x", "later"] sSwingE) (G_less__2:Fn P w K mg base "less" 1 ["one", "other"] sLessP) (G_reach_by:Fn P w K mg base "reach_by" 4 ["t", "x", "later"] sRchE) (G_times:Fn P w K mg base "times" 3 ["one", "other"] spTimes):Fn P w K mg base "shows_late" 5 ["word", "t", "x", "later", "r"] sShows:=by
  have sc:=sc_shows_late
  refine fn_by d sc (by walk_at "len") (fun f cdv A outer s H E ds M R Y hr h=>?_)
  have hu:=hr.units
  obtain ⟨w',t,x,f',r,rfl,m,rfl,rfl,⟨cd,hd,hz,hr',r0⟩,k⟩:=h
  have zt:sz (trQ m)≤231:=CD.tr cd
  have zr:=RM.sz_mul r r
  have ax:=sz_abs x
  have af:=sz_abs f'
  have dn:((trQ m).den:Rat)≠0:=by
    intro z; exact (trQ m).den_nz (by exact_mod_cast z)
  have tz:∀ {T B:Int},0<B→(T:Rat)=(trQ m).den*(x*x - trQ m*(x*f')+f'*f')*B→(T=0↔swQ (trQ m) x f'=0):=fun {T B} b0 e=>by
    have hB : (B : Rat) ≠ 0 := by intro z; have : B = 0 := by exact_mod_cast z
                                  omega
    unfold swQ
    generalize x*x - trQ m*(x*f')+f'*f'=v at *
    constructor
    · intro z
      rw [z] at e
      have e:(0:Rat)=(trQ m).den*v*B:=e
      grind
    · intro z
      rw [z] at e
      have:(T:Rat)=0:=by grind
      exact_mod_cast this
  unfold lateB at k
  refine ⟨_,(jsc (jds_if (jd_tcmp o_eqS (jdv 0) jd_str (nomark _)) (js1 (jds_ret jd_bl)) jds_nil) (jsc (jds_if (jd_tcmp o_eqS (jdv 0) jd_str (nomark _)) (js1 (jds_ret (jcF G_less__2 (hr.mono (by decide)) rfl (jac (jcF G_times (hr.mono (by decide)) rfl (jac (jdv 4) (jac (jdv 4) jan))) (jac (jcF G_reach_by (hr.mono (by decide)) rfl (jac (jdv 1) (jac (jdv 2) (jac (jdv 3) jan)))) jan))))) jds_nil) (jsc (jds_if (jd_tcmp o_neI (jd_ix i_any (jcF G_swing (hr.mono (by decide)) rfl (jac (jdv 1) (jac (jdv 2) (jac (jdv 3) jan)))) jdi (fun _ _=>rfl)) jdi (nomark _)) (js1 (jds_ret jd_bl)) jds_nil) (js1 (jds_ret (jd_vand (jd_cmp o_eqS (jdv 0) jd_str (nomark _)) (jd_vone (jd_vor (jcF G_less (hr.mono (by decide)) rfl (jac (jcF G_unsigned (hr.mono (by decide)) rfl (jac (jdv 2) jan)) (jac (jcF G_unsigned (hr.mono (by decide)) rfl (jac (jdv 3) jan)) jan))) (jd_vone (jcF G_less (hr.mono (by decide)) rfl (jac (jdv 4) (jac (jcF G_unsigned (hr.mono (by decide)) rfl (jac (jdv 2) jan)) jan)))))))))))),?_⟩
  walk_at "sim"
  rcases kw_cases m with ⟨c1,e⟩ | ⟨c1,c2,e⟩ | ⟨c1,c2,c3,e⟩ | ⟨c1,c2,c3,e⟩
  · rw [e]
    rw [if_pos c1] at k
    exact ⟨fun _=>k,fun h=>absurd rfl h⟩
  · have c3:¬ absQ (trQ m)<2:=by rw [c2]; decide
    rw [if_neg c1,if_neg c3] at k
    rw [e]
    refine ⟨fun h=>absurd h (by decide),fun _=>⟨fun h=>absurd h (by decide),fun _=>⟨⟨zt,hz⟩,fun T' B b0 bB bT eT=>⟨fun h=>?_,fun h=>⟨fun h=>absurd h (by decide),fun _=>?_⟩⟩⟩⟩⟩
    · rw [if_pos (fun z=>h ((tz b0 eT).mpr z))] at k; exact k
    · rw [if_neg (fun z=>z ((tz b0 eT).mp h)),if_pos c2] at k; exact k
  · rw [if_neg c1,if_pos c3] at k
    rw [e]
    obtain ⟨t1,t2⟩:=abs_lt2.mp c3
    refine ⟨fun h=>absurd h (by decide),fun _=>⟨fun _=>⟨by omega,⟨zt,t1,t2,hz⟩,fun T' B b0 bB bT eT=>⟨⟨b0,by omega,up_bits bB (by decide),up_bits bT (by decide)⟩,?_⟩⟩,fun h=>absurd rfl h⟩⟩
    rw [eT]; exact k
  · rw [if_neg c1,if_neg c3] at k
    rw [e]
    refine ⟨fun h=>absurd h (by decide),fun _=>⟨fun h=>absurd h (by decide),fun _=>⟨⟨zt,hz⟩,fun T' B b0 bB bT eT=>⟨fun h=>?_,fun h=>⟨fun _=>⟨by omega,fun h2=>?_,fun h2=>⟨by omega,?_⟩⟩,fun h=>absurd rfl h⟩⟩⟩⟩⟩
    · rw [if_pos (fun z=>h ((tz b0 eT).mpr z))] at k; exact k
    · rw [if_neg (fun z=>z ((tz b0 eT).mp h)),if_neg c2,decide_eq_true (.inl h2)] at k; exact k
    · rw [if_neg (fun z=>z ((tz b0 eT).mp h)),if_neg c2] at k
      rw [show decide (absQ x<absQ f'∨r<absQ x)=decide (r<absQ x) from decide_eq_decide.mpr ⟨fun z=>z.resolve_left h2,.inr⟩] at k
      exact k
theorem ok_t_of (T:Txt K mg) (d:Df K mg "t_of" s_t_of ["table"]) (G_plus:Fn P w K mg base "plus" 3 ["one", "other"] spPlus):Fn P w K mg base "t_of" 4 ["table"] sTof:=by
  have sc:=sc_t_of
  refine fn_by d sc (by walk_at "len") (fun f cdv A outer s H E ds M R Y hr h=>?_)
  have hu:=hr.units
  obtain ⟨x,rfl,⟨a,b,c,d⟩,hx,cd,k⟩:=h
  have hx':x=tabD a b c d:=hx
  subst hx'
  have t4:=CD.t4 cd
  have h1:sz a≤230:=t4.a
  have h4:sz d≤230:=t4.d
  refine ⟨_,(js1 (jds_ret (jcF G_plus (hr.mono (by decide)) rfl (jac (jd_ix i_any (jdv 0) jdi (fun _ _=>rfl)) (jac (jd_ix i_any (jdv 0) jdi (fun _ _=>rfl)) jan))))),?_⟩
  walk_at "sim"
  exact ⟨by omega,k⟩
theorem ok_rounds_to_self (T:Txt K mg) (d:Df K mg "rounds_to_self" s_rounds_to_self ["table"]) (G_opposite:Fn P w K mg base "opposite" 1 ["one"] spOpp) (G_t_of:Fn P w K mg base "t_of" 4 ["table"] sTof):Fn P w K mg base "rounds_to_self" 5 ["table"] sRts:=by
  have sc:=sc_rounds_to_self
  refine fn_by d sc (by walk_at "len") (fun f cdv A outer s H E ds M R Y hr h=>?_)
  have hu:=hr.units
  obtain ⟨x,rfl,⟨a,b,c,d⟩,hx,cd,k⟩:=h
  have hx':x=tabD a b c d:=hx
  subst hx'
  refine ⟨_,(jsc (jds_if (jd_tcmp (o_eqC hu) (jdv 0) (jd_globD rfl T.c_SELF) (nomark _)) (js1 (jds_ret jdi)) jds_nil) (jsc (jds_if (jd_tcmp (o_eqC hu) (jdv 0) (jd_blty c_tupL rfl T.b_tuple bt_tuple (jac (jd_compV [] ["entry"] [] rfl (by decide +kernel) rfl (by decide +kernel) (by decide +kernel) rfl all0 all0 (jpd_seq (jd_globD rfl T.c_SELF)) (fun _ _ _ _ _ _=>(jdg_name (i:=0) (show (["entry"]:List Str).Nodup by decide +kernel) rfl (Or.inl rfl))) (fun _ _ _ _ _ _=>jdifs_nil) (fun _ _ _ _ _ _=>(jcF G_opposite (hr.mono (by decide)) rfl (jac (jdv 0) jan)))) jan)) (nomark _)) (js1 (jds_ret jdi)) jds_nil) (jsc (jds_set (i:=1) sc.nd rfl (Or.inl rfl) (jcF G_t_of (hr.mono (by decide)) rfl (jac (jdv 0) jan))) (jsc (jds_if (jd_tcmp (o_eqC hu) (jdv 1) (jcF G_opposite (hr.mono (by decide)) rfl (jac (jd_globD rfl T.c_ONE) jan)) (nomark _)) (js1 (jds_ret jdi)) jds_nil) (jsc (jds_if (jd_tcmp (o_eqC hu) (jdv 1) (jd_globD rfl T.c_NOUGHT) (nomark _)) (js1 (jds_ret jdi)) jds_nil) (js1 (jds_ret (jd_ifExp (jd_tcmp (o_eqC hu) (jdv 1) (jd_globD rfl T.c_ONE) (nomark _)) jdi jd_non)))))))),?_⟩
  walk_at "sim"
  refine ⟨fun e=>?_,fun e=>?_⟩
  · have e:=tabQ_inj (m:=(a,b,c,d)) (k:=(1,0,0,1)) (@of_decide_eq_true _ (Classical.propDecidable _) e)
    unfold rtsD at k
    rw [if_pos e] at k
    exact k
  · have e1:¬ (a,b,c,d)=((1,0,0,1):Q4):=fun z=>@of_decide_eq_false _ (Classical.propDecidable _) e (congrArg tabQ z)
    refine compV_map (xs:=[1,0,0,1]) (enc:=ratD) (fun q=>ratD (-q)) (by show 4≤1000; decide) (by simp only [seqD_tup]) (fun q hq Q hQ=>?_) ?_
    · walk_at "sim"
      exact hQ
    · walk_at "sim"
      unfold rtsD at k
      rw [if_neg e1] at k
      refine ⟨fun e=>?_,fun e=>⟨(a,b,c,d),rfl,cd,fun e3=>?_,fun e3=>⟨fun e4=>?_,fun e4=>⟨fun e5=>?_,fun e5=>?_⟩⟩⟩⟩
      · have e:=tabQ_inj (m:=(a,b,c,d)) (k:=(-1,0,0,-1)) e
        rw [if_pos e] at k
        exact k
      · have e2:¬ (a,b,c,d)=((-1,0,0,-1):Q4):=fun z=>e (congrArg tabQ z)
        rw [if_neg e2,if_pos e3] at k
        exact k
      · have e2:¬ (a,b,c,d)=((-1,0,0,-1):Q4):=fun z=>e (congrArg tabQ z)
        rw [if_neg e2,if_neg e3,if_pos e4] at k
        exact k
      · have e2:¬ (a,b,c,d)=((-1,0,0,-1):Q4):=fun z=>e (congrArg tabQ z)
        rw [if_neg e2,if_neg e3,if_neg e4,if_pos e5] at k
        exact k
      · have e2:¬ (a,b,c,d)=((-1,0,0,-1):Q4):=fun z=>e (congrArg tabQ z)
        rw [if_neg e2,if_neg e3,if_neg e4,if_neg e5] at k
        exact k
theorem ok_kind_word (T:Txt K mg) (d:Df K mg "kind_word" s_kind_word ["table"]) (G_less:Fn P w K mg base "less" 1 ["one", "other"] spLess) (G_unsigned:Fn P w K mg base "unsigned" 1 ["one"] spAbs) (G_t_of:Fn P w K mg base "t_of" 4 ["table"] sTof) (G_rounds_to_self:Fn P w K mg base "rounds_to_self" 5 ["table"] sRts):Fn P w K mg base "kind_word" 6 ["table"] sKw:=by
  have sc:=sc_kind_word
  refine fn_by d sc (by walk_at "len") (fun f cdv A outer s H E ds M R Y hr h=>?_)
  have hu:=hr.units
  obtain ⟨x,rfl,⟨a,b,c,d⟩,hx,cd,k⟩:=h
  have hx':x=tabD a b c d:=hx
  subst hx'
  have ht:sz (trQ (a,b,c,d))≤231:=CD.tr cd
  have hs:=GM.sz_abs (trQ (a,b,c,d))
  have z2:sz 2≤2:=by decide +kernel
  refine ⟨_,(jsc (jds_if (jd_tcmp o_isnot (jcF G_rounds_to_self (hr.mono (by decide)) rfl (jac (jdv 0) jan)) jd_non (nomark _)) (js1 (jds_ret jd_str)) jds_nil) (jsc (jds_set (i:=1) sc.nd rfl (Or.inl rfl) (jcF G_unsigned (hr.mono (by decide)) rfl (jac (jcF G_t_of (hr.mono (by decide)) rfl (jac (jdv 0) jan)) jan))) (jsc (jds_if (jd_tcmp (o_eqC hu) (jdv 1) (jd_globD rfl T.c_TWO) (nomark _)) (js1 (jds_ret jd_str)) jds_nil) (js1 (jds_ret (jd_ifExp (jd_tval (jcF G_less (hr.mono (by decide)) rfl (jac (jdv 1) (jac (jd_globD rfl T.c_TWO) jan)))) jd_str jd_str)))))),?_⟩
  walk_at "sim"
  refine ⟨(a,b,c,d),rfl,cd,?_⟩
  unfold kwS at k
  by_cases h1:sameP (a,b,c,d)
  · rw [if_pos h1] at k
    obtain ⟨n,e⟩:=rts_int h1
    rw [e,z_Is rfl]
    walk_at "sim"
    exact k
  · rw [if_neg h1] at k
    rw [rts_non h1,z_Is rfl]
    walk_at "sim"
    refine ⟨(a,b,c,d),rfl,cd,fun e=>?_,fun e=>⟨by omega,fun e2=>?_,fun e2=>?_⟩⟩
    · rw [if_pos e] at k; exact k
    · rw [if_neg e,if_pos e2] at k; exact k
    · rw [if_neg e,if_neg e2] at k; exact k
theorem ok_number_of (T:Txt K mg) (d:Df K mg "number_of" s_number_of ["p", "q", "ray"]) (G_plus:Fn P w K mg base "plus" 3 ["one", "other"] spPlus) (G_times:Fn P w K mg base "times" 3 ["one", "other"] spTimes):Fn P w K mg base "number_of" 4 ["p", "q", "ray"] sNumOf:=by
  have sc:=sc_number_of
  refine fn_by d sc (by walk_at "len") (fun f cdv A outer s H E ds M R Y hr h=>?_)
  have hu:=hr.units
  obtain ⟨p,q,y,u,rfl,hz,k⟩:=h
  have z1:=RM.sz_mul p y
  have z2:=RM.sz_mul q u
  refine ⟨_,(js1 (jds_ret (jcF G_plus (hr.mono (by decide)) rfl (jac (jcF G_times (hr.mono (by decide)) rfl (jac (jdv 0) (jac (jd_ix i_any (jdv 2) jdi (fun _ _=>rfl)) jan))) (jac (jcF G_times (hr.mono (by decide)) rfl (jac (jdv 1) (jac (jd_ix i_any (jdv 2) jdi (fun _ _=>rfl)) jan))) jan))))),?_⟩
  walk_at "sim"
  exact ⟨by omega,by omega,by omega,k⟩
theorem ok_led (T:Txt K mg) (d:Df K mg "led" s_led ["table", "ray"]) (G_plus:Fn P w K mg base "plus" 3 ["one", "other"] spPlus) (G_times:Fn P w K mg base "times" 3 ["one", "other"] spTimes):Fn P w K mg base "led" 4 ["table", "ray"] sLed:=by
  have sc:=sc_led
  refine fn_by d sc (by walk_at "len") (fun f cdv A outer s H E ds M R Y hr h=>?_)
  have hu:=hr.units
  obtain ⟨a,b,c,d,y,u,rfl,h1,h2,k⟩:=h
  refine ⟨_,(jsc (jds_asg (jdv 0) (jdg_tup (n:=4) rfl (jdgs_cons (jdg_name (i:=2) sc.nd rfl (Or.inl rfl)) (jdgs_cons (jdg_name (i:=3) sc.nd rfl (Or.inl rfl)) (jdgs_cons (jdg_name (i:=4) sc.nd rfl (Or.inl rfl)) (jdgs_cons (jdg_name (i:=5) sc.nd rfl (Or.inl rfl)) jdgs_nil)))))) (jsc (jds_asg (jdv 1) (jdg_tup (n:=2) rfl (jdgs_cons (jdg_name (i:=6) sc.nd rfl (Or.inl rfl)) (jdgs_cons (jdg_name (i:=7) sc.nd rfl (Or.inl rfl)) jdgs_nil)))) (js1 (jds_ret (jd_tup (jac (jcF G_plus (hr.mono (by decide)) rfl (jac (jcF G_times (hr.mono (by decide)) rfl (jac (jdv 2) (jac (jdv 6) jan))) (jac (jcF G_times (hr.mono (by decide)) rfl (jac (jdv 3) (jac (jdv 7) jan))) jan))) (jac (jcF G_plus (hr.mono (by decide)) rfl (jac (jcF G_times (hr.mono (by decide)) rfl (jac (jdv 4) (jac (jdv 6) jan))) (jac (jcF G_times (hr.mono (by decide)) rfl (jac (jdv 5) (jac (jdv 7) jan))) jan))) jan))))))),?_⟩
  walk_at "sim"
  exact ⟨by walk_at "size",by walk_at "size",by walk_at "size",by walk_at "size",by walk_at "size",by walk_at "size",k⟩
theorem ok_first_two (T:Txt K mg) (d:Df K mg "first_two" s_first_two ["table", "ray", "lines"]) (G_number_of:Fn P w K mg base "number_of" 4 ["p", "q", "ray"] sNumOf) (G_led:Fn P w K mg base "led" 4 ["table", "ray"] sLed):Fn P w K mg base "first_two" 5 ["table", "ray", "lines"] sFirstTwo:=by
  have sc:=sc_first_two
  refine fn_by d sc (by walk_at "len") (fun f cdv A outer s H E ds M R Y hr h=>?_)
  have hu:=hr.units
  obtain ⟨a,b,c,d,y,u,x,rfl,ls,rfl,⟨⟨s1,s2⟩,hl,hs⟩,k⟩:=h
  refine ⟨_,(jsc (jds_set (i:=3) sc.nd rfl (Or.inr rfl) (jcF G_led (hr.mono (by decide)) rfl (jac (jdv 0) (jac (jdv 1) jan)))) (js1 (jds_ret (jd_compV [1,3] ["p", "q", "r"] ["ray", "later"] rfl (by decide +kernel) rfl (by decide +kernel) (by decide +kernel) rfl (all2 ⟨rfl,rfl⟩ ⟨rfl,rfl⟩) (all2 (Or.inl rfl) (Or.inl rfl)) (jpd_seq (jdv 2)) (fun _ _ _ _ _ _=>(jdg_tup (n:=3) rfl (jdgs_cons (jdg_name (i:=0) (show (["p", "q", "r", "ray", "later"]:List Str).Nodup by decide +kernel) rfl (Or.inl rfl)) (jdgs_cons (jdg_name (i:=1) (show (["p", "q", "r", "ray", "later"]:List Str).Nodup by decide +kernel) rfl (Or.inl rfl)) (jdgs_cons (jdg_name (i:=2) (show (["p", "q", "r", "ray", "later"]:List Str).Nodup by decide +kernel) rfl (Or.inl rfl)) jdgs_nil))))) (fun _ _ _ _ _ _=>jdifs_nil) (fun _ _ _ _ _ _=>(jd_tup (jac (jcF G_number_of (hr.mono (by decide)) rfl (jac (jdv 0) (jac (jdv 1) (jac (jdv 3) jan)))) (jac (jcF G_number_of (hr.mono (by decide)) rfl (jac (jdv 0) (jac (jdv 1) (jac (jdv 4) jan)))) (jac (jdv 2) jan))))))))),?_⟩
  walk_at "sim"
  refine ⟨s1,s2,?_⟩
  refine compV_map (xs:=ls) (enc:=lineD) (fun l=>D.tup [ratD (l.1*y+l.2.1*u),ratD (l.1*(a*y+b*u)+l.2.1*(c*y+d*u)),ratD l.2.2]) (by omega) (by simp only [seqD_vl]) (fun l hl Q hQ=>?_) k
  obtain ⟨z1,z2⟩:=hs l hl
  unfold lineD
  walk_at "sim"
  exact ⟨z1,z2,hQ⟩
theorem ok_by_columns (T:Txt K mg) (d:Df K mg "by_columns" s_by_columns ["first", "second"])  : Fn P w K mg base "by_columns" 1 ["first", "second"] spColumns:=by
  have sc:=sc_by_columns
  refine fn_by d sc (by walk_at "len") (fun f cdv A outer s H E ds M R Y hr h=>?_)
  have hu:=hr.units
  obtain ⟨a,b,c,d,rfl,k⟩:=h
  refine ⟨_,(js1 (jds_ret (jd_tup (jac (jd_ix i_any (jdv 0) jdi (fun _ _=>rfl)) (jac (jd_ix i_any (jdv 1) jdi (fun _ _=>rfl)) (jac (jd_ix i_any (jdv 0) jdi (fun _ _=>rfl)) (jac (jd_ix i_any (jdv 1) jdi (fun _ _=>rfl)) jan))))))),?_⟩
  walk_at "sim"
  exact k
theorem ok_led_by_part (T:Txt K mg) (d:Df K mg "led_by_part" s_led_by_part ["part", "ray"]) (G_minus:Fn P w K mg base "minus" 4 ["one", "other"] spMinus) (G_times:Fn P w K mg base "times" 3 ["one", "other"] spTimes) (G_plus:Fn P w K mg base "plus" 3 ["one", "other"] spPlus):Fn P w K mg base "led_by_part" 5 ["part", "ray"] sLedP:=by
  have sc:=sc_led_by_part
  refine fn_by d sc (by walk_at "len") (fun f cdv A outer s H E ds M R Y hr h=>?_)
  have hu:=hr.units
  obtain ⟨x,y,u,rfl,hz,k⟩:=h
  refine ⟨_,(jsc (jds_asg (jdv 0) (jdg_tup (n:=2) rfl (jdgs_cons (jdg_name (i:=2) sc.nd rfl (Or.inl rfl)) (jdgs_cons (jdg_name (i:=3) sc.nd rfl (Or.inl rfl)) jdgs_nil)))) (jsc (jds_asg (jdv 1) (jdg_tup (n:=2) rfl (jdgs_cons (jdg_name (i:=4) sc.nd rfl (Or.inl rfl)) (jdgs_cons (jdg_name (i:=5) sc.nd rfl (Or.inl rfl)) jdgs_nil)))) (jsc (jds_if (jd_tcmp o_eqS (jdv 2) jd_str (nomark _)) (js1 (jds_ret (jd_tup (jac (jcF G_plus (hr.mono (by decide)) rfl (jac (jdv 4) (jac (jcF G_times (hr.mono (by decide)) rfl (jac (jdv 3) (jac (jdv 5) jan))) jan))) (jac (jdv 5) jan))))) jds_nil) (jsc (jds_if (jd_tcmp o_eqS (jdv 2) jd_str (nomark _)) (js1 (jds_ret (jd_tup (jac (jdv 4) (jac (jcF G_minus (hr.mono (by decide)) rfl (jac (jdv 5) (jac (jcF G_times (hr.mono (by decide)) rfl (jac (jdv 3) (jac (jdv 4) jan))) jan))) jan))))) jds_nil) (js1 (jds_ret (jdv 1))))))),?_⟩
  walk_at "sim"
  unfold ledP at k
  refine ⟨fun h1=>?_,fun h1=>⟨fun h2=>?_,fun h2=>?_⟩⟩
  · rw [if_pos h1] at k; exact ⟨by omega,by walk_at "size",k⟩
  · rw [if_neg h1,if_pos h2] at k; exact ⟨by omega,by walk_at "size",k⟩
  · rw [if_neg h1,if_neg h2] at k; exact k
theorem ok_table_of (T:Txt K mg) (d:Df K mg "table_of" s_table_of ["bench"]) (G_by_columns:Fn P w K mg base "by_columns" 1 ["first", "second"] spColumns) (G_led_by_part:Fn P w K mg base "led_by_part" 5 ["part", "ray"] sLedP):Fn P w K mg base "table_of" 6 ["bench"] sTabW:=by
  have sc:=sc_table_of
  refine fn_by d sc (by walk_at "len") (fun f cdv A outer s H E ds M R Y hr h=>?_)
  have hu:=hr.units
  obtain ⟨bs,rfl,⟨⟨hz,hl⟩,hc⟩,k⟩:=h
  refine ⟨_,(jsc (jds_set (i:=1) sc.nd rfl (Or.inl rfl) (jd_globD rfl T.c_LEVEL_RAY)) (jsc (jds_set (i:=2) sc.nd rfl (Or.inl rfl) (jd_globD rfl T.c_AXIS_RAY)) (jsc (jds_forI PassesOwn.never rfl (jpd_seq (jdv 0)) (jdg_name (i:=3) sc.nd rfl (Or.inl rfl)) (jsc (jds_set (i:=1) sc.nd rfl (Or.inl rfl) (jcF G_led_by_part (hr.mono (by decide)) rfl (jac (jdv 3) (jac (jdv 1) jan)))) (js1 (jds_set (i:=2) sc.nd rfl (Or.inl rfl) (jcF G_led_by_part (hr.mono (by decide)) rfl (jac (jdv 3) (jac (jdv 2) jan))))))) (js1 (jds_ret (jcF G_by_columns (hr.mono (by decide)) rfl (jac (jdv 1) (jac (jdv 2) jan)))))))),?_⟩
  walk_at "sim"
  refine ForK.by (fun i e M'=>M'=M∧∃ z:Option D,e=[some _,some (rayD (outP (bs.take i) (1,0)).1 (outP (bs.take i) (1,0)).2),some (rayD (outP (bs.take i) (0,1)).1 (outP (bs.take i) (0,1)).2),z]) ⟨rfl,_,rfl⟩ (fun i e M' _ _=>by simp only [seqD_vl]) ?_ ?_
  · rintro i dd e M' hd ⟨rfl,z,rfl⟩
    obtain ⟨pt,hpt,rfl⟩:=part_item hd
    have t4:=CD.t4 (hc i)
    have a1:sz (outP (bs.take i) (1,0)).1≤230:=t4.a
    have a2:sz (outP (bs.take i) (0,1)).1≤230:=t4.b
    have b1:sz (outP (bs.take i) (1,0)).2≤230:=t4.c
    have b2:sz (outP (bs.take i) (0,1)).2≤230:=t4.d
    have q2:=hz pt (List.mem_of_getElem? hpt)
    have o1:=out_take hpt (1,0)
    have o2:=out_take hpt (0,1)
    walk_at "sim"
    rw [← o1,← o2]
    exact ⟨by omega,by omega,_,rfl⟩
  · rw [List.length_map]
    rintro e M' ⟨rfl,z,rfl⟩
    rw [List.take_length]
    walk_at "sim"
    exact k
theorem ok_turned_bench (T:Txt K mg) (d:Df K mg "turned_bench" s_turned_bench ["bench"])  : Fn P w K mg base "turned_bench" 1 ["bench"] sTurnS:=by
  have sc:=sc_turned_bench
  refine fn_by d sc (by walk_at "len") (fun f cdv A outer s H E ds M R Y hr h=>?_)
  have hu:=hr.units
  obtain ⟨x0,xs,rfl,hx0,k⟩:=h
  rcases hx0 with rfl | rfl
  all_goals
    refine ⟨_,(js1 (jds_ret (jd_listRevS rfl rfl T.b_list bt_list rfl T.b_reversed bt_reversed (jdv 0)))),?_⟩
    walk_at "sim"
    exact k
theorem ok_round_bench (T:Txt K mg) (d:Df K mg "round_bench" s_round_bench ["hall"]) (G_turned_bench:Fn P w K mg base "turned_bench" 1 ["bench"] sTurnS):Fn P w K mg base "round_bench" 2 ["hall"] sRndBS:=by
  have sc:=sc_round_bench
  refine fn_by d sc (by walk_at "len") (fun f cdv A outer s H E ds M R Y hr h=>?_)
  have hu:=hr.units
  obtain ⟨x0,near,bs,far,rfl,hx0,hl,k⟩:=h
  rw [show hallL near bs far=bs++[(Str.ofString "glass",far)]++bs.reverse++[(Str.ofString "glass",near)] from rfl,List.map_append,List.map_append,List.map_append,List.map_reverse] at k
  have l1:(bs.map partD).length=bs.length:=List.length_map ..
  have hs:1000≤sizeLine:=by decide
  rcases hx0 with rfl | rfl
  all_goals
    refine ⟨_,(jsc (jds_asg (jdv 0) (jdg_tup (n:=3) rfl (jdgs_cons (jdg_name (i:=1) sc.nd rfl (Or.inl rfl)) (jdgs_cons (jdg_name (i:=2) sc.nd rfl (Or.inl rfl)) (jdgs_cons (jdg_name (i:=3) sc.nd rfl (Or.inl rfl)) jdgs_nil))))) (js1 (jds_ret (jd_catV (jd_catV (jd_catV (jd_listV rfl T.b_list bt_list (jac (jdv 2) jan)) (jd_lstV (jac (jd_tup (jac jd_str (jac (jdv 3) jan))) jan))) (jcF G_turned_bench (hr.mono (by decide)) rfl (jac (jdv 2) jan))) (jd_lstV (jac (jd_tup (jac jd_str (jac (jdv 1) jan))) jan)))))),?_⟩
    walk_at "sim"
    refine ⟨by omega,by simp only [List.length_append,List.length_reverse,List.length_cons,List.length_nil]; omega,by simp only [List.length_append,List.length_reverse,List.length_cons,List.length_nil]; omega,?_⟩
    exact k
theorem ok_round_of (T:Txt K mg) (d:Df K mg "round_of" s_round_of ["hall"]) (G_table_of:Fn P w K mg base "table_of" 6 ["bench"] sTabW) (G_round_bench:Fn P w K mg base "round_bench" 2 ["hall"] sRndBS):Fn P w K mg base "round_of" 7 ["hall"] sRndW:=by
  have sc:=sc_round_of
  refine fn_by d sc (by walk_at "len") (fun f cdv A outer s H E ds M R Y hr h=>?_)
  have hu:=hr.units
  obtain ⟨x0,near,bs,far,rfl,hx0,hok,k⟩:=h
  have hs:=hok.szs
  have hc:=hok.cd
  have hl:=hok.len
  have hl2:=hall_len near far bs
  rcases hx0 with rfl | rfl
  all_goals
    refine ⟨_,(js1 (jds_ret (jcF G_table_of (hr.mono (by decide)) rfl (jac (jcF G_round_bench (hr.mono (by decide)) rfl (jac (jdv 0) jan)) jan)))),?_⟩
    walk_at "sim"
    exact ⟨hl,⟨⟨hs,by omega⟩,hc⟩,k⟩
theorem ok_lines_of (T:Txt K mg) (d:Df K mg "lines_of" s_lines_of ["bench"]) (G_led_by_part:Fn P w K mg base "led_by_part" 5 ["part", "ray"] sLedP):Fn P w K mg base "lines_of" 6 ["bench"] sLinesW:=by
  have sc:=sc_lines_of
  refine fn_by d sc (by walk_at "len") (fun f cdv A outer s H E ds M R Y hr h=>?_)
  have hu:=hr.units
  obtain ⟨bs,rfl,⟨⟨hz,hl⟩,hc⟩,k⟩:=h
  refine ⟨_,(jsc (jds_set (i:=1) sc.nd rfl (Or.inl rfl) (jd_lst jan)) (jsc (jds_set (i:=2) sc.nd rfl (Or.inl rfl) (jd_globD rfl T.c_LEVEL_RAY)) (jsc (jds_set (i:=3) sc.nd rfl (Or.inl rfl) (jd_globD rfl T.c_AXIS_RAY)) (jsc (jds_forI PassesOwn.never rfl (jpd_seq (jdv 0)) (jdg_name (i:=4) sc.nd rfl (Or.inl rfl)) (jds_consM (jds_if (jd_tcmp o_eqS (jd_ix i_any (jdv 4) jdi (fun _ _=>rfl)) jd_str (nomark _)) (js1 (jds_expr (jd_lm PySem.F.slot_list_append PySem.F.type_list_append dm_append (jdv 1) (jac (jd_tup (jac (jd_ix i_any (jdv 2) jdi (fun _ _=>rfl)) (jac (jd_ix i_any (jdv 3) jdi (fun _ _=>rfl)) (jac (jd_ix i_any (jdv 4) jdi (fun _ _=>rfl)) jan)))) jan)))) jds_nil) (jsc (jds_set (i:=2) sc.nd rfl (Or.inl rfl) (jcF G_led_by_part (hr.mono (by decide)) rfl (jac (jdv 4) (jac (jdv 2) jan)))) (js1 (jds_set (i:=3) sc.nd rfl (Or.inl rfl) (jcF G_led_by_part (hr.mono (by decide)) rfl (jac (jdv 4) (jac (jdv 3) jan)))))))) (js1 (jds_ret (jd_fgt (jd_frz (jdv 1))))))))),?_⟩
  walk_at "sim"
  intro p hp
  refine ForK.by (fun i e M'=>(∃ y0 z:Option D,e=[y0,some (.ref p),some (rayD (outP (bs.take i) (1,0)).1 (outP (bs.take i) (1,0)).2),some (rayD (outP (bs.take i) (0,1)).1 (outP (bs.take i) (0,1)).2),z])∧M'=updM M p (.lst ((stpL bs i).map lineD))) ⟨⟨_,_,rfl⟩,rfl⟩ (fun i e M' _ _=>by simp only [seqD_vl,seqD_tup]) ?_ ?_
  · rintro i dd e M' hd ⟨⟨y0,z,rfl⟩,rfl⟩
    obtain ⟨pt,hpt,rfl⟩:=part_item hd
    have t4:=CD.t4 (hc i)
    have a1:sz (outP (bs.take i) (1,0)).1≤230:=t4.a
    have a2:sz (outP (bs.take i) (0,1)).1≤230:=t4.b
    have b1:sz (outP (bs.take i) (1,0)).2≤230:=t4.c
    have b2:sz (outP (bs.take i) (0,1)).2≤230:=t4.d
    have q2:=hz pt (List.mem_of_getElem? hpt)
    have o1:=out_take hpt (1,0)
    have o2:=out_take hpt (0,1)
    have hll:=stpL_len bs i
    have hi:=(List.getElem?_eq_some_iff.mp hpt).1
    have on:=stpL_on hpt
    walk_at "sim"
    refine JoinBy (fun e' M'=>e'=[y0,some (.ref p),some (rayD (outP (bs.take i) (1,0)).1 (outP (bs.take i) (1,0)).2),some (rayD (outP (bs.take i) (0,1)).1 (outP (bs.take i) (0,1)).2),some (partD pt)]∧M'=updM M p (.lst ((stpL bs (i+1)).map lineD))) ?_ ?_
    · walk_at "sim"
      refine ⟨fun h1=>LMK_of updM_same (App_of updM_same (by rw [List.length_map]; omega) ?_),fun h1=>?_⟩
      · rw [updM_upd,on,if_pos h1,List.map_append]; rfl
      · rw [on,if_neg h1]
    · rintro e' M' ⟨rfl,rfl⟩
      walk_at "sim"
      refine ⟨by omega,by omega,⟨y0,some (partD pt),?_⟩⟩
      rw [o1,o2]
  · rintro e M' ⟨⟨y0,z,rfl⟩,rfl⟩
    walk_at "sim"
    rw [z_FrzK updM_same,delM_upd hp]
    walk_at "sim"
    rw [List.length_map]
    exact ⟨_,fun _ _ h=>h,k⟩
theorem ok_hall_lines (T:Txt K mg) (d:Df K mg "hall_lines" s_hall_lines ["hall"]) (G_lines_of:Fn P w K mg base "lines_of" 6 ["bench"] sLinesW) (G_round_bench:Fn P w K mg base "round_bench" 2 ["hall"] sRndBS):Fn P w K mg base "hall_lines" 7 ["hall"] sHallLnW:=by
  have sc:=sc_hall_lines
  refine fn_by d sc (by walk_at "len") (fun f cdv A outer s H E ds M R Y hr h=>?_)
  have hu:=hr.units
  obtain ⟨x0,near,bs,far,rfl,hx0,hok,k⟩:=h
  have hs:=hok.szs
  have hc:=hok.cd
  have hl:=hok.len
  have hl2:=hall_len near far bs
  have fl:=frW_len bs
  have sz1:1000≤sizeLine:=by decide
  rcases hx0 with rfl | rfl
  all_goals
    refine ⟨_,(jsc (jds_setCompV (i:=1) [] ["number", "part"] [] sc.nd rfl (Or.inl rfl) rfl (by decide +kernel) rfl (by decide +kernel) (by decide +kernel) rfl all0 all0 (jpd_enum rfl T.b_enumerate (jac (jd_ix i_any (jdv 0) jdi (fun _ _=>rfl)) jan)) (fun _ _ _ _ _ _=>(jdg_tup (n:=2) rfl (jdgs_cons (jdg_name (i:=0) (show (["number", "part"]:List Str).Nodup by decide +kernel) rfl (Or.inl rfl)) (jdgs_cons (jdg_name (i:=1) (show (["number", "part"]:List Str).Nodup by decide +kernel) rfl (Or.inl rfl)) jdgs_nil)))) (fun _ _ _ _ _ _=>(jdifs_one (jd_tcmp o_eqS (jd_ix i_any (jdv 1) jdi (fun _ _=>rfl)) jd_str (nomark _)))) (fun _ _ _ _ _ _=>(jd_tup (jac jd_str (jac (jdv 0) jan))))) (jsc (jds_setCompV (i:=2) [] ["way", "number"] [] sc.nd rfl (Or.inl rfl) rfl (by decide +kernel) rfl (by decide +kernel) (by decide +kernel) rfl all0 all0 (jpd_back rfl T.b_reversed bt_reversed (jac (jdv 1) jan)) (fun _ _ _ _ _ _=>(jdg_tup (n:=2) rfl (jdgs_cons (jdg_name (i:=0) (show (["way", "number"]:List Str).Nodup by decide +kernel) rfl (Or.inl rfl)) (jdgs_cons (jdg_name (i:=1) (show (["way", "number"]:List Str).Nodup by decide +kernel) rfl (Or.inl rfl)) jdgs_nil)))) (fun _ _ _ _ _ _=>jdifs_nil) (fun _ _ _ _ _ _=>(jd_tup (jac jd_str (jac (jdv 1) jan))))) (jsc (jds_set (i:=3) sc.nd rfl (Or.inl rfl) (jcF G_lines_of (hr.mono (by decide)) rfl (jac (jcF G_round_bench (hr.mono (by decide)) rfl (jac (jdv 0) jan)) jan))) (js1 (jds_ret (jd_compL [] ["line", "way", "number"] [] rfl (by decide +kernel) rfl (by decide +kernel) (by decide +kernel) rfl all0 all0 (jpd_zip rfl T.b_zip (jac (jd_catV (jdv 1) (jdv 2)) (jac (jdv 3) jan))) (fun _ _ _ _ _ _=>(jdg_tup (n:=2) rfl (jdgs_cons (jdg_tup (n:=2) rfl (jdgs_cons (jdg_name (i:=1) (show (["line", "way", "number"]:List Str).Nodup by decide +kernel) rfl (Or.inl rfl)) (jdgs_cons (jdg_name (i:=2) (show (["line", "way", "number"]:List Str).Nodup by decide +kernel) rfl (Or.inl rfl)) jdgs_nil))) (jdgs_cons (jdg_name (i:=0) (show (["line", "way", "number"]:List Str).Nodup by decide +kernel) rfl (Or.inl rfl)) jdgs_nil)))) (fun _ _ _ _ _ _=>jdifs_nil) (fun _ _ _ _ _ _=>(jd_tup (jac (jdv 1) (jac (jdv 2) (jac (jdv 0) jan))))))))))),?_⟩
    walk_at "sim"
    rw [enum_zipP]
    refine compV_filter (xs:=bs.zipIdx) (fun x=>x.1.1 == Str.ofString "stop") fwD (by rw [List.length_zipIdx]; omega) (by simp only [seqD_vl,seqD_tup]) (fun x hx Q N h1 h2=>?_) ?_
    · walk_at "sim"
      exact ⟨fun e=>h1 (by rw [e]; exact beq_self_eq_true _),fun e=>h2 (beq_eq_false_iff_ne.mpr e)⟩
    · walk_at "sim"
      rw [show List.filter (fun x:(Str × Rat) × Nat=>x.1.1 == Str.ofString "stop") bs.zipIdx=frW bs from rfl,← List.map_reverse]
      refine compV_map (xs:=(frW bs).reverse) (enc:=fwD) bwD (by rw [List.length_reverse]; omega) trivial (fun x hx Q hQ=>?_) ?_
      · unfold fwD
        walk_at "sim"
        exact hQ
      · walk_at "sim"
        refine ⟨hl,⟨⟨hs,by omega⟩,hc⟩,Nat.le_trans (by rw [List.length_map,List.length_map,List.length_reverse]; omega) sz1,?_⟩
        rw [fb_stp near far bs,zip_pr]
        have zl:=stpL_len (hallL near bs far) (hallL near bs far).length
        refine compV_map (fun z=>hlD z.1 z.2) (by rw [List.length_zip]; omega) (by simp only [seqD_vl,and_self]) (fun z hz Q hQ=>?_) ?_
        · unfold prD
          walk_at "sim"
          exact hQ
        · rw [hl_zip]
          exact k
theorem ok_late_shown (T:Txt K mg) (d:Df K mg "late_shown" s_late_shown ["hall", "ray", "k"]) (G_shows_late:Fn P w K mg base "shows_late" 5 ["word", "t", "x", "later", "r"] sShows) (G_t_of:Fn P w K mg base "t_of" 4 ["table"] sTof) (G_kind_word:Fn P w K mg base "kind_word" 6 ["table"] sKw) (G_first_two:Fn P w K mg base "first_two" 5 ["table", "ray", "lines"] sFirstTwo) (G_round_of:Fn P w K mg base "round_of" 7 ["hall"] sRndW) (G_hall_lines:Fn P w K mg base "hall_lines" 7 ["hall"] sHallLnW):Fn P w K mg base "late_shown" 8 ["hall", "ray", "k"] sLateSh:=by
  have sc:=sc_late_shown
  refine fn_by d sc (by walk_at "len") (fun f cdv A outer s H E ds M R Y hr h=>?_)
  have hu:=hr.units
  obtain ⟨x0,near,bs,far,y,u,k,rfl,hx0,⟨hw,S,cd0,hS⟩,l,hl,k'⟩:=h
  have cd:CD 1000 y 0 u 0:=cd0.mono hS
  have cL:=hw.cd (hallL near bs far).length
  rw [List.take_length] at cL
  have dL:=tb_det (hallL near bs far)
  obtain ⟨j,px,hj,hpx,el⟩:=stpL_mem _ l (List.mem_of_getElem? hl)
  obtain ⟨z1,z2⟩:=row_sz hw.cd cd j
  have hpz:=hw.szs px (List.mem_of_getElem? hj)
  have hp0:0<px.2:=by
    have hm:=List.mem_of_getElem? hj
    unfold hallL at hm
    have inb:px∈bs→0<px.2:=fun h=>by
      rcases hw.part px h with h | h
      · rw [hpx] at h; exact absurd h (by decide)
      · exact h.2
    rcases List.mem_append.mp hm with hm | hm
    · rcases List.mem_append.mp hm with hm | hm
      · rcases List.mem_append.mp hm with hm | hm
        · exact inb hm
        · rw [List.mem_singleton.mp hm] at hpx; exact absurd hpx (show ¬ Str.ofString "glass" = Str.ofString "stop" by decide)
      · exact inb (List.mem_reverse.mp hm)
    · rw [List.mem_singleton.mp hm] at hpx; exact absurd hpx (show ¬ Str.ofString "glass" = Str.ofString "stop" by decide)
  have lj:=CD.t4 (hw.cd j)
  have lj1:sz (outP ((hallL near bs far).take j) (1,0)).1≤230:=lj.a
  have lj2:sz (outP ((hallL near bs far).take j) (0,1)).1≤230:=lj.b
  have q1:sz l.1≤230:=by rw [el]; exact lj1
  have q2:sz l.2.1≤230:=by rw [el]; exact lj2
  have q3:sz l.2.2≤3000:=by rw [el]; exact hpz
  have q4:0<l.2.2:=by rw [el]; exact hp0
  have q5:sz (l.1*y+l.2.1*u)≤1231:=by rw [el]; omega
  have q6:sz (l.1*(outP (hallL near bs far) (y,u)).1+l.2.1*(outP (hallL near bs far) (y,u)).2)≤1462:=by rw [el]; omega
  have ray:=(ray_cd cL cd).t2
  have r1:=ray.y
  have r2:=ray.u
  have ty:=cd.t2.y
  have tu:=cd.t2.u
  have ol:=out_lin (hallL near bs far) y u
  obtain ⟨w0,hat⟩:=hl_at (T:=hallT near bs far) (i:=(hallT near bs far).length) (k:=k) (l:=l) (by rw [hallT_L,hallT_len]; exact hl)
  have kl:=(List.getElem?_eq_some_iff.mp hat).1
  have t4:=CD.t4 cL
  have z3:sz (tbQ (hallL near bs far)).1≤230:=t4.a
  have z4:sz (tbQ (hallL near bs far)).2.1≤230:=t4.b
  have z5:sz (tbQ (hallL near bs far)).2.2.1≤230:=t4.c
  have z6:sz (tbQ (hallL near bs far)).2.2.2≤230:=t4.d
  have o1:(outP (hallL near bs far) (y,u)).1=(tbQ (hallL near bs far)).1*y+(tbQ (hallL near bs far)).2.1*u:=ol.1
  have o2:(outP (hallL near bs far) (y,u)).2=(tbQ (hallL near bs far)).2.2.1*y+(tbQ (hallL near bs far)).2.2.2*u:=ol.2
  rw [o1,o2] at k' q6
  rw [o1] at r1
  rw [o2] at r2
  rcases hx0 with rfl | rfl
  all_goals
    refine ⟨_,(jsc (jds_set (i:=3) sc.nd rfl (Or.inl rfl) (jd_frz (jcF G_hall_lines (hr.mono (by decide)) rfl (jac (jdv 0) jan)))) (jsc (jds_if (jd_tw (jd_or (jd_tcmp o_lt (jdv 2) jdi (nomark _)) (jd_or1 (jd_tcmp o_ge (jdv 2) (jd_blt c_len rfl T.b_len bt_len (jac (jdv 3) jan)) (nomark _))))) (js1 (jds_ret jd_bl)) jds_nil) (jsc (jds_set (i:=4) sc.nd rfl (Or.inl rfl) (jcF G_round_of (hr.mono (by decide)) rfl (jac (jdv 0) jan))) (jsc (jds_asg (jd_ix i_any (jcF G_first_two (hr.mono (by decide)) rfl (jac (jdv 4) (jac (jdv 1) (jac (jd_lstV (jac (jd_ix i_any (jd_ix i_any (jdv 3) (jdv 2) (fun _ _=>rfl)) jdi (fun _ _=>rfl)) jan)) jan)))) jdi (fun _ _=>rfl)) (jdg_tup (n:=3) rfl (jdgs_cons (jdg_name (i:=5) sc.nd rfl (Or.inl rfl)) (jdgs_cons (jdg_name (i:=6) sc.nd rfl (Or.inl rfl)) (jdgs_cons (jdg_name (i:=7) sc.nd rfl (Or.inl rfl)) jdgs_nil))))) (js1 (jds_ret (jcF G_shows_late (hr.mono (by decide)) rfl (jac (jcF G_kind_word (hr.mono (by decide)) rfl (jac (jdv 4) jan)) (jac (jcF G_t_of (hr.mono (by decide)) rfl (jac (jdv 4) jan)) (jac (jdv 5) (jac (jdv 6) (jac (jdv 7) jan)))))))))))),?_⟩
    walk_at "sim"
    refine ⟨hw,fun p hp=>?_⟩
    generalize hlN (hallT near bs far) (hallT near bs far).length=HL at *
    rw [z_FrzK updM_same,delM_upd hp]
    walk_at "sim"
    refine ⟨fun h=>by omega,fun _=>⟨fun h=>by omega,fun _=>⟨hw,?_⟩⟩⟩
    generalize tbQ (hallL near bs far)=m at *
    obtain ⟨a,b,c,d⟩:=m
    have z3:sz a≤230:=z3
    have z4:sz b≤230:=z4
    have z5:sz c≤230:=z5
    have z6:sz d≤230:=z6
    have r1:sz (a*y+b*u)≤1231:=r1
    have r2:sz (c*y+d*u)≤1231:=r2
    have q6:sz (l.1*(a*y+b*u)+l.2.1*(c*y+d*u))≤1462:=q6
    rw [show tabQ (a,b,c,d)=tabD a b c d from rfl]
    refine ⟨hlD w0 l,atI_lit (n:=k) hat,?_⟩
    unfold hlD
    walk_at "sim"
    refine ⟨[l],rfl,⟨⟨by omega,by omega⟩,by show 1≤40; decide,fun x hx=>?_⟩,?_⟩
    · rw [List.mem_singleton.mp hx]
      exact ⟨by omega,by omega⟩
    walk_at "sim"
    refine ⟨(a,b,c,d),rfl,cL,(a,b,c,d),rfl,cL,(a,b,c,d),rfl,rfl,⟨cL,dL,by omega,q3,q4⟩,k'⟩
theorem ok__law_beyond (T:Txt K mg) (d:Df K mg "_law_beyond" s__law_beyond ["x", "r"])  : Fn P w K mg base "_law_beyond" 1 ["x", "r"] sLwBey:=by
  have sc:=sc__law_beyond
  refine fn_by d sc (by walk_at "len") (fun f cdv A outer s H E ds M R Y hr h=>?_)
  have hu:=hr.units
  obtain ⟨x,r,rfl,hz,k⟩:=h
  obtain ⟨n1,n2⟩:=abs_nd x
  have e:decide (r<absQ x)=decide (r.num*(x.den:Int)<(x.num.natAbs:Int)*(r.den:Int)):=decide_eq_decide.mpr (by rw [Rat.lt_iff,n1,n2])
  rw [e] at k
  have xn:=num_lt x
  have rn:=num_lt r
  refine ⟨_,(js1 (jds_ret (jd_cmp o_gt (jd_op o_mul (jd_blt c_abs rfl T.b_abs bt_abs (jac (jd_ix i_any (jdv 0) jdi (fun _ _=>rfl)) jan)) (jd_ix i_any (jdv 1) jdi (fun _ _=>rfl))) (jd_op o_mul (jd_ix i_any (jdv 1) jdi (fun _ _=>rfl)) (jd_ix i_any (jdv 0) jdi (fun _ _=>rfl))) (nomark _)))),?_⟩
  walk_at "sim"
  exact ⟨mulOk _ _ (by rw [Int.natAbs_natCast]; exact xn) (den_lt r) (by omega),mulOk _ _ rn (den_lt x) (by omega),k⟩
theorem ok_over (T:Txt K mg) (d:Df K mg "over" s_over ["one", "other"]) (G_ratio:Fn P w K mg base "ratio" 2 ["top", "bottom"] spLow):Fn P w K mg base "over" 3 ["one", "other"] spOver:=by
  have sc:=sc_over
  refine fn_by d sc (fun ds M R Y h=>?_) (fun f cdv A outer s H E ds M R Y hr h=>?_)
  · obtain ⟨q,r,rfl,_⟩:=h; rfl
  · obtain ⟨q,r,rfl,h0,hz,k⟩:=h
    refine ⟨_,(js1 (jds_ret (jcF G_ratio (hr.mono (by decide)) rfl (jac (jd_op o_mul (jd_ix i_any (jdv 0) jdi (fun _ _=>rfl)) (jd_ix i_any (jdv 1) jdi (fun _ _=>rfl))) (jac (jd_op o_mul (jd_ix i_any (jdv 0) jdi (fun _ _=>rfl)) (jd_ix i_any (jdv 1) jdi (fun _ _=>rfl))) jan))))),?_⟩
    refine ⟨_,rfl,_,rfl,_,rfl,_,rfl,_,_,rfl,rfl,mND hz,_,rfl,_,rfl,_,rfl,_,rfl,_,_,rfl,rfl,mDN hz,_,_,rfl,Int.mul_ne_zero (RM.den_ne q) (num_ne h0),lDN hz,?_⟩
    rw [RM.div_eq] at k
    exact k
theorem ok__law_round (T:Txt K mg) (d:Df K mg "_law_round" s__law_round ["hall", "ray"]) (G__law_parts:Fn P w K mg base "_law_parts" 1 ["hall"] sHParts) (G__law_part:Fn P w K mg base "_law_part" 5 ["part", "ray"] sLedP):Fn P w K mg base "_law_round" 6 ["hall", "ray"] sHRoundW:=by
  have sc:=sc__law_round
  refine fn_by d sc (by walk_at "len") (fun f cdv A outer s H E ds M R Y hr h=>?_)
  have hu:=hr.units
  obtain ⟨near,bs,far,y,u,rfl,⟨hok,S,cd,hS⟩,k⟩:=h
  refine ⟨_,(jsc (jds_forI PassesOwn.never rfl (jpd_seq (jcF G__law_parts (hr.mono (by decide)) rfl (jac (jdv 0) jan))) (jdg_tup (n:=3) rfl (jdgs_cons (jdg_name (i:=2) sc.nd rfl (Or.inl rfl)) (jdgs_cons (jdg_name (i:=3) sc.nd rfl (Or.inl rfl)) (jdgs_cons (jdg_name (i:=4) sc.nd rfl (Or.inl rfl)) jdgs_nil)))) (js1 (jds_set (i:=1) sc.nd rfl (Or.inl rfl) (jcF G__law_part (hr.mono (by decide)) rfl (jac (jdv 4) (jac (jdv 1) jan)))))) (js1 (jds_ret (jdv 1)))),?_⟩
  walk_at "sim"
  refine ⟨hok.len,?_⟩
  refine ForK.by (fun i e M'=>M'=M∧∃ z2 z3 z4:Option D,e=[some (.tup [ratD near,.vl (bs.map partD),ratD far]),some (rayD (outP ((hallL near bs far).take i) (y,u)).1 (outP ((hallL near bs far).take i) (y,u)).2),z2,z3,z4]) ⟨rfl,_,_,_,rfl⟩ (fun i e M' _ _=>by simp only [seqD_vl]) ?_ ?_
  · rintro i dd e M' hd ⟨rfl,z2,z3,z4,rfl⟩
    obtain ⟨w,n,x,rfl,hx⟩:=hall_item hd
    have t2:=(ray_cd (hok.cd i) cd).t2
    have a1:=t2.y
    have a2:=t2.u
    have q2:=hok.szs x (List.mem_of_getElem? hx)
    have o1:=out_take hx (y,u)
    walk_at "sim"
    rw [← o1]
    exact ⟨by omega,_,_,_,rfl⟩
  · rw [hallP_len]
    rintro e M' ⟨rfl,z2,z3,z4,rfl⟩
    rw [List.take_length]
    walk_at "sim"
    exact k
theorem ok__law_same (T:Txt K mg) (d:Df K mg "_law_same" s__law_same ["hall"]) (G__law_round:Fn P w K mg base "_law_round" 6 ["hall", "ray"] sHRoundW):Fn P w K mg base "_law_same" 7 ["hall"] sLwSame:=by
  have sc:=sc__law_same
  refine fn_by d sc (by walk_at "len") (fun f cdv A outer s H E ds M R Y hr h=>?_)
  have hu:=hr.units
  obtain ⟨near,bs,far,rfl,hok,k⟩:=h
  have cd:=hok.cd (hallL near bs far).length
  rw [List.take_length] at cd
  have hdet:=tb_det (hallL near bs far)
  refine ⟨_,(jsc (jds_set (i:=1) sc.nd rfl (Or.inl rfl) (jd_lstV (jac (jd_tup (jac (jd_tup (jac jdi (jac jdi jan))) (jac (jd_tup (jac jdi (jac jdi jan))) jan))) (jac (jd_tup (jac (jd_tup (jac jdi (jac jdi jan))) (jac (jd_tup (jac jdi (jac jdi jan))) jan))) jan)))) (jsc (jds_set (i:=2) sc.nd rfl (Or.inl rfl) (jd_listV rfl T.b_list bt_list (jac (jdv 1) jan))) (jsc (jds_forI PassesOwn.never rfl (jpd_rng2 rfl T.b_range (jac jdi (jac jdi jan))) (jdg_name (i:=3) sc.nd rfl (Or.inl rfl)) (jsc (jds_setCompV (i:=2) [0] ["ray"] ["hall"] sc.nd rfl (Or.inl rfl) rfl (by decide +kernel) rfl (by decide +kernel) (by decide +kernel) rfl (all1 ⟨rfl,rfl⟩) (all1 (Or.inl rfl)) (jpd_seq (jdv 2)) (fun _ _ _ _ _ _=>(jdg_name (i:=0) (show (["ray", "hall"]:List Str).Nodup by decide +kernel) rfl (Or.inl rfl))) (fun _ _ _ _ _ _=>jdifs_nil) (fun _ _ _ _ _ _=>(jcF G__law_round (hr.mono (by decide)) rfl (jac (jdv 1) (jac (jdv 0) jan))))) (js1 (jds_if (jd_tcmp (o_eqC hu) (jdv 2) (jdv 1) (nomark _)) (js1 (jds_ret (jdv 3))) jds_nil)))) (js1 (jds_ret jdi))))),?_⟩
  walk_at "sim"
  refine ⟨⟨by decide,by decide,by decide,by decide⟩,?_⟩
  obtain ⟨m,hm⟩:∃ m,tbQ (hallL near bs far)=m:=⟨_,rfl⟩
  rw [hm] at cd hdet k
  have c1:∀ i,i≤6→CD 1500 (rndK m (1,0) i).1 0 (rndK m (1,0) i).2 0:=fun i hi=>(rnd_cd cd cdA i).mono (by omega)
  have c2:∀ i,i≤6→CD 1500 (rndK m (0,1) i).1 0 (rndK m (0,1) i).2 0:=fun i hi=>(rnd_cd cd cdB i).mono (by omega)
  refine ForK.by (fun i e M'=>M'=M∧(∃ z:Option D,e=[some (D.tup [ratD near,D.vl (List.map partD bs),ratD far]),some (D.vl [D.tup [ratD 1,ratD 0],D.tup [ratD 0,ratD 1]]),some (D.vl [rayD (rndK m (1,0) i).1 (rndK m (1,0) i).2,rayD (rndK m (0,1) i).1 (rndK m (0,1) i).2]),z])∧∀ j,0<j→j≤i→pwQ m j≠(1,0,0,1)) ⟨rfl,⟨_,rfl⟩,fun j h0 h1=>absurd h0 (by omega)⟩ (fun _ _ _ _ _=>trivial) ?_ ?_
  · rintro i dd e M' hd ⟨rfl,⟨z,rfl⟩,hb⟩
    obtain ⟨hi,rfl⟩:=rangeD_of hd
    have hi:i<6:=hi
    have o1:=rnd_out (bs:=hallL near bs far) (1,0) i
    have o2:=rnd_out (bs:=hallL near bs far) (0,1) i
    rw [hm] at o1 o2
    walk_at "sim"
    refine compV_map (xs:=[rndK m (1,0) i,rndK m (0,1) i]) (enc:=fun r=>rayD r.1 r.2) (fun r=>rayD (outP (hallL near bs far) r).1 (outP (hallL near bs far) r).2) (by show 2≤1000; decide) (by simp only [seqD_vl]) (fun r hr Q hQ=>?_) ?_
    · walk_at "sim"
      refine ⟨⟨hok,?_⟩,hQ⟩
      simp only [List.mem_cons,List.not_mem_nil,or_false] at hr
      rcases hr with rfl | rfl
      · exact ⟨_,c1 i (by omega),by decide⟩
      · exact ⟨_,c2 i (by omega),by decide⟩
    · walk_at "sim"
      rw [o1,o2]
      refine ⟨fun he=>?_,fun he=>⟨⟨_,rfl⟩,fun j j0 j1=>?_⟩⟩
      · have h1:=cols_one.mp he
        have h2:=rt_first hdet (by omega) h1 fun j j0 j1=>hb j j0 (by omega)
        rw [h2] at k
        rw [show (1:Int)+(i:Int)=((i+1:Nat):Int) by omega]
        exact k
      · rcases Nat.lt_or_ge i j with z | z
        · have:j=i+1:=by omega
          rw [this]
          exact fun h=>he (cols_one.mpr h)
        · exact hb j j0 z
  · rintro e M' ⟨rfl,⟨z,rfl⟩,hb⟩
    rw [rangeD_length] at hb
    have h2:=rt_none6 hdet fun j j0 j1=>hb j j0 j1
    rw [h2] at k
    walk_at "sim"
    exact k
theorem ok__law_turning (T:Txt K mg) (d:Df K mg "_law_turning" s__law_turning ["hall", "t"]) (G__law_same:Fn P w K mg base "_law_same" 7 ["hall"] sLwSame) (G_less:Fn P w K mg base "less" 1 ["one", "other"] spLess):Fn P w K mg base "_law_turning" 8 ["hall", "t"] sLwTurn:=by
  have sc:=sc__law_turning
  refine fn_by d sc (by walk_at "len") (fun f cdv A outer s H E ds M R Y hr h=>?_)
  have hu:=hr.units
  obtain ⟨near,bs,far,t,rfl,⟨hok,ht⟩,k⟩:=h
  have cL:=hok.cd (hallL near bs far).length
  rw [List.take_length] at cL
  have zt:sz (trQ (tbQ (hallL near bs far)))≤231:=CD.tr cL
  rw [← ht] at zt
  have s2:sz (2:Rat)≤2:=by decide +kernel
  have s3:sz (-2:Rat)≤2:=by rw [RM.sz_neg]; exact s2
  refine ⟨_,(js1 (jds_ret (jd_vand (jcF G_less (hr.mono (by decide)) rfl (jac (jd_tup (jac (jd_neg jdi) (jac jdi jan))) (jac (jdv 1) jan))) (jd_vand (jcF G_less (hr.mono (by decide)) rfl (jac (jdv 1) (jac (jd_tup (jac jdi (jac jdi jan))) jan))) (jd_vone (jd_cmp o_eqI (jcF G__law_same (hr.mono (by decide)) rfl (jac (jdv 0) jan)) jdi (nomark _))))))),?_⟩
  walk_at "sim"
  refine ⟨by omega,fun h1=>⟨by omega,fun h2=>⟨hok,?_⟩,fun h2=>?_⟩,fun h1=>?_⟩
  · rw [show decide ((rtN (tbQ (hallL near bs far)):Int)=0)=decide (absQ t<2∧rtN (tbQ (hallL near bs far))=0) from decide_eq_decide.mpr ⟨fun e=>⟨abs_lt2.mpr ⟨h1,h2⟩,by omega⟩,fun e=>by omega⟩]
    exact k
  · rw [show decide (absQ t<2∧rtN (tbQ (hallL near bs far))=0)=false from decide_eq_false fun e=>h2 (abs_lt2.mp e.1).2] at k
    exact k
  · rw [show decide (absQ t<2∧rtN (tbQ (hallL near bs far))=0)=false from decide_eq_false fun e=>h1 (abs_lt2.mp e.1).1] at k
    exact k
theorem ok__law_reach (T:Txt K mg) (d:Df K mg "_law_reach" s__law_reach ["t", "x", "further"]) (G_over:Fn P w K mg base "over" 3 ["one", "other"] spOver) (G_minus:Fn P w K mg base "minus" 4 ["one", "other"] spMinus) (G_times:Fn P w K mg base "times" 3 ["one", "other"] spTimes) (G_plus:Fn P w K mg base "plus" 3 ["one", "other"] spPlus):Fn P w K mg base "_law_reach" 5 ["t", "x", "further"] sLwReach:=by
  have sc:=sc__law_reach
  refine fn_by d sc (by walk_at "len") (fun f cdv A outer s H E ds M R Y hr h=>?_)
  have hu:=hr.units
  obtain ⟨t,x,f',rfl,⟨ht,hx,hf,t1,t2⟩,k⟩:=h
  have h4:=t_lt4 t1 t2
  have m1:=RM.sz_mul x x
  have m2:=RM.sz_mul x f'
  have m3:=RM.sz_mul t (x*f')
  have m4:=RM.sz_sub (x*x) (t*(x*f'))
  have m5:=RM.sz_mul f' f'
  have m6:=RM.sz_add (x*x - t*(x*f')) (f'*f')
  have m7:=RM.sz_mul 4 (x*x - t*(x*f')+f'*f')
  have m8:=RM.sz_mul t t
  have m9:=RM.sz_sub 4 (t*t)
  have s4:sz (4:Rat)≤3:=by decide +kernel
  refine ⟨_,(jsc (jds_set (i:=3) sc.nd rfl (Or.inl rfl) (jcF G_plus (hr.mono (by decide)) rfl (jac (jcF G_minus (hr.mono (by decide)) rfl (jac (jcF G_times (hr.mono (by decide)) rfl (jac (jdv 1) (jac (jdv 1) jan))) (jac (jcF G_times (hr.mono (by decide)) rfl (jac (jdv 0) (jac (jcF G_times (hr.mono (by decide)) rfl (jac (jdv 1) (jac (jdv 2) jan))) jan))) jan))) (jac (jcF G_times (hr.mono (by decide)) rfl (jac (jdv 2) (jac (jdv 2) jan))) jan)))) (js1 (jds_ret (jcF G_over (hr.mono (by decide)) rfl (jac (jcF G_times (hr.mono (by decide)) rfl (jac (jd_tup (jac jdi (jac jdi jan))) (jac (jdv 3) jan))) (jac (jcF G_minus (hr.mono (by decide)) rfl (jac (jd_tup (jac jdi (jac jdi jan))) (jac (jcF G_times (hr.mono (by decide)) rfl (jac (jdv 0) (jac (jdv 0) jan))) jan))) jan)))))),?_⟩
  walk_at "sim"
  exact ⟨by omega,by omega,by omega,by omega,by omega,by omega,by omega,by omega,by omega,fun z=>by rw [z] at h4; exact absurd h4 (by decide),by omega,k⟩
theorem ok__law_numbers (T:Txt K mg) (d:Df K mg "_law_numbers" s__law_numbers ["hall", "ray"]) (G__law_lines:Fn P w K mg base "_law_lines" 6 ["hall"] sLwLines) (G_plus:Fn P w K mg base "plus" 3 ["one", "other"] spPlus) (G_times:Fn P w K mg base "times" 3 ["one", "other"] spTimes) (G__law_round:Fn P w K mg base "_law_round" 6 ["hall", "ray"] sHRoundW):Fn P w K mg base "_law_numbers" 7 ["hall", "ray"] sLwNums:=by
  have sc:=sc__law_numbers
  refine fn_by d sc (by walk_at "len") (fun f cdv A outer s H E ds M R Y hr h=>?_)
  have hu:=hr.units
  obtain ⟨near,bs,far,y,u,rfl,⟨hok,cd⟩,k⟩:=h
  have cL:=hok.cd (hallL near bs far).length
  rw [List.take_length] at cL
  have ray:=(ray_cd cL cd).t2
  have r1:=ray.y
  have r2:=ray.u
  have ty:=cd.t2.y
  have tu:=cd.t2.u
  have hl:=hok.len
  have hl2:=hall_len near far bs
  have sl:=stpL_len (hallL near bs far) (hallL near bs far).length
  have hz:=stpL_sz hok.cd (hallL near bs far).length
  refine ⟨_,(jsc (jds_set (i:=2) sc.nd rfl (Or.inl rfl) (jcF G__law_round (hr.mono (by decide)) rfl (jac (jdv 0) (jac (jdv 1) jan)))) (jsc (jds_set (i:=3) sc.nd rfl (Or.inl rfl) (jd_lst jan)) (jsc (jds_forI PassesOwn.never rfl (jpd_seq (jcF G__law_lines (hr.mono (by decide)) rfl (jac (jdv 0) jan))) (jdg_tup (n:=3) rfl (jdgs_cons (jdg_name (i:=4) sc.nd rfl (Or.inl rfl)) (jdgs_cons (jdg_name (i:=5) sc.nd rfl (Or.inl rfl)) (jdgs_cons (jdg_tup (n:=3) rfl (jdgs_cons (jdg_name (i:=6) sc.nd rfl (Or.inl rfl)) (jdgs_cons (jdg_name (i:=7) sc.nd rfl (Or.inl rfl)) (jdgs_cons (jdg_name (i:=8) sc.nd rfl (Or.inl rfl)) jdgs_nil)))) jdgs_nil)))) (jsc (jds_set (i:=9) sc.nd rfl (Or.inl rfl) (jcF G_plus (hr.mono (by decide)) rfl (jac (jcF G_times (hr.mono (by decide)) rfl (jac (jdv 6) (jac (jd_ix i_any (jdv 1) jdi (fun _ _=>rfl)) jan))) (jac (jcF G_times (hr.mono (by decide)) rfl (jac (jdv 7) (jac (jd_ix i_any (jdv 1) jdi (fun _ _=>rfl)) jan))) jan)))) (js1 (jds_expr (jd_lm PySem.F.slot_list_append PySem.F.type_list_append dm_append (jdv 3) (jac (jd_tup (jac (jdv 9) (jac (jcF G_plus (hr.mono (by decide)) rfl (jac (jcF G_times (hr.mono (by decide)) rfl (jac (jdv 6) (jac (jd_ix i_any (jdv 2) jdi (fun _ _=>rfl)) jan))) (jac (jcF G_times (hr.mono (by decide)) rfl (jac (jdv 7) (jac (jd_ix i_any (jdv 2) jdi (fun _ _=>rfl)) jan))) jan))) (jac (jdv 8) jan)))) jan)))))) (js1 (jds_ret (jd_fgt (jd_frz (jdv 3)))))))),?_⟩
  walk_at "sim"
  refine ⟨⟨hok,_,cd,by decide⟩,fun p hp=>⟨hok,?_⟩⟩
  refine ForK.by (fun i e M'=>∃ z4 z5 z6 z7 z8 z9:Option D,e=[some (D.tup [ratD near,D.vl (List.map partD bs),ratD far]),some (rayD y u),some (rayD (outP (hallL near bs far) (y,u)).1 (outP (hallL near bs far) (y,u)).2),some (D.ref p),z4,z5,z6,z7,z8,z9]∧M'=updM M p (.lst (((stpL (hallL near bs far) (hallL near bs far).length).take i).map (numD3 (hallL near bs far) y u)))) ⟨_,_,_,_,_,_,rfl,rfl⟩ (fun i e M' _ _=>by simp only [seqD_vl]) ?_ ?_
  · rintro i dd e M' hd ⟨z4,z5,z6,z7,z8,z9,rfl,rfl⟩
    obtain ⟨w0,l,rfl,hli⟩:=hl_item hd
    rw [hallT_L,hallT_len] at hli
    obtain ⟨s1,s2⟩:=hz l (List.mem_of_getElem? hli)
    have hi:=(List.getElem?_eq_some_iff.mp hli).1
    have m1:=RM.sz_mul l.1 y
    have m2:=RM.sz_mul l.2.1 u
    have m3:=RM.sz_mul l.1 (outP (hallL near bs far) (y,u)).1
    have m4:=RM.sz_mul l.2.1 (outP (hallL near bs far) (y,u)).2
    have tk:(stpL (hallL near bs far) (hallL near bs far).length).take (i+1)=(stpL (hallL near bs far) (hallL near bs far).length).take i++[l]:=by rw [List.take_add_one,hli]; rfl
    unfold hlD lineD
    walk_at "sim"
    refine ⟨by omega,by omega,by omega,LMK_of updM_same ⟨by omega,by omega,by omega,App_of updM_same (by rw [List.length_map,List.length_take]; omega) ⟨_,_,_,_,_,_,rfl,?_⟩⟩⟩
    rw [updM_upd,tk,List.map_append]; rfl
  · rintro e M' ⟨z4,z5,z6,z7,z8,z9,rfl,rfl⟩
    rw [hl_len,hallT_L,hallT_len,List.take_length]
    walk_at "sim"
    rw [z_FrzK updM_same,delM_upd hp]
    exact Fgt_of (M2:=M) (fun _ _ h=>h) k
theorem ok__law_t (T:Txt K mg) (d:Df K mg "_law_t" s__law_t ["hall"]) (G_plus:Fn P w K mg base "plus" 3 ["one", "other"] spPlus) (G__law_round:Fn P w K mg base "_law_round" 6 ["hall", "ray"] sHRoundW):Fn P w K mg base "_law_t" 7 ["hall"] sLwT:=by
  have sc:=sc__law_t
  refine fn_by d sc (by walk_at "len") (fun f cdv A outer s H E ds M R Y hr h=>?_)
  have hu:=hr.units
  obtain ⟨near,bs,far,rfl,hok,k⟩:=h
  have cL:=hok.cd (hallL near bs far).length
  rw [List.take_length] at cL
  have t4:=CD.t4 cL
  have z3:sz (outP (hallL near bs far) (1,0)).1≤230:=t4.a
  have z6:sz (outP (hallL near bs far) (0,1)).2≤230:=t4.d
  refine ⟨_,(jsc (jds_set (i:=1) sc.nd rfl (Or.inl rfl) (jcF G__law_round (hr.mono (by decide)) rfl (jac (jdv 0) (jac (jd_tup (jac (jd_tup (jac jdi (jac jdi jan))) (jac (jd_tup (jac jdi (jac jdi jan))) jan))) jan)))) (jsc (jds_set (i:=2) sc.nd rfl (Or.inl rfl) (jcF G__law_round (hr.mono (by decide)) rfl (jac (jdv 0) (jac (jd_tup (jac (jd_tup (jac jdi (jac jdi jan))) (jac (jd_tup (jac jdi (jac jdi jan))) jan))) jan)))) (js1 (jds_ret (jcF G_plus (hr.mono (by decide)) rfl (jac (jd_ix i_any (jdv 1) jdi (fun _ _=>rfl)) (jac (jd_ix i_any (jdv 2) jdi (fun _ _=>rfl)) jan))))))),?_⟩
  walk_at "sim"
  exact ⟨⟨hok,_,cdA,by decide⟩,⟨hok,_,cdB,by decide⟩,by omega,k⟩
theorem ok__law_late_shown (T:Txt K mg) (d:Df K mg "_law_late_shown" s__law_late_shown ["hall", "ray", "k"]) (G__law_beyond:Fn P w K mg base "_law_beyond" 1 ["x", "r"] sLwBey) (G_plus:Fn P w K mg base "plus" 3 ["one", "other"] spPlus) (G_over:Fn P w K mg base "over" 3 ["one", "other"] spOver) (G_minus:Fn P w K mg base "minus" 4 ["one", "other"] spMinus) (G__law_turning:Fn P w K mg base "_law_turning" 8 ["hall", "t"] sLwTurn) (G_less__2:Fn P w K mg base "less" 1 ["one", "other"] sLessP) (G__law_reach:Fn P w K mg base "_law_reach" 5 ["t", "x", "further"] sLwReach) (G_times:Fn P w K mg base "times" 3 ["one", "other"] spTimes) (G__law_same:Fn P w K mg base "_law_same" 7 ["hall"] sLwSame) (G__law_numbers:Fn P w K mg base "_law_numbers" 7 ["hall", "ray"] sLwNums) (G__law_t:Fn P w K mg base "_law_t" 7 ["hall"] sLwT):Fn P w K mg base "_law_late_shown" 9 ["hall", "ray", "k"] sLwLate:=by
  have sc:=sc__law_late_shown
  refine fn_by d sc (by walk_at "len") (fun f cdv A outer s H E ds M R Y hr h=>?_)
  have hu:=hr.units
  obtain ⟨near,bs,far,y,u,n,rfl,⟨hok,cd⟩,l,hl,k⟩:=h
  have cL:=hok.cd (hallL near bs far).length
  rw [List.take_length] at cL
  have zt:sz (trQ (tbQ (hallL near bs far)))≤231:=CD.tr cL
  obtain ⟨_,⟨zr,r0⟩,zx,zf⟩:=hok.line cd (List.mem_of_getElem? hl)
  have rz:rtN (tbQ (hallL near bs far))=0 ↔ ¬ sameP (tbQ (hallL near bs far)):=⟨fun e hs=>by
    obtain ⟨n0,e1,e2,_⟩:=rts_pw (tb_det _) hs
    rw [rt_rts _ hs] at e1
    injection e1 with e1
    omega,rt_zero⟩
  refine ⟨_,(jsc (jds_set (i:=3) sc.nd rfl (Or.inl rfl) (jcF G__law_t (hr.mono (by decide)) rfl (jac (jdv 0) jan))) (jsc (jds_asg (jd_ix i_any (jcF G__law_numbers (hr.mono (by decide)) rfl (jac (jdv 0) (jac (jdv 1) jan))) (jdv 2) (fun _ _=>rfl)) (jdg_tup (n:=3) rfl (jdgs_cons (jdg_name (i:=4) sc.nd rfl (Or.inl rfl)) (jdgs_cons (jdg_name (i:=5) sc.nd rfl (Or.inl rfl)) (jdgs_cons (jdg_name (i:=6) sc.nd rfl (Or.inl rfl)) jdgs_nil))))) (jsc (jds_if (jd_tcmp o_gt (jcF G__law_same (hr.mono (by decide)) rfl (jac (jdv 0) jan)) jdi (nomark _)) (js1 (jds_ret jd_bl)) jds_nil) (jsc (jds_if (jd_tval (jcF G__law_turning (hr.mono (by decide)) rfl (jac (jdv 0) (jac (jdv 3) jan)))) (js1 (jds_ret (jcF G_less__2 (hr.mono (by decide)) rfl (jac (jcF G_times (hr.mono (by decide)) rfl (jac (jdv 6) (jac (jdv 6) jan))) (jac (jcF G__law_reach (hr.mono (by decide)) rfl (jac (jdv 3) (jac (jdv 4) (jac (jdv 5) jan)))) jan))))) jds_nil) (jsc (jds_if (jd_tcmp (o_eqC hu) (jdv 3) (jd_tup (jac jdi (jac jdi jan))) (nomark _)) (js1 (jds_ret (jd_cmp (o_neC hu) (jdv 5) (jdv 4) (nomark _)))) jds_nil) (jsc (jds_if (jd_tcmp (o_eqC hu) (jdv 3) (jd_tup (jac (jd_neg jdi) (jac jdi jan))) (nomark _)) (js1 (jds_ret (jd_cmp (o_neC hu) (jdv 5) (jcF G_minus (hr.mono (by decide)) rfl (jac (jd_tup (jac jdi (jac jdi jan))) (jac (jdv 4) jan))) (nomark _)))) jds_nil) (jsc (jds_if (jd_tcmp (o_eqC hu) (jdv 4) (jd_tup (jac jdi (jac jdi jan))) (nomark _)) (js1 (jds_ret (jd_cmp (o_neC hu) (jdv 5) (jd_tup (jac jdi (jac jdi jan))) (nomark _)))) jds_nil) (jsc (jds_set (i:=7) sc.nd rfl (Or.inl rfl) (jcF G_over (hr.mono (by decide)) rfl (jac (jdv 5) (jac (jdv 4) jan)))) (jsc (jds_set (i:=8) sc.nd rfl (Or.inl rfl) (jd_vand (jd_cmp (o_neC hu) (jdv 7) (jd_tup (jac jdi (jac jdi jan))) (nomark _)) (jd_vand (jd_vnot (jcF G__law_beyond (hr.mono (by decide)) rfl (jac (jdv 7) (jac (jd_tup (jac jdi (jac jdi jan))) jan)))) (jd_vone (jd_cmp (o_eqC hu) (jcF G_plus (hr.mono (by decide)) rfl (jac (jdv 7) (jac (jcF G_over (hr.mono (by decide)) rfl (jac (jd_tup (jac jdi (jac jdi jan))) (jac (jdv 7) jan))) jan))) (jdv 3) (nomark _)))))) (js1 (jds_ret (jd_vor (jd_vnot (jdv 8)) (jd_vone (jcF G__law_beyond (hr.mono (by decide)) rfl (jac (jdv 4) (jac (jdv 6) jan)))))))))))))))),?_⟩
  walk_at "sim"
  refine ⟨hok,⟨hok,cd⟩,numD3 (hallL near bs far) y u l,atI_lit (n:=n) (by rw [List.getElem?_map,hl]; rfl),?_⟩
  unfold numD3
  generalize l.1*y+l.2.1*u=x at *
  generalize l.1*(outP (hallL near bs far) (y,u)).1+l.2.1*(outP (hallL near bs far) (y,u)).2=f1 at *
  generalize l.2.2=r at *
  walk_at "sim"
  generalize tbQ (hallL near bs far)=m at *
  have zrr:=RM.sz_mul r r
  have s0:sz (0:Rat)≤1:=by rw [RM.sz_zero]; decide
  have s1:sz (1:Rat)=1:=RM.sz_one
  refine ⟨hok,fun h0=>?_,fun h0=>⟨hok,fun h1=>?_,fun h1=>?_⟩⟩
  · have hs:sameP m:=Classical.byContradiction fun z=>by rw [rz.mpr z] at h0; exact absurd h0 (by decide)
    unfold lateB at k
    rw [if_pos hs] at k
    exact k
  · have hs:¬ sameP m:=rz.mp h1.2
    obtain ⟨t1,t2⟩:=abs_lt2.mp h1.1
    have rs:=rch_sz zt zx zf t1 t2
    unfold lateB at k
    rw [if_neg hs,if_pos h1.1] at k
    refine ⟨by omega,⟨zt,zx,zf,t1,t2⟩,r*r,(rchQ (trQ m) x f1).num,((rchQ (trQ m) x f1).den:Int),rfl,⟨by have:=(rchQ (trQ m) x f1).den_pos; omega,by omega,by rw [Int.natAbs_natCast]; exact den_lt' _ (by omega),num_lt' _ (by omega)⟩,?_⟩
    rw [Rat.num_divInt_den]; exact k
  · have hs:¬ sameP m:=rz.mp (by omega)
    have h3:¬ absQ (trQ m)<2:=fun z=>h1 ⟨z,rz.mpr hs⟩
    refine ⟨fun ht=>?_,fun ht=>⟨fun ht2=>⟨by omega,?_⟩,fun ht2=>?_⟩⟩
    · rw [late_two hs ht] at k; exact k
    · rw [late_mtwo hs ht2] at k; exact k
    · have h2:=abs_ne2 ht ht2
      refine ⟨fun hx=>?_,fun hx=>⟨hx,by omega,?_⟩⟩
      · rw [hx,late_nought hs h3 h2 r0] at k; exact k
      · have d1:=RM.sz_div f1 x hx
        refine ⟨fun hp=>⟨by omega,fun hb=>?_,fun hb=>?_⟩,fun hp=>?_⟩
        · have d2:=RM.sz_div 1 (f1 / x) hp
          refine ⟨hp,by omega,by omega,fun he=>?_,fun he=>⟨by omega,?_⟩⟩
          · rw [late_great hs h3 h2 hx (.inr (.inr he))] at k; exact k
          · rw [late_kept hs h3 h2 hx hp hb he] at k; exact k
        · rw [late_great hs h3 h2 hx (.inr (.inl hb))] at k; exact k
        · rw [late_great hs h3 h2 hx (.inl hp)] at k; exact k
theorem ok__law_next (T:Txt K mg) (d:Df K mg "_law_next" s__law_next ["pool", "base"]):Fn P w K mg base "_law_next" 1 ["pool", "base"] spNext:=by
  have sc:=sc__law_next
  refine fn_by d sc (fun ds M R Y h=>?_) (fun f cdv A outer s H E ds M R Y hr h=>?_)
  · obtain ⟨p,b,rfl,_⟩:=h; rfl
  · obtain ⟨p,b,rfl,⟨x,y,z,hM⟩,hb,hl,k⟩:=h
    refine ⟨_,(jsc (jds_if (jd_tcmp o_gt (jd_ix i_any (jdv 0) jdi (fun _ _=>rfl)) jdi (nomark _)) (jsc (jds_set (i:=2) sc.nd rfl (Or.inl rfl) (jd_op o_mod (jd_ix i_any (jdv 0) jdi (fun _ _=>rfl)) (jdv 1))) (jsc (jds_asg (jd_op o_fdiv (jd_ix i_any (jdv 0) jdi (fun _ _=>rfl)) (jdv 1)) (jdg_sub (jdv 0) jdi)) (js1 (jds_ret (jdv 2))))) jds_nil) (jsc (jds_asg (jd_op o_add (jd_ix i_any (jdv 0) jdi (fun _ _=>rfl)) jdi) (jdg_sub (jdv 0) jdi)) (jsc (jds_set (i:=3) sc.nd rfl (Or.inl rfl) (jd_op o_mod (jd_op o_add (jd_ix i_any (jdv 0) jdi (fun _ _=>rfl)) (jd_op o_mul jdi (jd_ix i_any (jdv 0) jdi (fun _ _=>rfl)))) jdi)) (jsc (jds_set (i:=4) sc.nd rfl (Or.inl rfl) (jd_op o_mod (jd_op o_mul (jd_op o_add (jdv 3) jdi) (jd_op o_add (jdv 3) jdi)) jdi)) (js1 (jds_ret (jd_op o_mod (jd_op o_fdiv (jd_op o_mod (jd_op o_mul (jdv 4) (jdv 4)) jdi) jdi) (jdv 1)))))))),?_⟩
    refine ⟨_,rfl,_,ixD_lst hM rfl,_,rfl,_,rfl,?_⟩
    refine iteD (fun h0=>?_) (fun h0=>?_)
    · refine ⟨_,rfl,_,ixD_lst hM rfl,_,rfl,_,_,rfl,rfl,hb,?_⟩
      refine ⟨_,rfl,_,ixD_lst hM rfl,_,rfl,_,_,rfl,rfl,⟨by omega,hl⟩,_,rfl,_,_,_,_,rfl,rfl,hM,rfl,?_⟩
      exact ⟨_,rfl,k _ _ (Int.emod_nonneg _ (by omega)) (Int.emod_lt_of_pos _ hb) (PStep.upd _ _ _)⟩
    · refine ⟨_,rfl,_,ixD_lst hM rfl,_,rfl,_,rfl,_,_,_,_,rfl,rfl,hM,rfl,?_⟩
      refine ⟨_,rfl,_,ixD_lst updM_same rfl,_,rfl,_,ixD_lst updM_same rfl,_,_,rfl,rfl,m64l (by decide) (by decide),_,rfl,_,_,rfl,rfl,(by show (0:Int)<1000000007; decide),?_⟩
      refine ⟨_,rfl,_,rfl,_,rfl,_,rfl,_,_,rfl,rfl,mmod (by decide) (by decide) (by decide) (by decide),_,_,rfl,rfl,(by show (0:Int)<998244353; decide),?_⟩
      refine ⟨_,rfl,_,rfl,_,_,rfl,rfl,mmod0 (by decide) (by decide),_,_,rfl,rfl,(by show (0:Int)<2147483647; decide),_,_,rfl,rfl,cfd8,_,rfl,_,_,rfl,rfl,hb,?_⟩
      exact k _ _ (Int.emod_nonneg _ (by omega)) (Int.emod_lt_of_pos _ hb) (PStep.upd _ _ _)
theorem ok__law_whole_root (T:Txt K mg) (d:Df K mg "_law_whole_root" s__law_whole_root ["number"])  : Fn P w K mg base "_law_whole_root" 1 ["number"] sWhRoot:=by
  have sc:=sc__law_whole_root
  refine fn_by d sc (by walk_at "len") (fun f cdv A outer s H E ds M R Y hr h=>?_)
  have hu:=hr.units
  obtain ⟨N,rfl,hn,k⟩:=h
  refine ⟨_,(jsc (jds_par (i:=1) (j:=2) rfl sc.nd rfl rfl (by decide) rfl rfl (jac jdi (jac (jd_op o_add (jdv 0) jdi) jan))) (jsc (jds_while PassesOwn.never (jd_tcmp o_gt (jd_op o_sub (jdv 2) (jdv 1)) jdi (nomark _)) (jsc (jds_set (i:=3) sc.nd rfl (Or.inl rfl) (jd_op o_fdiv (jd_op o_add (jdv 1) (jdv 2)) jdi)) (js1 (jds_if (jd_tcmp o_le (jd_op o_mul (jdv 3) (jdv 3)) (jdv 0) (nomark _)) (js1 (jds_set (i:=1) sc.nd rfl (Or.inl rfl) (jdv 3))) (js1 (jds_set (i:=2) sc.nd rfl (Or.inl rfl) (jdv 3))))))) (js1 (jds_ret (jdv 1))))),?_⟩
  walk_at "sim"
  refine WhileBy (fun m e M'=>M=M'∧∃ (lo hi:Nat) (z3:Option D),m=hi - lo∧e=[some (D.int (N:Int)),some (D.int (lo:Int)),some (D.int (hi:Int)),z3]∧lo*lo≤N∧N<hi*hi∧lo<hi∧hi≤N+1) (N+1) ⟨rfl,0,N+1,_,by omega,rfl,by omega,by rw [Nat.add_mul,Nat.mul_add]; omega,by omega,by omega⟩ ?_
  rintro m e M' ⟨rfl,lo,hi,z3,rfl,rfl,h1,h2,h3,h4⟩
  walk_at "sim"
  have em:((lo:Int)+(hi:Int)).fdiv 2=(((lo+hi) / 2:Nat):Int):=by rw [fdiv_nn (by omega) (by decide)]; omega
  refine ⟨fun h0=>⟨cfd2,?_⟩,fun h0=>?_⟩
  · rw [em]
    have hm:(lo+hi) / 2≤N:=by omega
    have hmz:(((lo+hi) / 2:Nat):Int).natAbs<2 ^ 20000:=by rw [Int.natAbs_natCast]; exact Nat.lt_of_le_of_lt hm hn
    have hlm:lo<(lo+hi) / 2:=by omega
    have hmh:(lo+hi) / 2<hi:=by omega
    generalize (lo+hi) / 2=md at *
    refine ⟨mulOk _ _ hmz hmz (by decide),fun h5=>⟨hi - md,by omega,md,hi,_,rfl,rfl,by exact_mod_cast h5,h2,hmh,h4⟩,fun h5=>⟨md - lo,by omega,lo,md,_,rfl,rfl,h1,?_,hlm,by omega⟩⟩
    have:¬ md*md≤N:=fun z=>h5 (by exact_mod_cast z)
    omega
  · have:hi=lo+1:=by omega
    subst this
    exact k lo h1 h2
theorem ok_reach (T:Txt K mg) (d:Df K mg "reach" s_reach ["hall", "ray", "p", "q"]) (G_ratio:Fn P w K mg base "ratio" 2 ["top", "bottom"] spLow) (G_reach_by:Fn P w K mg base "reach_by" 4 ["t", "x", "later"] sRchE) (G_number_of:Fn P w K mg base "number_of" 4 ["p", "q", "ray"] sNumOf) (G_led:Fn P w K mg base "led" 4 ["table", "ray"] sLed) (G_t_of:Fn P w K mg base "t_of" 4 ["table"] sTof) (G_round_of:Fn P w K mg base "round_of" 7 ["hall"] sRndW):Fn P w K mg base "reach" 8 ["hall", "ray", "p", "q"] sReachE:=by
  have sc:=sc_reach
  refine fn_by d sc (by walk_at "len") (fun f cdv A outer s H E ds M R Y hr h=>?_)
  have hu:=hr.units
  obtain ⟨x0,near,bs,far,y,u,p,q,rfl,hx0,⟨hok,cdr,⟨hp,hq⟩,zx,zf,t1,t2⟩,k⟩:=h
  have cd:=hok.cd (hallL near bs far).length
  rw [List.take_length] at cd
  have l:=out_lin (hallL near bs far) y u
  have e1:(outP (hallL near bs far) (1,0)).1=(tbQ (hallL near bs far)).1:=rfl
  have e2:(outP (hallL near bs far) (0,1)).1=(tbQ (hallL near bs far)).2.1:=rfl
  have e3:(outP (hallL near bs far) (1,0)).2=(tbQ (hallL near bs far)).2.2.1:=rfl
  have e4:(outP (hallL near bs far) (0,1)).2=(tbQ (hallL near bs far)).2.2.2:=rfl
  rw [e1,e2,e3,e4] at l
  rw [l.1,l.2] at k zf
  have r1:=(ray_cd cd cdr).t2.y
  have r2:=(ray_cd cd cdr).t2.u
  rw [l.1] at r1
  rw [l.2] at r2
  have ty:=cdr.t2.y
  have tu:=cdr.t2.u
  rcases hx0 with rfl | rfl
  all_goals
    refine ⟨_,(jsc (jds_set (i:=4) sc.nd rfl (Or.inl rfl) (jcF G_round_of (hr.mono (by decide)) rfl (jac (jdv 0) jan))) (jsc (jds_asg (jcF G_reach_by (hr.mono (by decide)) rfl (jac (jcF G_t_of (hr.mono (by decide)) rfl (jac (jdv 4) jan)) (jac (jcF G_number_of (hr.mono (by decide)) rfl (jac (jdv 2) (jac (jdv 3) (jac (jdv 1) jan)))) (jac (jcF G_number_of (hr.mono (by decide)) rfl (jac (jdv 2) (jac (jdv 3) (jac (jcF G_led (hr.mono (by decide)) rfl (jac (jdv 4) (jac (jdv 1) jan))) jan)))) jan)))) (jdg_tup (n:=2) rfl (jdgs_cons (jdg_name (i:=5) sc.nd rfl (Or.inl rfl)) (jdgs_cons (jdg_name (i:=6) sc.nd rfl (Or.inl rfl)) jdgs_nil)))) (js1 (jds_ret (jcF G_ratio (hr.mono (by decide)) rfl (jac (jdv 5) (jac (jdv 6) jan))))))),?_⟩
    walk_at "sim"
    refine ⟨hok,?_⟩
    generalize tbQ (hallL near bs far)=m at *
    obtain ⟨a,b,c,d⟩:=m
    have t4:=CD.t4 cd
    have za:sz a≤230:=t4.a
    have zb:sz b≤230:=t4.b
    have zc:sz c≤230:=t4.c
    have zd:sz d≤230:=t4.d
    have zt:sz (trQ (a,b,c,d))≤231:=CD.tr cd
    refine ⟨(a,b,c,d),rfl,cd,by omega,?_⟩
    rw [show tabQ (a,b,c,d)=tabD a b c d from rfl]
    have r1:sz (a*y+b*u)≤230+1000+1:=r1
    have r2:sz (c*y+d*u)≤230+1000+1:=r2
    have zf:sz (p*(a*y+b*u)+q*(c*y+d*u))≤1462:=zf
    walk_at "sim"
    refine ⟨by omega,by omega,by omega,⟨zt,t1,t2,by omega⟩,fun T B b0 bB bT eT=>?_⟩
    walk_at "sim"
    rw [eT]
    exact ⟨by omega,Nat.lt_of_lt_of_le (log_lt bB (by decide)) (by decide),k⟩
theorem ok_floor_root (T:Txt K mg) (d:Df K mg "floor_root" s_floor_root ["number"]):Fn P w K mg base "floor_root" 1 ["number"] spFloorRoot:=by
  have sc:=sc_floor_root
  refine fn_by d sc (fun ds M R Y h=>?_) (fun f cdv A outer s H E ds M R Y hr h=>?_)
  · obtain ⟨n,rfl,_⟩:=h; rfl
  · obtain ⟨n,rfl,hl,k⟩:=h
    refine ⟨_,(jsc (jds_if (jd_tcmp o_eqI (jdv 0) jdi (nomark _)) (js1 (jds_ret jdi)) jds_nil) (jsc (jds_set (i:=1) sc.nd rfl (Or.inl rfl) jdi) (jsc (jds_forI PassesOwn.never rfl (jpd_rng rfl T.b_range (jac (jd_op o_fdiv (jd_op o_add (jd_bits (jdv 0)) jdi) jdi) jan)) (jdg_name (i:=2) sc.nd rfl (Or.inl rfl)) (js1 (jds_set (i:=1) sc.nd rfl (Or.inl rfl) (jd_op o_mul (jdv 1) jdi)))) (jsc (jds_set (i:=3) sc.nd rfl (Or.inl rfl) (jd_op o_fdiv (jd_op o_add (jdv 1) (jd_op o_fdiv (jdv 0) (jdv 1))) jdi)) (jsc (jds_while PassesOwn.never (jd_tcmp o_lt (jdv 3) (jdv 1) (nomark _)) (jsc (jds_set (i:=1) sc.nd rfl (Or.inl rfl) (jdv 3)) (js1 (jds_set (i:=3) sc.nd rfl (Or.inl rfl) (jd_op o_fdiv (jd_op o_add (jdv 1) (jd_op o_fdiv (jdv 0) (jdv 1))) jdi))))) (js1 (jds_ret (jdv 1)))))))),?_⟩
    refine ⟨_,rfl,_,rfl,_,rfl,?_⟩
    refine iteD (fun h0=>?_) (fun h0=>?_)
    · have hn:n=0:=by omega
      subst hn
      exact k 0 (by decide) (by decide)
    · have hn:0<n:=by omega
      have hlt:=lt_of_log hl
      have hbe:Builtin.Int.intBits (n:Int)=n.log2+1:=by
        unfold Builtin.Int.intBits
        rw [if_neg (by first | omega | simp; omega)]
        simp
      have e2:(((Builtin.Int.intBits (n:Int):Nat):Int)+1).fdiv 2=(((n.log2+2) / 2:Nat):Int):=by
        rw [hbe,fdiv_nn (by omega) (by decide)]; omega
      refine ⟨_,rfl,_,rfl,_,rfl,_,_,rfl,rfl,cfd2,_,rfl,by rw [e2]; omega,by rw [e2]; omega,?_⟩
      refine ⟨fun i e M'=>M'=M∧∃ t:Option D,e=[some (.int n),some (.int ((2 ^ i:Nat):Int)),t,none],⟨rfl,none,rfl⟩,fun _ _ _ _ _=>trivial,?_,?_⟩
      · rintro i dd e M' hd ⟨rfl,t,rfl⟩
        have e:(((2 ^ i:Nat):Int)*2)=((2 ^ (i+1):Nat):Int):=by rw [Nat.pow_succ]; omega
        exact ⟨_,rfl,_,_,rfl,rfl,m64r (by decide) (by decide),rfl,some dd,by rw [← e]; rfl⟩
      · rw [rangeD_length,e2,Int.toNat_natCast]
        rintro e M' ⟨rfl,t,rfl⟩
        have hg0:0<2 ^ ((n.log2+2) / 2):=Nat.two_pow_pos _
        have hgn:n<2 ^ ((n.log2+2) / 2)*2 ^ ((n.log2+2) / 2):=by
          rw [← Nat.pow_add]
          refine Nat.lt_of_lt_of_le (Nat.lt_log2_self) (Nat.pow_le_pow_right (by decide) (by omega))
        have hgs:Sml (2 ^ ((n.log2+2) / 2)):=Sml.pow (by omega)
        generalize 2 ^ ((n.log2+2) / 2)=g at hg0 hgn hgs
        have cf:∀ {g:Nat},0<g→Sml g→CFd (n:Int) (g:Int):=fun h1 h2=>⟨by omega,by rw [Int.natAbs_natCast]; exact h2.log⟩
        have ev:∀ g:Nat,((g:Int)+(n:Int).fdiv (g:Int)).fdiv 2=(((g+n / g) / 2:Nat):Int):=fun g=>by
          rw [fdiv_nn (Int.natCast_nonneg _) (Int.natCast_nonneg _),fdiv_nn (by have:=Int.natCast_nonneg (g+n / g); exact_mod_cast this) (by decide)]; norm_cast
        refine ⟨_,rfl,_,rfl,_,rfl,_,_,rfl,rfl,cf hg0 hgs,_,rfl,_,_,rfl,rfl,cfd2,?_⟩
        refine ⟨fun m e M''=>M''=M'∧∃ t:Option D,e=[some (.int n),some (.int (m:Int)),t,some (.int (((m+n / m) / 2:Nat):Int))]∧0<m∧Sml m∧n<(m+1)*(m+1),⟨g,rfl,t,by rw [← ev]; rfl,hg0,hgs,by
          have:g*g≤(g+1)*(g+1):=Nat.mul_le_mul (by omega) (by omega)
          omega⟩,?_⟩
        rintro m e M'' ⟨rfl,t,rfl,hm0,hms,hmn⟩
        refine ⟨_,rfl,_,rfl,_,rfl,_,rfl,?_⟩
        refine iteD (fun h1=>?_) (fun h1=>?_)
        · have hb:(m+n / m) / 2<m:=by exact_mod_cast h1
          have hb0:0<(m+n / m) / 2:=by
            rcases Nat.lt_or_ge 1 m with z | z
            · generalize n / m=y
              omega
            · have hm1:m=1:=by omega
              subst hm1
              rw [Nat.div_one]
              omega
          refine ⟨_,rfl,_,rfl,_,rfl,_,rfl,_,_,rfl,rfl,cf hb0 (hms.mono (Nat.le_of_lt hb)),_,rfl,_,_,rfl,rfl,cfd2,?_⟩
          exact ⟨_,hb,rfl,t,by rw [← ev ((m+n / m) / 2)]; rfl,hb0,hms.mono (Nat.le_of_lt hb),newton hm0⟩
        · refine ⟨_,rfl,?_⟩
          exact k m (newton_end hm0 (fun z=>h1 (by exact_mod_cast z))) hmn
theorem ok_root (T:Txt K mg) (d:Df K mg "root" s_root ["one"]) (G_floor_root:Fn P w K mg base "floor_root" 1 ["number"] spFloorRoot):Fn P w K mg base "root" 2 ["one"] spRoot:=by
  have sc:=sc_root
  refine fn_by d sc (fun ds M R Y h=>?_) (fun f cdv A outer s H E ds M R Y hr h=>?_)
  · obtain ⟨q,rfl,_⟩:=h; rfl
  · obtain ⟨q,rfl,hz,k⟩:=h
    have hu:=hr.units
    obtain ⟨hl1,hl2⟩:=sz_log hz
    refine ⟨_,(jsc (jds_if (jd_tcmp o_lt (jd_ix i_any (jdv 0) jdi (fun _ _=>rfl)) jdi (nomark _)) (js1 (jds_ret jd_non)) jds_nil) (jsc (jds_set (i:=1) sc.nd rfl (Or.inl rfl) (jcF G_floor_root (hr.mono (by decide)) rfl (jac (jd_ix i_any (jdv 0) jdi (fun _ _=>rfl)) jan))) (jsc (jds_set (i:=2) sc.nd rfl (Or.inl rfl) (jcF G_floor_root (hr.mono (by decide)) rfl (jac (jd_ix i_any (jdv 0) jdi (fun _ _=>rfl)) jan))) (jsc (jds_if (jd_tw (jd_or (jd_tcmp o_neI (jd_op o_mul (jdv 1) (jdv 1)) (jd_ix i_any (jdv 0) jdi (fun _ _=>rfl)) (nomark _)) (jd_or1 (jd_tcmp o_neI (jd_op o_mul (jdv 2) (jdv 2)) (jd_ix i_any (jdv 0) jdi (fun _ _=>rfl)) (nomark _))))) (js1 (jds_ret jd_non)) jds_nil) (js1 (jds_ret (jd_tup (jac (jdv 1) (jac (jdv 2) jan))))))))),?_⟩
    refine ⟨_,rfl,_,rfl,_,rfl,_,rfl,?_⟩
    refine iteD (fun h0=>?_) (fun h0=>?_)
    · refine k .non (.inr ⟨fun r hr=>?_,rfl⟩)
      have:=(root_parts hr).2.2
      omega
    · have en:q.num=((q.num.natAbs:Nat):Int):=by omega
      refine ⟨_,rfl,_,rfl,q.num.natAbs,by rw [← en]; rfl,hl1,fun s h1 h2=>?_⟩
      refine ⟨_,rfl,_,rfl,q.den,rfl,hl2,fun t h3 h4=>?_⟩
      have hs:s<2 ^ 4000:=Nat.lt_of_le_of_lt (Nat.le_trans (Nat.le_mul_self s) h1) (lt_of_log hl1)
      have ht:t<2 ^ 4000:=Nat.lt_of_le_of_lt (Nat.le_trans (Nat.le_mul_self t) h3) (lt_of_log hl2)
      have m1:IntMulOk (s:Int) (s:Int):=mulOk 4000 4000 (by rw [Int.natAbs_natCast]; exact hs) (by rw [Int.natAbs_natCast]; exact hs) (by decide)
      have m2:IntMulOk (t:Int) (t:Int):=mulOk 4000 4000 (by rw [Int.natAbs_natCast]; exact ht) (by rw [Int.natAbs_natCast]; exact ht) (by decide)
      have no:(¬ (s:Int)*(s:Int)=q.num ∨ ¬ (t:Int)*(t:Int)=(q.den:Int))→R .non M:=fun hno=>k .non (.inr ⟨fun r hr=>by
        obtain ⟨⟨a,ha⟩,⟨b,hb⟩,hq⟩:=root_parts hr
        have e1:=sq_unique h1 h2 ha
        have e2:=sq_unique h3 h4 hb
        subst e1; subst e2
        rcases hno with z | z
        · apply z; rw [en,← ha]; norm_cast
        · apply z; rw [← hb]; norm_cast,rfl⟩)
      refine ⟨_,rfl,_,rfl,_,_,rfl,rfl,m1,_,rfl,_,rfl,_,rfl,_,rfl,?_⟩
      refine iteND (fun h5=>?_) (fun h5=>?_)
      · exact no (.inl h5)
      · refine ⟨_,rfl,_,rfl,_,_,rfl,rfl,m2,_,rfl,_,rfl,_,rfl,_,rfl,?_⟩
        refine iteND (fun h6=>?_) (fun h6=>?_)
        · exact no (.inr h6)
        · refine ⟨_,rfl,_,rfl,sl 2,?_⟩
          obtain ⟨r,r0,r1,r2,r3⟩:=root_some (q:=q) h5 (by exact_mod_cast h6)
          refine k _ (.inl ⟨r,r0,r1,?_⟩)
          unfold ratD; rw [r2,r3]

theorem ok_shrinking (T:Txt K mg) (d:Df K mg "shrinking" s_shrinking ["t"]) (G_over:Fn P w K mg base "over" 3 ["one", "other"] spOver) (G_minus:Fn P w K mg base "minus" 4 ["one", "other"] spMinus) (G_less:Fn P w K mg base "less" 1 ["one", "other"] spLess) (G_opposite:Fn P w K mg base "opposite" 1 ["one"] spOpp) (G_root:Fn P w K mg base "root" 2 ["one"] spRoot) (G_times:Fn P w K mg base "times" 3 ["one", "other"] spTimes):Fn P w K mg base "shrinking" 5 ["t"] sShr:=by
  have sc:=sc_shrinking
  refine fn_by d sc (by walk_at "len") (fun f cdv A outer s H E ds M R Y hr h=>?_)
  have hu:=hr.units
  obtain ⟨t,rfl,ht,k⟩:=h
  have z1:=RM.sz_mul t t
  have z4:sz 4≤3:=by decide +kernel
  have z5:=RM.sz_sub (t*t) 4
  have z0:=RM.sz_zero
  refine ⟨_,(jsc (jds_set (i:=1) sc.nd rfl (Or.inl rfl) (jcF G_root (hr.mono (by decide)) rfl (jac (jcF G_minus (hr.mono (by decide)) rfl (jac (jcF G_times (hr.mono (by decide)) rfl (jac (jdv 0) (jac (jdv 0) jan))) (jac (jd_globD rfl T.c_FOUR) jan))) jan))) (jsc (jds_if (jd_tcmp o_is (jdv 1) jd_non (nomark _)) (js1 (jds_ret jd_non)) jds_nil) (jsc (jds_if (jd_tval (jcF G_less (hr.mono (by decide)) rfl (jac (jdv 0) (jac (jd_globD rfl T.c_NOUGHT) jan)))) (js1 (jds_set (i:=1) sc.nd rfl (Or.inl rfl) (jcF G_opposite (hr.mono (by decide)) rfl (jac (jdv 1) jan)))) jds_nil) (js1 (jds_ret (jcF G_over (hr.mono (by decide)) rfl (jac (jcF G_minus (hr.mono (by decide)) rfl (jac (jdv 0) (jac (jdv 1) jan))) (jac (jd_globD rfl T.c_TWO) jan)))))))),?_⟩
  walk_at "sim"
  refine ⟨by omega,by omega,by omega,?_⟩
  rintro v (⟨r,r0,r1,rfl⟩ | ⟨r1,rfl⟩)
  · have zr:sz r≤470:=Nat.le_trans (sz_root r1) (by omega)
    rw [z_Is rfl]
    have z2:sz 2≤2:=by decide +kernel
    have z6:=RM.sz_sub t r
    have z7:=RM.sz_sub t (-r)
    have z8:=RM.sz_neg r
    walk_at "sim"
    refine ⟨by omega,fun e=>⟨by omega,by decide,by omega,k _ (.inl ⟨r,r0,r1,?_⟩)⟩,fun e=>⟨by omega,by decide,by omega,k _ (.inl ⟨r,r0,r1,?_⟩)⟩⟩
    · rw [if_pos e]
    · rw [if_neg e]
  · rw [z_Is rfl]
    walk_at "sim"
    exact k _ (.inr ⟨r1,rfl⟩)
theorem ok_ray_along (T:Txt K mg) (d:Df K mg "ray_along" s_ray_along ["table"]) (G_minus:Fn P w K mg base "minus" 4 ["one", "other"] spMinus) (G_over:Fn P w K mg base "over" 3 ["one", "other"] spOver) (G_t_of:Fn P w K mg base "t_of" 4 ["table"] sTof):Fn P w K mg base "ray_along" 5 ["table"] sAlong:=by
  have sc:=sc_ray_along
  refine fn_by d sc (by walk_at "len") (fun f cdv A outer s H E ds M R Y hr h=>?_)
  have hu:=hr.units
  obtain ⟨x,rfl,⟨a,b,c,d⟩,hx,cd,k⟩:=h
  have hx':x=tabD a b c d:=hx
  subst hx'
  have t4:=CD.t4 cd
  have h1:sz a≤230:=t4.a
  have ht:sz (trQ (a,b,c,d))≤231:=CD.tr cd
  have z2:sz 2≤2:=by decide +kernel
  have z3:=RM.sz_div (trQ (a,b,c,d)) 2 (by decide)
  refine ⟨_,(jsc (jds_asg (jdv 0) (jdg_tup (n:=4) rfl (jdgs_cons (jdg_name (i:=1) sc.nd rfl (Or.inl rfl)) (jdgs_cons (jdg_name (i:=2) sc.nd rfl (Or.inl rfl)) (jdgs_cons (jdg_name (i:=3) sc.nd rfl (Or.inl rfl)) (jdgs_cons (jdg_name (i:=4) sc.nd rfl (Or.inl rfl)) jdgs_nil)))))) (jsc (jds_if (jd_tcmp (o_eqC hu) (jdv 2) (jd_globD rfl T.c_NOUGHT) (nomark _)) (js1 (jds_ret (jd_globD rfl T.c_AXIS_RAY))) jds_nil) (js1 (jds_ret (jd_tup (jac (jdv 2) (jac (jcF G_minus (hr.mono (by decide)) rfl (jac (jcF G_over (hr.mono (by decide)) rfl (jac (jcF G_t_of (hr.mono (by decide)) rfl (jac (jdv 0) jan)) (jac (jd_globD rfl T.c_TWO) jan))) (jac (jdv 1) jan))) jan))))))),?_⟩
  walk_at "sim"
  unfold alongD at k
  refine ⟨fun e=>?_,fun e=>⟨(a,b,c,d),rfl,cd,by decide,by omega,by omega,?_⟩⟩
  · rw [if_pos e] at k; exact k
  · rw [if_neg e] at k; exact k
theorem ok_form_of (T:Txt K mg) (d:Df K mg "form_of" s_form_of ["table"]) (G_opposite:Fn P w K mg base "opposite" 1 ["one"] spOpp) (G_minus:Fn P w K mg base "minus" 4 ["one", "other"] spMinus):Fn P w K mg base "form_of" 5 ["table"] sFormOf:=by
  have sc:=sc_form_of
  refine fn_by d sc (by walk_at "len") (fun f cdv A outer s H E ds M R Y hr h=>?_)
  have hu:=hr.units
  obtain ⟨x,rfl,⟨a,b,c,d⟩,hx,cd,k⟩:=h
  have hx':x=tabD a b c d:=hx
  subst hx'
  have t4:=CD.t4 cd
  have h1:sz a≤230:=t4.a
  have h4:sz d≤230:=t4.d
  refine ⟨_,(jsc (jds_asg (jdv 0) (jdg_tup (n:=4) rfl (jdgs_cons (jdg_name (i:=1) sc.nd rfl (Or.inl rfl)) (jdgs_cons (jdg_name (i:=2) sc.nd rfl (Or.inl rfl)) (jdgs_cons (jdg_name (i:=3) sc.nd rfl (Or.inl rfl)) (jdgs_cons (jdg_name (i:=4) sc.nd rfl (Or.inl rfl)) jdgs_nil)))))) (js1 (jds_ret (jd_tup (jac (jdv 3) (jac (jcF G_minus (hr.mono (by decide)) rfl (jac (jdv 4) (jac (jdv 1) jan))) (jac (jcF G_opposite (hr.mono (by decide)) rfl (jac (jdv 2) jan)) jan))))))),?_⟩
  walk_at "sim"
  exact ⟨by omega,k⟩
theorem ok_kind (T:Txt K mg) (d:Df K mg "kind" s_kind ["hall"]) (G_shrinking:Fn P w K mg base "shrinking" 5 ["t"] sShr) (G_t_of:Fn P w K mg base "t_of" 4 ["table"] sTof) (G_ray_along:Fn P w K mg base "ray_along" 5 ["table"] sAlong) (G_form_of:Fn P w K mg base "form_of" 5 ["table"] sFormOf) (G_rounds_to_self:Fn P w K mg base "rounds_to_self" 5 ["table"] sRts) (G_kind_word:Fn P w K mg base "kind_word" 6 ["table"] sKw) (G_round_of:Fn P w K mg base "round_of" 7 ["hall"] sRndW):Fn P w K mg base "kind" 8 ["hall"] sKindS:=by
  have sc:=sc_kind
  refine fn_by d sc (by walk_at "len") (fun f cdv A outer s H E ds M R Y hr h=>?_)
  have hu:=hr.units
  obtain ⟨x0,near,bs,far,rfl,hx0,hok,k⟩:=h
  have cd:=hok.cd (hallL near bs far).length
  rw [List.take_length] at cd
  rcases hx0 with rfl | rfl
  all_goals
    refine ⟨_,(jsc (jds_set (i:=1) sc.nd rfl (Or.inl rfl) (jcF G_round_of (hr.mono (by decide)) rfl (jac (jdv 0) jan))) (jsc (jds_set (i:=2) sc.nd rfl (Or.inl rfl) (jcF G_kind_word (hr.mono (by decide)) rfl (jac (jdv 1) jan))) (jsc (jds_if (jd_tcmp o_eqS (jdv 2) jd_str (nomark _)) (js1 (jds_ret (jd_tup (jac (jdv 2) (jac (jcF G_rounds_to_self (hr.mono (by decide)) rfl (jac (jdv 1) jan)) jan))))) jds_nil) (jsc (jds_if (jd_tcmp o_eqS (jdv 2) jd_str (nomark _)) (js1 (jds_ret (jd_tup (jac (jdv 2) (jac (jcF G_form_of (hr.mono (by decide)) rfl (jac (jdv 1) jan)) jan))))) jds_nil) (jsc (jds_if (jd_tcmp o_eqS (jdv 2) jd_str (nomark _)) (js1 (jds_ret (jd_tup (jac (jdv 2) (jac (jcF G_ray_along (hr.mono (by decide)) rfl (jac (jdv 1) jan)) jan))))) jds_nil) (js1 (jds_ret (jd_tup (jac (jdv 2) (jac (jcF G_shrinking (hr.mono (by decide)) rfl (jac (jcF G_t_of (hr.mono (by decide)) rfl (jac (jdv 1) jan)) jan)) jan)))))))))),?_⟩
    walk_at "sim"
    refine ⟨hok.w,?_⟩
    generalize tbQ (hallL near bs far)=m at *
    refine ⟨m,rfl,cd,fun e=>⟨m,rfl,cd,k _ (.inl ⟨e,rfl⟩)⟩,fun e=>⟨fun e2=>⟨m,rfl,cd,k _ (.inr (.inl ⟨e2,rfl⟩))⟩,fun e2=>⟨fun e3=>⟨m,rfl,cd,k _ (.inr (.inr (.inl ⟨e3,rfl⟩)))⟩,fun e3=>⟨m,rfl,cd,CD.tr cd,fun v hv=>k _ (.inr (.inr (.inr ⟨?_,hv⟩)))⟩⟩⟩⟩
    unfold kwS at e e2 e3 ⊢
    by_cases h1:sameP m
    · rw [if_pos h1] at e; exact absurd rfl e
    · rw [if_neg h1] at e2 e3 ⊢
      by_cases h2:absQ (trQ m)=2
      · rw [if_pos h2] at e3; exact absurd rfl e3
      · rw [if_neg h2] at e2 ⊢
        by_cases h3:absQ (trQ m)<2
        · rw [if_pos h3] at e2; exact absurd rfl e2
        · rw [if_neg h3]
theorem ok__law_tight (T:Txt K mg) (d:Df K mg "_law_tight" s__law_tight ["pool", "hall", "ray"]) (G_ratio:Fn P w K mg base "ratio" 2 ["top", "bottom"] spLow) (G__law_next:Fn P w K mg base "_law_next" 1 ["pool", "base"] spNext) (G__law_whole_root:Fn P w K mg base "_law_whole_root" 1 ["number"] sWhRoot) (G_hall_lines:Fn P w K mg base "hall_lines" 7 ["hall"] sHallLnW) (G_less__2:Fn P w K mg base "less" 1 ["one", "other"] sLessP) (G_reach:Fn P w K mg base "reach" 8 ["hall", "ray", "p", "q"] sReachE) (G_kind:Fn P w K mg base "kind" 8 ["hall"] sKindS):Fn P w K mg base "_law_tight" 9 ["pool", "hall", "ray"] sTight:=by
  have sc:=sc__law_tight
  refine fn_by d sc (by walk_at "len") (fun f cdv A outer s H E ds M R Y hr h=>?_)
  have hu:=hr.units
  obtain ⟨p,near,bs,far,y,u,rfl,hp,⟨hok,hbl,cd⟩,k⟩:=h
  have hw:=hok.w
  have cL:=hw.cd (hallL near bs far).length
  rw [List.take_length] at cL
  have zt:sz (trQ (tbQ (hallL near bs far)))≤231:=CD.tr cL
  refine ⟨_,(jsc (jds_setCompV (i:=3) [] ["k", "part"] [] sc.nd rfl (Or.inl rfl) rfl (by decide +kernel) rfl (by decide +kernel) (by decide +kernel) rfl all0 all0 (jpd_enum rfl T.b_enumerate (jac (jd_ix i_any (jdv 1) jdi (fun _ _=>rfl)) jan)) (fun _ _ _ _ _ _=>(jdg_tup (n:=2) rfl (jdgs_cons (jdg_name (i:=0) (show (["k", "part"]:List Str).Nodup by decide +kernel) rfl (Or.inl rfl)) (jdgs_cons (jdg_name (i:=1) (show (["k", "part"]:List Str).Nodup by decide +kernel) rfl (Or.inl rfl)) jdgs_nil)))) (fun _ _ _ _ _ _=>(jdifs_one (jd_tcmp o_eqS (jd_ix i_any (jdv 1) jdi (fun _ _=>rfl)) jd_str (nomark _)))) (fun _ _ _ _ _ _=>(jdv 0))) (jsc (jds_if (jd_tw (jd_or (jd_tcmp o_neS (jd_ix i_any (jcF G_kind (hr.mono (by decide)) rfl (jac (jdv 1) jan)) jdi (fun _ _=>rfl)) jd_str (nomark _)) (jd_or (jd_tcmp (o_eqC hu) (jdv 3) (jd_lstV jan) (nomark _)) (jd_or1 (jd_tcmp o_eqI (jcF G__law_next (hr.mono (by decide)) rfl (jac (jdv 0) (jac jdi jan))) jdi (nomark _)))))) (js1 (jds_ret (jdv 1))) jds_nil) (jsc (jds_set (i:=4) sc.nd rfl (Or.inl rfl) (jd_ix i_any (jdv 3) (jcF G__law_next (hr.mono (by decide)) rfl (jac (jdv 0) (jac (jd_blt c_len rfl T.b_len bt_len (jac (jdv 3) jan)) jan))) (fun _ _=>rfl))) (jsc (jds_set (i:=5) sc.nd rfl (Or.inl rfl) (jd_tup (jac jdi (jac jdi jan)))) (jsc (jds_forI PassesOwn.never rfl (jpd_seq (jd_frz (jcF G_hall_lines (hr.mono (by decide)) rfl (jac (jdv 1) jan)))) (jdg_tup (n:=3) rfl (jdgs_cons (jdg_name (i:=6) sc.nd rfl (Or.inl rfl)) (jdgs_cons (jdg_name (i:=7) sc.nd rfl (Or.inl rfl)) (jdgs_cons (jdg_tup (n:=3) rfl (jdgs_cons (jdg_name (i:=8) sc.nd rfl (Or.inl rfl)) (jdgs_cons (jdg_name (i:=9) sc.nd rfl (Or.inl rfl)) (jdgs_cons (jdg_name (i:=10) sc.nd rfl (Or.inl rfl)) jdgs_nil)))) jdgs_nil)))) (js1 (jds_if (jd_tw (jd_and (jd_tcmp (o_eqC hu) (jdv 7) (jdv 4) (nomark _)) (jd_and1 (jd_tval (jcF G_less__2 (hr.mono (by decide)) rfl (jac (jdv 5) (jac (jcF G_reach (hr.mono (by decide)) rfl (jac (jdv 1) (jac (jdv 2) (jac (jdv 8) (jac (jdv 9) jan))))) jan))))))) (js1 (jds_set (i:=5) sc.nd rfl (Or.inl rfl) (jcF G_reach (hr.mono (by decide)) rfl (jac (jdv 1) (jac (jdv 2) (jac (jdv 8) (jac (jdv 9) jan))))))) jds_nil))) (jsc (jds_set (i:=11) sc.nd rfl (Or.inl rfl) (jd_ix i_any (jd_lstV (jac jdi (jac jdi (jac (jd_op o_pow jdi jdi) (jac (jd_op o_pow jdi jdi) jan))))) (jcF G__law_next (hr.mono (by decide)) rfl (jac (jdv 0) (jac jdi jan))) (fun _ _=>rfl))) (jsc (jds_set (i:=12) sc.nd rfl (Or.inl rfl) (jcF G__law_whole_root (hr.mono (by decide)) rfl (jac (jd_op o_fdiv (jd_op o_mul (jd_op o_mul (jd_ix i_any (jdv 5) jdi (fun _ _=>rfl)) (jdv 11)) (jdv 11)) (jd_ix i_any (jdv 5) jdi (fun _ _=>rfl))) jan))) (jsc (jds_set (i:=13) sc.nd rfl (Or.inl rfl) (jd_lstV (jac (jd_tup (jac jd_str (jac (jcF G_ratio (hr.mono (by decide)) rfl (jac (jd_blt (c_max rfl) rfl T.b_max bt_max (jac jdi (jac (jd_op o_add (jdv 12) (jcF G__law_next (hr.mono (by decide)) rfl (jac (jdv 0) (jac jdi jan)))) jan))) (jac (jdv 11) jan))) jan))) jan))) (js1 (jds_ret (jd_tup (jac (jd_ix i_any (jdv 1) jdi (fun _ _=>rfl)) (jac (jd_catV (jd_catV (jd_sliceV (jd_ix i_any (jdv 1) jdi (fun _ _=>rfl)) jdpo_none (jdpo_some (jdv 4))) (jdv 13)) (jd_sliceV (jd_ix i_any (jdv 1) jdi (fun _ _=>rfl)) (jdpo_some (jd_op o_add (jdv 4) jdi)) jdpo_none)) (jac (jd_ix i_any (jdv 1) jdi (fun _ _=>rfl)) jan)))))))))))))),?_⟩
  walk_at "sim"
  rw [enum_zipP]
  refine compV_filter (xs:=bs.zipIdx) (fun x=>x.1.1 == Str.ofString "stop") (fun x=>D.int (x.2:Int)) (by rw [List.length_zipIdx]; omega) (by simp only [seqD_vl]) (fun x hx Q N h1 h2=>?_) ?_
  · walk_at "sim"
    exact ⟨fun e=>h1 (by rw [e]; exact beq_self_eq_true _),fun e=>h2 (beq_eq_false_iff_ne.mpr e)⟩
  rw [show List.filter (fun x:(Str × Rat) × Nat=>x.1.1 == Str.ofString "stop") bs.zipIdx=frW bs from rfl]
  have fl:=frW_len bs
  refine ⟨hok,fun v hv=>⟨fun _=>k bs M hw (PStep.refl hp),fun hturn=>⟨cl_lst fun x hx=>by obtain ⟨z,_,rfl⟩:=List.mem_map.mp hx; rfl,fun _=>k bs M hw (PStep.refl hp),fun hne=>⟨hp,by decide,fun r M1 r0 r1 s1=>⟨fun _=>k bs M1 hw s1,fun _=>?_⟩⟩⟩⟩⟩
  obtain ⟨t1,t2⟩:-2<trQ (tbQ (hallL near bs far))∧trQ (tbQ (hallL near bs far))<2:=by
    rcases kw_cases (tbQ (hallL near bs far)) with ⟨_,e⟩ | ⟨_,_,e⟩ | ⟨_,_,c3,e⟩ | ⟨_,c2,c3,e⟩
    · rw [e] at hturn; exact absurd hturn (by decide)
    · rw [e] at hturn; exact absurd hturn (by decide)
    · exact abs_lt2.mp c3
    · rw [e] at hturn; exact absurd hturn (by decide)
  have hpos:0<(frW bs).length:=by
    cases e:frW bs with
    | nil=>rw [e] at hne; exact absurd rfl hne
    | cons a b=>exact Nat.succ_pos _
  have e1:((frW bs).map fun x=>D.int (x.2:Int)).length=(frW bs).length:=List.length_map ..
  walk_at "sim"
  refine ⟨s1.pool,by omega,lg9 (by omega),fun r' M2 r0' r1' s2=>gIx_mem r0' r1' fun dd hdd=>?_⟩
  obtain ⟨⟨⟨w,q0⟩,at'⟩,hx,rfl⟩:=List.mem_map.mp hdd
  obtain ⟨hx1,hx2⟩:=List.mem_filter.mp hx
  have hat:bs[at']? = some (w,q0):=List.mem_zipIdx_iff_getElem?.mp hx1
  have hws:w=Str.ofString "stop" := by simpa using hx2
  subst hws
  have hal:=(List.getElem?_eq_some_iff.mp hat).1
  refine ⟨hw,fun p1 hp1=>?_⟩
  rw [z_FrzK updM_same,delM_upd hp1]
  have z0:sz (0:Rat)≤1:=by rw [RM.sz_zero]; decide
  walk_at "sim"
  have st:=s1.trans s2
  refine ForK.by (fun i e M'=>M2=M'∧∃ (g:Rat) (z6 z7 z8 z9 z10:Option D),e=[some (D.ref p),some (D.tup [ratD near,D.vl (List.map partD bs),ratD far]),some (rayD y u),some (D.vl ((frW bs).map fun x=>D.int (x.2:Int))),some (D.int (at':Int)),some (ratD g),z6,z7,z8,z9,z10,none,none,none]∧0≤g∧sz g≤8800∧g.num.natAbs<2 ^ 3500) ⟨rfl,0,_,_,_,_,_,rfl,by decide,by omega,Nat.two_pow_pos _⟩ (fun i e M' _ _=>by simp only [seqD_vl]) ?_ ?_
  · rintro i dd e M' hd ⟨rfl,g,z6,z7,z8,z9,z10,rfl,g0,gz,gn⟩
    obtain ⟨w0,l,rfl,hli,hw0⟩:=hl_item2 hd
    rw [hallT_L,hallT_len] at hli
    have hlm:=List.mem_of_getElem? hli
    obtain ⟨⟨q1,q2⟩,⟨q3,q4⟩,zx,zf⟩:=hw.line cd hlm
    have rn:=line_rch hw cd hlm t1 t2
    have rs:=rch_sz zt zx zf t1 t2
    obtain ⟨zz,hzz,_,e2⟩:=stpW_mem hw0
    have c1:cl 60 w0.2=true:=by rw [← e2]; exact (hallT_cl hzz 59).2
    unfold hlD lineD
    walk_at "sim"
    generalize rchQ (trQ (tbQ (hallL near bs far))) (l.1*y+l.2.1*u) (l.1*(outP (hallL near bs far) (y,u)).1+l.2.1*(outP (hallL near bs far) (y,u)).2)=rc at *
    refine ⟨c1,fun _=>⟨⟨hw,cd,⟨q1,q2⟩,zx,zf,t1,t2⟩,g,rc.num,(rc.den:Int),rfl,⟨by have:=rc.den_pos; omega,by omega,by rw [Int.natAbs_natCast]; exact den_lt' _ (by omega),num_lt' _ (by omega)⟩,?_⟩,fun _=>⟨g,_,_,_,_,_,rfl,g0,gz,gn⟩⟩
    rw [Rat.num_divInt_den]
    walk_at "sim"
    exact ⟨fun hlt=>⟨⟨hw,cd,⟨q1,q2⟩,zx,zf,t1,t2⟩,rc,_,_,_,_,_,rfl,by grind,rs,rn⟩,fun _=>⟨g,_,_,_,_,_,rfl,g0,gz,gn⟩⟩
  · rintro e M' ⟨rfl,g,z6,z7,z8,z9,z10,rfl,g0,gz,gn⟩
    walk_at "sim"
    refine ⟨cp6,cp9',s2.pool,by decide,fun r3 M3 a0 a1 s3=>gIx_mem a0 (by show r3<4; exact a1) fun dd hdd=>?_⟩
    obtain ⟨sc',rfl,sc0,sc1⟩:∃ sc':Nat,dd = .int (sc':Int)∧0<sc'∧sc'<2 ^ 30:=by
      simp only [List.mem_cons,List.not_mem_nil,or_false] at hdd
      rcases hdd with rfl | rfl | rfl | rfl
      · exact ⟨10,rfl,by decide,by decide⟩
      · exact ⟨1000,rfl,by decide,by decide⟩
      · exact ⟨1000000,by rfl,by decide,by decide⟩
      · exact ⟨1000000000,by rfl,by decide,by decide⟩
    obtain ⟨G,hG⟩:∃ G:Nat,g.num=(G:Int):=⟨g.num.toNat,by have:=Rat.num_nonneg.mpr g0; omega⟩
    rw [hG] at gn ⊢
    rw [Int.natAbs_natCast] at gn
    have gd:=den_lt' g gz
    have gdp:=g.den_pos
    have eN:((G:Int)*(sc':Int)*(sc':Int)).fdiv (g.den:Int)=((G*sc'*sc' / g.den:Nat):Int):=by
      rw [fdiv_nn (by exact_mod_cast Nat.zero_le _) (by omega)]; norm_cast
    have b1:G*sc'<2 ^ (3500+30):=nat_mul_lt gn sc1
    have b2:G*sc'*sc'<2 ^ (3500+30+30):=nat_mul_lt b1 sc1
    have bN:G*sc'*sc' / g.den<2 ^ 3560:=Nat.lt_of_le_of_lt (Nat.div_le_self _ _) b2
    walk_at "sim"
    rw [eN]
    generalize G*sc'*sc' / g.den=N at *
    walk_at "sim"
    have hs:1000≤sizeLine:=by decide
    have scn:(sc':Int).natAbs<2 ^ 30:=by rw [Int.natAbs_natCast]; exact sc1
    refine ⟨mulOk 3500 30 (by rw [Int.natAbs_natCast]; exact gn) scn (by decide),mulOk 3530 30 (by rw [← Int.natCast_mul,Int.natAbs_natCast]; exact b1) scn (by decide),⟨by omega,by rw [Int.natAbs_natCast]; exact Nat.lt_of_lt_of_le (log_lt gd (by decide)) (by decide)⟩,Nat.lt_of_lt_of_le bN (Nat.pow_le_pow_right (by decide) (by decide)),fun a a1 a2=>⟨s3.pool,by decide,fun r4 M4 c0 c1 s4=>⟨by omega,Nat.lt_of_lt_of_le (log_lt scn (by decide)) (by decide),?_⟩⟩⟩
    have ab:a<2 ^ 1780:=by
      apply Classical.byContradiction
      intro hn
      have hn:2 ^ 1780≤a:=Nat.le_of_not_lt hn
      have:=Nat.mul_le_mul hn hn
      rw [← Nat.pow_add] at this
      exact absurd (Nat.lt_of_le_of_lt (Nat.le_trans this a1) bN) (Nat.lt_irrefl _)
    have tz:(max 1 ((a:Int)+r4)).natAbs<2 ^ 1781:=by
      have p1:2 ^ 1≤2 ^ 1780:=Nat.pow_le_pow_right (by decide) (by decide)
      rw [show 2 ^ 1781=2 ^ 1780*2 from Nat.pow_succ 2 1780]
      generalize 2 ^ 1780=W at *
      omega
    have qz:sz (Rat.divInt (max 1 ((a:Int)+r4)) (sc':Int))≤3000:=Nat.le_trans (rat_in (k:=1781) (by decide) tz (by omega) (Nat.lt_of_lt_of_le scn (Nat.pow_le_pow_right (by decide) (by decide)))) (by decide)
    have q0':0<Rat.divInt (max 1 ((a:Int)+r4)) (sc':Int):=rat_gt (by omega) (by omega)
    have hset:=hok.set hat q0' qz
    generalize Rat.divInt (max 1 ((a:Int)+r4)) (sc':Int)=qn at *
    have cs:=cut_setW hal (Str.ofString "stop",qn)
    have cs:DL.cutD (List.map partD bs) none (some (at':Int))++[D.tup [D.str (Str.ofString "stop"),ratD qn]]++DL.cutD (List.map partD bs) (some ((at':Int)+1)) none=(bs.set at' (Str.ofString "stop",qn)).map partD:=cs
    have ln:=congrArg List.length cs
    rw [List.length_append,List.length_map,List.length_set] at ln
    have l0:(DL.cutD (List.map partD bs) none (some (at':Int))).length≤bs.length:=by rw [cut_to,List.length_take,List.length_map]; omega
    refine ⟨Nat.le_trans (by omega) hs,Nat.le_trans (by omega) hs,?_⟩
    rw [cs]
    exact k _ _ hset ((st.trans s3).trans s4)
theorem ok__law_scaled (T:Txt K mg) (d:Df K mg "_law_scaled" s__law_scaled ["ray", "factor"]) (G_times:Fn P w K mg base "times" 3 ["one", "other"] spTimes):Fn P w K mg base "_law_scaled" 4 ["ray", "factor"] sScaled:=by
  have sc:=sc__law_scaled
  refine fn_by d sc (by walk_at "len") (fun f cdv A outer s H E ds M R Y hr h=>?_)
  have hu:=hr.units
  obtain ⟨y,u,g,rfl,⟨h1,h2⟩,k⟩:=h
  refine ⟨_,(js1 (jds_ret (jd_tup (jac (jcF G_times (hr.mono (by decide)) rfl (jac (jd_ix i_any (jdv 0) jdi (fun _ _=>rfl)) (jac (jdv 1) jan))) (jac (jcF G_times (hr.mono (by decide)) rfl (jac (jd_ix i_any (jdv 0) jdi (fun _ _=>rfl)) (jac (jdv 1) jan))) jan))))),?_⟩
  walk_at "sim"
  exact ⟨h1,h2,k⟩
theorem ok__law_along (T:Txt K mg) (d:Df K mg "_law_along" s__law_along ["hall", "other"]) (G_minus:Fn P w K mg base "minus" 4 ["one", "other"] spMinus) (G_over:Fn P w K mg base "over" 3 ["one", "other"] spOver) (G_kind:Fn P w K mg base "kind" 8 ["hall"] sKindS) (G_round_of:Fn P w K mg base "round_of" 7 ["hall"] sRndW):Fn P w K mg base "_law_along" 9 ["hall", "other"] sAlongL:=by
  have sc:=sc__law_along
  refine fn_by d sc (by walk_at "len") (fun f cdv A outer s H E ds M R Y hr h=>?_)
  have hu:=hr.units
  obtain ⟨near,bs,far,b,rfl,hok,k⟩:=h
  have cL:=hok.cd (hallL near bs far).length
  rw [List.take_length] at cL
  have zt:sz (trQ (tbQ (hallL near bs far)))≤231:=CD.tr cL
  refine ⟨_,(jsc (jds_asg (jcF G_round_of (hr.mono (by decide)) rfl (jac (jdv 0) jan)) (jdg_tup (n:=4) rfl (jdgs_cons (jdg_name (i:=2) sc.nd rfl (Or.inl rfl)) (jdgs_cons (jdg_name (i:=3) sc.nd rfl (Or.inl rfl)) (jdgs_cons (jdg_name (i:=4) sc.nd rfl (Or.inl rfl)) (jdgs_cons (jdg_name (i:=5) sc.nd rfl (Or.inl rfl)) jdgs_nil)))))) (jsc (jds_set (i:=6) sc.nd rfl (Or.inl rfl) (jcF G_kind (hr.mono (by decide)) rfl (jac (jdv 0) jan))) (jsc (jds_set (i:=7) sc.nd rfl (Or.inl rfl) (jd_tup (jac jdi (jac jdi jan)))) (jds_consM (jds_if (jd_tcmp o_lt (jd_op o_add (jd_op o_mul (jd_ix i_any (jdv 2) jdi (fun _ _=>rfl)) (jd_ix i_any (jdv 5) jdi (fun _ _=>rfl))) (jd_op o_mul (jd_ix i_any (jdv 5) jdi (fun _ _=>rfl)) (jd_ix i_any (jdv 2) jdi (fun _ _=>rfl)))) jdi (nomark _)) (js1 (jds_set (i:=7) sc.nd rfl (Or.inl rfl) (jd_tup (jac (jd_neg jdi) (jac jdi jan))))) jds_nil) (jds_consM (jds_if (jd_tw (jd_and (jd_tcmp o_eqS (jd_ix i_any (jdv 6) jdi (fun _ _=>rfl)) jd_str (nomark _)) (jd_and1 (jd_tcmp o_isnot (jd_ix i_any (jdv 6) jdi (fun _ _=>rfl)) jd_non (nomark _))))) (jsc (jds_set (i:=7) sc.nd rfl (Or.inl rfl) (jd_ix i_any (jdv 6) jdi (fun _ _=>rfl))) (js1 (jds_if (jd_tval (jdv 1)) (js1 (jds_set (i:=7) sc.nd rfl (Or.inl rfl) (jcF G_over (hr.mono (by decide)) rfl (jac (jd_tup (jac jdi (jac jdi jan))) (jac (jdv 7) jan))))) jds_nil))) jds_nil) (jsc (jds_set (i:=8) sc.nd rfl (Or.inl rfl) (jd_tup (jac (jdv 3) (jac (jcF G_minus (hr.mono (by decide)) rfl (jac (jdv 7) (jac (jdv 2) jan))) jan)))) (jds_consM (jds_if (jd_tcmp (o_eqC hu) (jdv 8) (jd_tup (jac (jd_tup (jac jdi (jac jdi jan))) (jac (jd_tup (jac jdi (jac jdi jan))) jan))) (nomark _)) (js1 (jds_set (i:=8) sc.nd rfl (Or.inl rfl) (jd_tup (jac (jcF G_minus (hr.mono (by decide)) rfl (jac (jdv 5) (jac (jdv 7) jan))) (jac (jcF G_minus (hr.mono (by decide)) rfl (jac (jd_tup (jac jdi (jac jdi jan))) (jac (jdv 4) jan))) jan))))) jds_nil) (js1 (jds_ret (jdv 8)))))))))),?_⟩
  walk_at "sim"
  refine ⟨hok.w,?_⟩
  generalize hm:tbQ (hallL near bs far)=m at *
  obtain ⟨a,b',c,d'⟩:=m
  have t4:=CD.t4 cL
  have za:sz a≤230:=t4.a
  have zb:sz b'≤230:=t4.b
  have zc:sz c≤230:=t4.c
  have zd:sz d'≤230:=t4.d
  rw [show tabQ (a,b',c,d')=tabD a b' c d' from rfl]
  walk_at "sim"
  rw [hm]
  refine ⟨hok,fun v hv=>?_⟩
  refine JoinBy (fun e' M'=>M=M'∧∃ q:Rat,e'=[some (D.tup [ratD near,D.vl (List.map partD bs),ratD far]),some (D.bl b),some (ratD a),some (ratD b'),some (ratD c),some (ratD d'),some (D.tup [D.str (kwS (a,b',c,d')),v]),some (ratD q),none]∧sz q≤232) ?_ ?_
  · walk_at "sim"
    exact ⟨mND (q:=a) (r:=d') (by omega),mND (q:=d') (r:=a) (by omega),fun _=>⟨-1,rfl,by rw [RM.sz_neg,RM.sz_one]; decide⟩,fun _=>⟨1,rfl,by rw [RM.sz_one]; decide⟩⟩
  · rintro e' M' ⟨rfl,q,rfl,hq⟩
    refine JoinBy (fun e' M'=>M=M'∧∃ q:Rat,e'=[some (D.tup [ratD near,D.vl (List.map partD bs),ratD far]),some (D.bl b),some (ratD a),some (ratD b'),some (ratD c),some (ratD d'),some (D.tup [D.str (kwS (a,b',c,d')),v]),some (ratD q),none]∧sz q≤232) ?_ ?_
    · walk_at "sim"
      refine ⟨fun hoff=>?_,fun _=>⟨q,rfl,hq⟩⟩
      obtain ⟨c1,c2⟩:¬ absQ (trQ (a,b',c,d'))<2∧¬ absQ (trQ (a,b',c,d'))=2:=by
        rcases kw_cases (a,b',c,d') with ⟨_,e⟩ | ⟨_,_,e⟩ | ⟨_,_,_,e⟩ | ⟨_,c2,c3,e⟩
        · rw [e] at hoff; exact absurd hoff (by decide)
        · rw [e] at hoff; exact absurd hoff (by decide)
        · rw [e] at hoff; exact absurd hoff (by decide)
        · exact ⟨c3,c2⟩
      have hsh:ShrIs (trQ (a,b',c,d')) v:=by
        rcases hv with ⟨e,_⟩ | ⟨e,_⟩ | ⟨e,_⟩ | ⟨_,h⟩
        · rw [e] at hoff; exact absurd hoff (by decide)
        · rw [e] at hoff; exact absurd hoff (by decide)
        · rw [e] at hoff; exact absurd hoff (by decide)
        · exact h
      have hv2:(∃ x:Rat,v=ratD x)∨v = .non:=by
        rcases hsh with ⟨r,_,_,e⟩ | ⟨_,e⟩
        · exact .inl ⟨_,e⟩
        · exact .inr e
      rcases hv2 with ⟨x,rfl⟩ | rfl
      · obtain ⟨x0,xz⟩:=shr_sz c1 c2 hsh
        have xi:=RM.sz_div 1 x x0
        have s1:sz (1:Rat)=1:=RM.sz_one
        rw [z_Is rfl]
        walk_at "sim"
        exact ⟨fun _=>⟨x0,by omega,_,rfl,by omega⟩,fun _=>⟨_,rfl,by omega⟩⟩
      · rw [z_Is rfl]
        walk_at "sim"
        exact ⟨q,rfl,hq⟩
    · rintro e' M' ⟨rfl,q,rfl,hq⟩
      walk_at "sim"
      have z1:=RM.sz_sub q a
      have z2:=RM.sz_sub d' q
      have z3:=RM.sz_sub 0 c
      have s0:sz (0:Rat)≤1:=by rw [RM.sz_zero]; decide
      refine ⟨by omega,?_⟩
      refine JoinBy (fun e' M'=>M=M'∧∃ (y u:Rat) (z0 z1 z2 z3 z4 z5 z6 z7:Option D),e'=[z0,z1,z2,z3,z4,z5,z6,z7,some (rayD y u)]∧(sz y≤463∧sz u≤463∧sz y+sz u≤700)) ?_ ?_
      · walk_at "sim"
        exact ⟨fun _=>⟨by omega,by omega,d' - q,0 - c,_,_,_,_,_,_,_,_,rfl,by omega,by omega,by omega⟩,fun _=>⟨b',q - a,_,_,_,_,_,_,_,_,rfl,by omega,by omega,by omega⟩⟩
      · rintro e' M' ⟨rfl,y,u,z0,z1,z2,z3,z4,z5,z6,z7,rfl,hz⟩
        walk_at "sim"
        exact k y u hz
theorem ok__law_ratio__2 (T:Txt K mg) (d:Df K mg "_law_ratio" s__law_ratio ["pool", "tops", "bottoms"]) (G_ratio:Fn P w K mg base "ratio" 2 ["top", "bottom"] spLow) (G__law_next:Fn P w K mg base "_law_next" 1 ["pool", "base"] spNext):Fn P w K mg base "_law_ratio" 3 ["pool", "tops", "bottoms"] sRatP2:=by
  have sc:=sc__law_ratio
  refine fn_by d sc (by walk_at "len") (fun f cdv A outer s H E ds M R Y hr h=>?_)
  have hu:=hr.units
  obtain ⟨p,x,y,rfl,hp,ts,bs,P,rfl,rfl,⟨⟨t0,t1⟩,⟨b0,b1⟩,hb,hP⟩,k⟩:=h
  refine ⟨_,(js1 (jds_ret (jcF G_ratio (hr.mono (by decide)) rfl (jac (jd_ix i_any (jdv 1) (jcF G__law_next (hr.mono (by decide)) rfl (jac (jdv 0) (jac (jd_blt c_len rfl T.b_len bt_len (jac (jdv 1) jan)) jan))) (fun _ _=>rfl)) (jac (jd_ix i_any (jdv 2) (jcF G__law_next (hr.mono (by decide)) rfl (jac (jdv 0) (jac (jd_blt c_len rfl T.b_len bt_len (jac (jdv 2) jan)) jan))) (fun _ _=>rfl)) jan))))),?_⟩
  walk_at "sim"
  have e1:(ts.map D.int).length=ts.length:=List.length_map ..
  have e2:(bs.map D.int).length=bs.length:=List.length_map ..
  refine ⟨hp,by omega,lg9 (by omega),fun r M1 r0 r1 s1=>gIx_mem r0 r1 fun d hd=>⟨s1.pool,by omega,lg9 (by omega),fun r' M2 r0' r1' s2=>gIx_mem r0' r1' fun d' hd'=>?_⟩⟩
  obtain ⟨t,ht,rfl⟩:=List.mem_map.mp hd
  obtain ⟨b,hb',rfl⟩:=List.mem_map.mp hd'
  have hb2:=hb b hb'
  exact ⟨_,_,rfl,by omega,Nat.lt_of_lt_of_le (log_lt hb2.2 (by decide)) (by decide),k _ _ (hP t ht b hb') (s1.trans s2)⟩
theorem ok__law_ratio (T:Txt K mg) (d:Df K mg "_law_ratio" s__law_ratio ["pool", "tops", "bottoms"]) (G_ratio:Fn P w K mg base "ratio" 2 ["top", "bottom"] spLow) (G__law_next:Fn P w K mg base "_law_next" 1 ["pool", "base"] spNext):Fn P w K mg base "_law_ratio" 3 ["pool", "tops", "bottoms"] sRatP:=by
  have sc:=sc__law_ratio
  refine fn_by d sc (by walk_at "len") (fun f cdv A outer s H E ds M R Y hr h=>?_)
  have hu:=hr.units
  obtain ⟨p,x,y,rfl,hp,ts,bs,P,rfl,rfl,⟨⟨t0,t1⟩,⟨b0,b1⟩,hb,hP⟩,k⟩:=h
  refine ⟨_,(js1 (jds_ret (jcF G_ratio (hr.mono (by decide)) rfl (jac (jd_ix i_any (jdv 1) (jcF G__law_next (hr.mono (by decide)) rfl (jac (jdv 0) (jac (jd_blt c_len rfl T.b_len bt_len (jac (jdv 1) jan)) jan))) (fun _ _=>rfl)) (jac (jd_ix i_any (jdv 2) (jcF G__law_next (hr.mono (by decide)) rfl (jac (jdv 0) (jac (jd_blt c_len rfl T.b_len bt_len (jac (jdv 2) jan)) jan))) (fun _ _=>rfl)) jan))))),?_⟩
  walk_at "sim"
  have e1:(ts.map D.int).length=ts.length:=List.length_map ..
  have e2:(bs.map D.int).length=bs.length:=List.length_map ..
  refine ⟨hp,by omega,lg9 (by omega),fun r M1 r0 r1 s1=>gIx_mem r0 r1 fun d hd=>⟨s1.pool,by omega,lg9 (by omega),fun r' M2 r0' r1' s2=>gIx_mem r0' r1' fun d' hd'=>?_⟩⟩
  obtain ⟨t,ht,rfl⟩:=List.mem_map.mp hd
  obtain ⟨b,hb',rfl⟩:=List.mem_map.mp hd'
  have hb2:=hb b hb'
  exact ⟨_,_,rfl,by omega,lg9 (by omega),k _ _ (hP t ht b hb') (s1.trans s2)⟩
theorem ok__law_ray (T:Txt K mg) (d:Df K mg "_law_ray" s__law_ray ["pool", "hall"]) (G__law_scaled:Fn P w K mg base "_law_scaled" 4 ["ray", "factor"] sScaled) (G_plus:Fn P w K mg base "plus" 3 ["one", "other"] spPlus) (G__law_next:Fn P w K mg base "_law_next" 1 ["pool", "base"] spNext) (G__law_along:Fn P w K mg base "_law_along" 9 ["hall", "other"] sAlongL) (G__law_ratio__2:Fn P w K mg base "_law_ratio" 3 ["pool", "tops", "bottoms"] sRatP2) (G__law_ratio:Fn P w K mg base "_law_ratio" 3 ["pool", "tops", "bottoms"] sRatP):Fn P w K mg base "_law_ray" 10 ["pool", "hall"] sRayH:=by
  have sc:=sc__law_ray
  refine fn_by d sc (by walk_at "len") (fun f cdv A outer s H E ds M R Y hr h=>?_)
  have hu:=hr.units
  obtain ⟨p,near,bs,far,rfl,hp,hok,k⟩:=h
  have e18:(10:Int) ^ Int.toNat 18=1000000000000000000:=by decide
  have e20:(10:Int) ^ Int.toNat 20=100000000000000000000:=by decide
  have e25:(10:Int) ^ Int.toNat 25=10000000000000000000000000:=by decide
  have e40:(10:Int) ^ Int.toNat 40=10000000000000000000000000000000000000000:=by decide
  refine ⟨_,(jsc (jds_set (i:=2) sc.nd rfl (Or.inl rfl) (jcF G__law_next (hr.mono (by decide)) rfl (jac (jdv 0) (jac jdi jan)))) (jsc (jds_set (i:=3) sc.nd rfl (Or.inl rfl) (jd_tup (jac (jcF G__law_ratio (hr.mono (by decide)) rfl (jac (jdv 0) (jac (jd_lstV (jac jdi (jac jdi (jac (jd_neg jdi) (jac jdi (jac (jd_neg jdi) (jac jdi (jac jdi jan)))))))) (jac (jd_lstV (jac jdi (jac jdi (jac jdi (jac jdi jan))))) jan)))) (jac (jcF G__law_ratio (hr.mono (by decide)) rfl (jac (jdv 0) (jac (jd_lstV (jac jdi (jac jdi (jac jdi (jac (jd_neg jdi) (jac jdi (jac (jd_neg jdi) jan))))))) (jac (jd_lstV (jac jdi (jac jdi (jac jdi jan)))) jan)))) jan)))) (jsc (jds_set (i:=4) sc.nd rfl (Or.inl rfl) (jcF G__law_ratio__2 (hr.mono (by decide)) rfl (jac (jdv 0) (jac (jd_lstV (jac jdi (jac (jd_neg jdi) (jac jdi (jac jdi (jac jdi (jac jdi jan))))))) (jac (jd_lstV (jac jdi (jac jdi (jac jdi (jac jdi (jac jdi (jac jdi (jac (jd_op o_pow jdi jdi) (jac (jd_op o_pow jdi jdi) jan))))))))) jan))))) (jsc (jds_if (jd_tcmp o_eqI (jdv 2) jdi (nomark _)) (js1 (jds_ret (jd_tup (jac (jd_tup (jac jdi (jac jdi jan))) (jac (jd_tup (jac jdi (jac jdi jan))) jan))))) jds_nil) (jsc (jds_if (jd_tcmp o_lt (jdv 2) jdi (nomark _)) (js1 (jds_ret (jcF G__law_scaled (hr.mono (by decide)) rfl (jac (jcF G__law_along (hr.mono (by decide)) rfl (jac (jdv 1) (jac (jd_cmp o_eqI (jdv 2) jdi (nomark _)) jan))) (jac (jdv 4) jan))))) jds_nil) (jsc (jds_if (jd_tcmp o_lt (jdv 2) jdi (nomark _)) (jsc (jds_set (i:=5) sc.nd rfl (Or.inl rfl) (jcF G__law_along (hr.mono (by decide)) rfl (jac (jdv 1) (jac jd_bl jan)))) (jsc (jds_set (i:=6) sc.nd rfl (Or.inl rfl) (jcF G__law_scaled (hr.mono (by decide)) rfl (jac (jdv 3) (jac (jd_tup (jac jdi (jac (jd_ix i_any (jd_lstV (jac (jd_op o_pow jdi jdi) (jac (jd_op o_pow jdi jdi) (jac (jd_op o_pow jdi jdi) jan)))) (jcF G__law_next (hr.mono (by decide)) rfl (jac (jdv 0) (jac jdi jan))) (fun _ _=>rfl)) jan))) jan)))) (js1 (jds_ret (jd_tup (jac (jcF G_plus (hr.mono (by decide)) rfl (jac (jd_ix i_any (jdv 5) jdi (fun _ _=>rfl)) (jac (jd_ix i_any (jdv 6) jdi (fun _ _=>rfl)) jan))) (jac (jcF G_plus (hr.mono (by decide)) rfl (jac (jd_ix i_any (jdv 5) jdi (fun _ _=>rfl)) (jac (jd_ix i_any (jdv 6) jdi (fun _ _=>rfl)) jan))) jan))))))) jds_nil) (js1 (jds_ret (jcF G__law_scaled (hr.mono (by decide)) rfl (jac (jdv 3) (jac (jdv 4) jan))))))))))),?_⟩
  walk_at "sim"
  refine ⟨hp,by decide,fun r M1 r0 r1 s1=>⟨s1.pool,[0,1,-1,2,-3,5,9],[1,1,2,3],fun q=>sz q≤4,rfl,rfl,⟨by decide,by decide,by decide,in_list (by decide) (by decide) (by decide)⟩,fun q M2 hq s2=>⟨s2.pool,[0,0,1,-1,2,-4],[1,2,3],fun q=>sz q≤4,rfl,rfl,⟨by decide,by decide,by decide,in_list (by decide) (by decide) (by decide)⟩,fun q1 M3 hq1 s3=>⟨cp20',cp40',?_⟩⟩⟩⟩
  rw [e20,e40]
  refine ⟨s3.pool,[1,-1,2,1,3,1],[1,1,2,3,10,1000,100000000000000000000,10000000000000000000000000000000000000000],fun q=>sz q≤133,rfl,rfl,⟨by decide,by decide,by decide,in_list (by decide) (by decide) (by decide)⟩,fun g M4 hg s4=>?_⟩
  have st:=((s1.trans s2).trans s3).trans s4
  have z0:sz (0:Rat)≤1:=by rw [RM.sz_zero]; decide
  have scale:∀ y u:Rat,sz y≤463∧sz u≤463∧sz y+sz u≤700→(sz y+sz g≤8900∧sz u+sz g≤8900)∧R (rayD (y*g) (u*g)) M4:=fun y u h=>by
    have m1:=RM.sz_mul y g
    have m2:=RM.sz_mul u g
    exact ⟨⟨by omega,by omega⟩,k _ _ _ ((CD.ray2 (k:=sz y+133) (l:=sz u+133) (by omega) (by omega)).mono (by omega)) st⟩
  refine ⟨fun _=>k 0 0 _ ((CD.ray2 (k:=1) (l:=1) z0 z0).mono (by decide)) st,fun _=>⟨fun _=>⟨hok,fun y u h=>by first | exact scale y u h | exact ⟨y,u,g,rfl,scale y u h⟩⟩,fun _=>⟨fun _=>⟨hok,fun y u hyu=>⟨cp18,cp25',cp40',st.pool,by decide,fun v M5 v0 v1 s5=>?_⟩⟩,fun _=>scale q q1 ⟨by omega,by omega,by omega⟩⟩⟩⟩
  refine gIx_mem v0 (by show v<3; exact v1) fun dd hdd=>?_
  obtain ⟨N,rfl,N0,N1⟩:∃ N:Nat,dd = .int (N:Int)∧0<N∧N<2 ^ 133:=by
    rw [e18,e25] at hdd
    simp only [List.mem_cons,List.not_mem_nil,or_false] at hdd
    rcases hdd with rfl | rfl | rfl
    · exact ⟨1000000000000000000,rfl,by decide,by decide⟩
    · exact ⟨10000000000000000000000000,rfl,by decide,by decide⟩
    · exact ⟨10000000000000000000000000000000000000000,rfl,by decide,by decide⟩
  obtain ⟨h,he,hz⟩:=one_over N0 N1
  rw [he]
  have m1:=RM.sz_mul q h
  have m2:=RM.sz_mul q1 h
  have a1:=RM.sz_add y (q*h)
  have a2:=RM.sz_add u (q1*h)
  walk_at "sim"
  exact ⟨⟨by omega,by omega⟩,by omega,by omega,k _ _ _ ((CD.ray2 (k:=sz y+140) (l:=sz u+140) (by omega) (by omega)).mono (by omega)) (st.trans s5)⟩
theorem ok__law_stops (T:Txt K mg) (d:Df K mg "_law_stops" s__law_stops ["pool", "parts", "count"]) (G__law_next:Fn P w K mg base "_law_next" 1 ["pool", "base"] spNext) (G__law_ratio:Fn P w K mg base "_law_ratio" 3 ["pool", "tops", "bottoms"] sRatP):Fn P w K mg base "_law_stops" 4 ["pool", "parts", "count"] sHStops:=by
  have sc:=sc__law_stops
  refine fn_by d sc (by walk_at "len") (fun f cdv A outer s H E ds M R Y hr h=>?_)
  have hu:=hr.units
  obtain ⟨p,x,n,rfl,hp,bs,rfl,⟨n0,n1,hl⟩,k⟩:=h
  refine ⟨_,(jsc (jds_set (i:=3) sc.nd rfl (Or.inl rfl) (jd_blty c_listOf rfl T.b_list bt_list (jac (jdv 1) jan))) (jsc (jds_forI PassesOwn.never rfl (jpd_rng rfl T.b_range (jac (jcF G__law_next (hr.mono (by decide)) rfl (jac (jdv 0) (jac (jd_op o_add (jdv 2) jdi) jan))) jan)) (jdg_name (i:=4) sc.nd rfl (Or.inl rfl)) (jsc (jds_set (i:=5) sc.nd rfl (Or.inl rfl) (jcF G__law_ratio (hr.mono (by decide)) rfl (jac (jdv 0) (jac (jd_lstV (jac jdi (jac jdi (jac jdi (jac jdi (jac jdi (jac jdi (jac jdi (jac jdi (jac jdi jan)))))))))) (jac (jd_lstV (jac jdi (jac jdi (jac jdi (jac jdi jan))))) jan))))) (js1 (jds_expr (jd_lm PySem.F.slot_list_insert PySem.F.type_list_insert dm_insert (jdv 3) (jac (jcF G__law_next (hr.mono (by decide)) rfl (jac (jdv 0) (jac (jd_op o_add (jd_blt c_len rfl T.b_len bt_len (jac (jdv 3) jan)) jdi) jan))) (jac (jd_tup (jac jd_str (jac (jdv 5) jan))) jan))))))) (js1 (jds_ret (jd_fgt (jd_frz (jdv 3))))))),?_⟩
  walk_at "sim"
  refine ⟨_,bs.map partD,rfl,by simp only [seqD_vl],fun l hN=>?_⟩
  have hlp:l≠p:=fun e=>by obtain ⟨_,_,_,hq⟩:=hp; rw [e,hq] at hN; cases hN
  have s0:PStep p M (updM M l (.lst (bs.map partD))):=(PStep.refl hp).put hN hlp
  refine ⟨s0.pool,by omega,lg9 (by omega),fun r M1 r0 r1 s1=>⟨by omega,?_⟩⟩
  refine ForK.by (fun i e M'=>∃ (cs:List (Str × Rat)) (z4 z5:Option D),e=[some (.ref p),some (.vl (bs.map partD)),some (.int n),some (.ref l),z4,z5]∧M' l=some (.lst (cs.map partD))∧PStep p M M'∧cs.length=bs.length+i∧cs.filter actB=bs.filter actB∧(∀ x∈cs,x∈bs∨(x.1 = "stop" ∧ 0<x.2∧sz x.2≤10))) ?_ (fun _ _ _ _ _=>trivial) ?_ ?_
  · exact ⟨bs,_,_,rfl,s1.keep l _ hlp updM_same,s0.trans s1,rfl,rfl,fun x hx=>.inl hx⟩
  · rintro i dd e M' hd ⟨cs,z4,z5,rfl,hM,st,hc,hf,hm⟩
    have hi:=(List.getElem?_eq_some_iff.mp hd).1
    rw [rangeD_length] at hi
    walk_at "sim"
    refine ⟨st.pool,[1,2,3,4,5,7,12,40,1000],[1,1,2,3],fun q=>0<q∧sz q≤10,rfl,rfl,⟨by decide,by decide,by decide,gt_list (by decide) (by decide) (by decide)⟩,?_⟩
    rintro q M2 ⟨q0,q1⟩ s2
    have hM2:=s2.keep l _ hlp hM
    refine LMK_of hM2 ?_
    rw [z_Len (lenD_lst hM2),List.length_map]
    walk_at "sim"
    refine ⟨s2.pool,by omega,lg9 (by omega),fun j M3 j0 j1 s3=>?_⟩
    have hM3:=s3.keep l _ hlp hM2
    obtain ⟨jn,rfl⟩:=Int.eq_ofNat_of_zero_le j0
    refine Ins_of hM3 (by rw [List.length_map]; omega) (by rw [List.length_map]; omega) ⟨cs.take jn++(Str.ofString "stop",q) :: cs.drop jn,some dd,some (ratD q),rfl,?_,((st.trans s2).trans s3).put hN hlp,?_,?_,?_⟩
    · rw [updM_same,List.map_append,List.map_cons,List.map_take,List.map_drop]
      rfl
    · rw [List.length_append,List.length_cons,List.length_take,List.length_drop]; omega
    · rw [List.filter_append,List.filter_cons,show actB (Str.ofString "stop",q)=false from rfl,← hf]
      show _++List.filter actB (cs.drop jn)=_
      rw [← List.filter_append,List.take_append_drop]
    · intro x hx
      rcases List.mem_append.mp hx with hx | hx
      · exact hm x (List.mem_of_mem_take hx)
      · rcases List.mem_cons.mp hx with rfl | hx
        · exact .inr ⟨rfl,q0,q1⟩
        · exact hm x (List.mem_of_mem_drop hx)
  · rintro e M' ⟨cs,z4,z5,rfl,hM,st,hc,hf,hm⟩
    rw [rangeD_length] at hc
    walk_at "sim"
    refine ⟨l,_,rfl,hM,?_⟩
    exact Fgt_of (M2:=delM M' l) (fun _ _ h=>h) (k cs _ (by omega) hf hm (st.del hN hlp))
theorem ok__law_pieces (T:Txt K mg) (d:Df K mg "_law_pieces" s__law_pieces ["pool", "gap"]) (G_minus:Fn P w K mg base "minus" 4 ["one", "other"] spMinus) (G_ratio:Fn P w K mg base "ratio" 2 ["top", "bottom"] spLow) (G__law_next:Fn P w K mg base "_law_next" 1 ["pool", "base"] spNext):Fn P w K mg base "_law_pieces" 5 ["pool", "gap"] sPieces:=by
  have sc:=sc__law_pieces
  refine fn_by d sc (by walk_at "len") (fun f cdv A outer s H E ds M R Y hr h=>?_)
  have hu:=hr.units
  obtain ⟨p,G,rfl,hp,⟨g0,g1⟩,k⟩:=h
  refine ⟨_,(jsc (jds_set (i:=2) sc.nd rfl (Or.inl rfl) (jd_op o_add jdi (jcF G__law_next (hr.mono (by decide)) rfl (jac (jdv 0) (jac jdi jan))))) (jsc (jds_set (i:=3) sc.nd rfl (Or.inl rfl) (jd_lst jan)) (jsc (jds_forI PassesOwn.never rfl (jpd_rng rfl T.b_range (jac (jd_op o_sub (jdv 2) jdi) jan)) (jdg_name (i:=4) sc.nd rfl (Or.inl rfl)) (jsc (jds_set (i:=5) sc.nd rfl (Or.inl rfl) (jcF G_ratio (hr.mono (by decide)) rfl (jac (jd_ix i_any (jdv 1) jdi (fun _ _=>rfl)) (jac (jd_op o_mul (jd_ix i_any (jdv 1) jdi (fun _ _=>rfl)) (jd_op o_add jdi (jcF G__law_next (hr.mono (by decide)) rfl (jac (jdv 0) (jac jdi jan))))) jan)))) (jsc (jds_expr (jd_lm PySem.F.slot_list_append PySem.F.type_list_append dm_append (jdv 3) (jac (jd_tup (jac jd_str (jac (jdv 5) jan))) jan))) (js1 (jds_set (i:=1) sc.nd rfl (Or.inl rfl) (jcF G_minus (hr.mono (by decide)) rfl (jac (jdv 1) (jac (jdv 5) jan)))))))) (js1 (jds_ret (jd_fgt (jd_catV (jd_frz (jdv 3)) (jd_lstV (jac (jd_tup (jac jd_str (jac (jdv 1) jan))) jan))))))))),?_⟩
  walk_at "sim"
  refine ⟨hp,lg9 (by decide),fun r M1 r0 r1 s1 l hl=>⟨by omega,?_⟩⟩
  have hlp:l≠p:=fun e=>by obtain ⟨_,_,_,hq⟩:=s1.pool; rw [e,hq] at hl; cases hl
  refine ForK.by (fun i e M'=>∃ (qs:List Rat) (c:Rat) (z4 z5:Option D),e=[some (.ref p),some (ratD (G*c)),some (.int (1+r)),some (.ref l),z4,z5]∧M' l=some (.lst ((qs.map fun q=>(Str.ofString "gap",G*q)).map partD))∧PStep p M1 M'∧qs.length=i∧(∀ q∈qs,0≤q∧sz q≤5)∧0<c∧sz c≤1+2*i) ?_ (fun _ _ _ _ _=>trivial) ?_ ?_
  · exact ⟨[],1,_,_,by rw [show G*1=G by grind],updM_same,(PStep.refl s1.pool).put hl hlp,rfl,fun q hq=>(by cases hq),by decide,by rw [RM.sz_one]; omega⟩
  · rintro i dd e M' hd ⟨qs,c,z4,z5,rfl,hM,st,hq,hqs,hc,hcz⟩
    have hi:=(List.getElem?_eq_some_iff.mp hd).1
    rw [rangeD_length] at hi
    have zg:=RM.sz_mul G c
    walk_at "sim"
    refine ⟨st.pool,lg9 (by decide),fun m M2 m0 m1 s2=>?_⟩
    rw [div_low (G*c) (2+m)]
    obtain ⟨z1,z2,p1,p2⟩:=sz23 (m:=2+m) (by omega) (by omega)
    have hm0:((2+m:Int):Rat)≠0:=fun z=>by rw [z] at p1; exact absurd p1 (by decide +kernel)
    have dp:=(G*c).den_pos
    have dl:=den_lt (G*c)
    have zd:=RM.sz_div (G*c) ((2+m:Int):Rat) hm0
    have zc:=RM.sz_div c ((2+m:Int):Rat) hm0
    have zr:=RM.sz_mul c (1 - 1 / ((2+m:Int):Rat))
    have hM2:M2 l=_:=s2.keep l _ hlp hM
    refine ⟨m64r (by omega) (by omega),Int.mul_ne_zero (by omega) (by omega),?_,LMK_of hM2 (App_of hM2 (by rw [List.length_map,List.length_map]; omega) ⟨by omega,qs++[c / ((2+m:Int):Rat)],c*(1 - 1 / ((2+m:Int):Rat)),some dd,some (ratD (G*c / ((2+m:Int):Rat))),?_,?_,?_,?_,?_,?_,by omega⟩)⟩
    · have h1:((G*c).den*(2+m.toNat))<2 ^ (sz (G*c)+3):=nat_mul_lt dl (by omega)
      have e:(((G*c).den:Int)*(2+m)).natAbs=(G*c).den*(2+m.toNat):=by
        rw [Int.natAbs_mul,Int.natAbs_natCast]; congr 1; omega
      rw [e]
      exact log_lt (Nat.lt_of_lt_of_le h1 (Nat.pow_le_pow_right (by decide) (by omega))) (by decide)
    · rw [show G*c - G*c / ((2+m:Int):Rat)=G*(c*(1 - 1 / ((2+m:Int):Rat))) by grind]
    · rw [updM_same,List.map_append,List.map_append,show G*c / ((2+m:Int):Rat)=G*(c / ((2+m:Int):Rat)) by grind]
      rfl
    · exact (st.trans s2).put hl hlp
    · rw [List.length_append]; show qs.length+1=_; omega
    · intro q hq'
      rcases List.mem_append.mp hq' with hq' | hq'
      · exact hqs q hq'
      · rw [List.mem_singleton.mp hq']
        exact ⟨by rw [show c / ((2+m:Int):Rat)=c*(1 / ((2+m:Int):Rat)) by grind]; exact Rat.le_of_lt (Rat.mul_pos hc p1),by omega⟩
    · exact Rat.mul_pos hc p2
  · rintro e M' ⟨qs,c,z4,z5,rfl,hM,st,hq,hqs,hc,hcz⟩
    rw [rangeD_length] at hq hcz
    walk_at "sim"
    refine ⟨l,_,rfl,hM,?_⟩
    show gCatV _ _ _ _
    walk_at "sim"
    have hl0:M l=none:=by
      cases e:M l with
      | none=>rfl
      | some o=>rw [s1.keep l o hlp e] at hl; cases hl
    have hs:1000≤sizeLine:=by decide
    refine ⟨by rw [List.length_map,List.length_map]; omega,Fgt_of (M2:=delM M' l) (fun _ _ h=>h) ?_⟩
    have k2:=k (qs++[c]) (delM M' l) (by rw [List.length_append]; show qs.length+1≤3; omega) (fun q hq'=>by
      rcases List.mem_append.mp hq' with hq' | hq'
      · exact hqs q hq'
      · rw [List.mem_singleton.mp hq']; exact ⟨Rat.le_of_lt hc,by omega⟩) ((s1.trans st).del hl0 hlp)
    rw [List.map_append,List.map_append] at k2
    exact k2
theorem ok__law_known_hall (T:Txt K mg) (d:Df K mg "_law_known_hall" s__law_known_hall ["pool"]) (G_ratio:Fn P w K mg base "ratio" 2 ["top", "bottom"] spLow) (G__law_stops:Fn P w K mg base "_law_stops" 4 ["pool", "parts", "count"] sHStops) (G__law_pieces:Fn P w K mg base "_law_pieces" 5 ["pool", "gap"] sPieces) (G__law_ratio:Fn P w K mg base "_law_ratio" 3 ["pool", "tops", "bottoms"] sRatP) (G__law_next:Fn P w K mg base "_law_next" 1 ["pool", "base"] spNext):Fn P w K mg base "_law_known_hall" 6 ["pool"] sHall:=by
  have sc:=sc__law_known_hall
  refine fn_by d sc (by walk_at "len") (fun f cdv A outer s H E ds M R Y hr h=>?_)
  have hu:=hr.units
  obtain ⟨p,rfl,hp,k⟩:=h
  refine ⟨_,(jsc (jds_set (i:=1) sc.nd rfl (Or.inl rfl) (jd_lstV (jac (jd_tup (jac jdi (jac jdi jan))) (jac (jd_tup (jac jdi (jac jdi jan))) (jac (jd_tup (jac jdi (jac (jd_neg jdi) jan))) (jac (jd_tup (jac jdi (jac jdi jan))) (jac (jd_tup (jac jdi (jac jdi jan))) (jac (jd_tup (jac jdi (jac jdi jan))) (jac (jd_tup (jac jdi (jac jdi jan))) (jac (jd_tup (jac jdi (jac jdi jan))) (jac (jd_tup (jac jdi (jac jdi jan))) (jac (jd_tup (jac jdi (jac jdi jan))) (jac (jd_tup (jac jdi (jac jdi jan))) (jac (jd_tup (jac jdi (jac jdi jan))) jan)))))))))))))) (jsc (jds_asg (jd_ix i_any (jdv 1) (jcF G__law_next (hr.mono (by decide)) rfl (jac (jdv 0) (jac jdi jan))) (fun _ _=>rfl)) (jdg_tup (n:=2) rfl (jdgs_cons (jdg_name (i:=2) sc.nd rfl (Or.inl rfl)) (jdgs_cons (jdg_name (i:=3) sc.nd rfl (Or.inl rfl)) jdgs_nil)))) (jsc (jds_set (i:=4) sc.nd rfl (Or.inl rfl) (jd_tup (jac jdi (jac jdi jan)))) (jds_consM (jds_if (jd_tcmp o_eqI (jcF G__law_next (hr.mono (by decide)) rfl (jac (jdv 0) (jac jdi jan))) jdi (nomark _)) (jsc (jds_set (i:=5) sc.nd rfl (Or.inl rfl) (jd_lstV (jac (jd_tup (jac jdi (jac jdi jan))) (jac (jd_tup (jac jdi (jac jdi jan))) (jac (jd_tup (jac (jd_neg jdi) (jac (jd_neg jdi) jan))) (jac (jd_tup (jac jdi (jac jdi jan))) (jac (jd_tup (jac jdi (jac jdi jan))) (jac (jd_tup (jac jdi (jac (jd_neg jdi) jan))) (jac (jd_tup (jac jdi (jac jdi jan))) (jac (jd_tup (jac jdi (jac jdi jan))) (jac (jd_tup (jac jdi (jac jdi jan))) (jac (jd_tup (jac jdi (jac jdi jan))) (jac (jd_tup (jac jdi (jac jdi jan))) (jac (jd_tup (jac jdi (jac (jd_neg jdi) jan))) jan)))))))))))))) (jsc (jds_asg (jd_ix i_any (jdv 5) (jcF G__law_next (hr.mono (by decide)) rfl (jac (jdv 0) (jac jdi jan))) (fun _ _=>rfl)) (jdg_tup (n:=2) rfl (jdgs_cons (jdg_name (i:=2) sc.nd rfl (Or.inl rfl)) (jdgs_cons (jdg_name (i:=3) sc.nd rfl (Or.inl rfl)) jdgs_nil)))) (js1 (jds_set (i:=4) sc.nd rfl (Or.inl rfl) (jd_tup (jac jdi (jac jdi jan))))))) jds_nil) (jsc (jds_set (i:=6) sc.nd rfl (Or.inl rfl) (jcF G__law_ratio (hr.mono (by decide)) rfl (jac (jdv 0) (jac (jd_lstV (jac jdi (jac jdi (jac jdi (jac jdi (jac jdi (jac jdi (jac jdi (jac jdi (jac (jd_op o_pow jdi jdi) jan)))))))))) (jac (jd_lstV (jac jdi (jac jdi (jac jdi (jac jdi jan))))) jan))))) (jsc (jds_set (i:=7) sc.nd rfl (Or.inl rfl) (jcF G__law_stops (hr.mono (by decide)) rfl (jac (jdv 0) (jac (jcF G__law_pieces (hr.mono (by decide)) rfl (jac (jdv 0) (jac (jdv 6) jan))) (jac jdi jan))))) (jsc (jds_set (i:=8) sc.nd rfl (Or.inl rfl) (jcF G_ratio (hr.mono (by decide)) rfl (jac (jd_op o_mul (jdv 2) (jd_ix i_any (jdv 6) jdi (fun _ _=>rfl))) (jac (jd_op o_mul (jd_ix i_any (jdv 4) jdi (fun _ _=>rfl)) (jd_ix i_any (jdv 6) jdi (fun _ _=>rfl))) jan)))) (js1 (jds_ret (jd_tup (jac (jdv 8) (jac (jdv 7) (jac (jcF G_ratio (hr.mono (by decide)) rfl (jac (jd_op o_mul (jdv 3) (jd_ix i_any (jdv 6) jdi (fun _ _=>rfl))) (jac (jd_op o_mul (jd_ix i_any (jdv 4) jdi (fun _ _=>rfl)) (jd_ix i_any (jdv 6) jdi (fun _ _=>rfl))) jan))) jan))))))))))))),?_⟩
  walk_at "sim"
  refine ⟨hp,lg9 (by decide),fun r M1 r0 r1 s1=>gIx_mem r0 (by show r<12; omega) fun d hd=>?_⟩
  obtain ⟨n,f,rfl,hn,hf⟩:∃ n f:Int,d = .tup [.int n,.int f]∧n.natAbs≤13∧f.natAbs≤13:=by
    simp only [List.mem_cons,List.not_mem_nil,or_false] at hd
    rcases hd with rfl | rfl | rfl | rfl | rfl | rfl | rfl | rfl | rfl | rfl | rfl | rfl
    all_goals exact ⟨_,_,rfl,by decide,by decide⟩
  walk_at "sim"
  refine JoinBy (fun e' M'=>∃ (n f b:Int) (x1 x5:Option D),e'=[some (.ref p),x1,some (.int n),some (.int f),some (.tup [.int b,.int b]),x5,none,none,none]∧n.natAbs≤13∧f.natAbs≤13∧(b=1∨b=2)∧PStep p M M') ?_ ?_
  · walk_at "sim"
    refine ⟨s1.pool,lg9 (by decide),fun r' M2 r0' r1' s2=>⟨fun _=>?_,fun _=>⟨n,f,1,_,_,rfl,hn,hf,.inl rfl,s1.trans s2⟩⟩⟩
    refine ⟨s2.pool,lg9 (by decide),fun r2 M3 r20 r21 s3=>gIx_mem r20 (by show r2<12; omega) fun d hd=>?_⟩
    obtain ⟨n',f',rfl,hn',hf'⟩:∃ n f:Int,d = .tup [.int n,.int f]∧n.natAbs≤13∧f.natAbs≤13:=by
      simp only [List.mem_cons,List.not_mem_nil,or_false] at hd
      rcases hd with rfl | rfl | rfl | rfl | rfl | rfl | rfl | rfl | rfl | rfl | rfl | rfl
      all_goals exact ⟨_,_,rfl,by decide,by decide⟩
    walk_at "sim"
    exact ⟨n',f',2,_,_,rfl,hn',hf',.inr rfl,(s1.trans s2).trans s3⟩
  · rintro e' M2 ⟨n,f,b,x1,x5,rfl,hn,hf,hb,s2⟩
    walk_at "sim"
    refine ⟨⟨by decide,by decide,by decide⟩,s2.pool,[1,2,3,5,1,2,3,5,10 ^ Int.toNat 20],[1,1,2,3],fun q=>0<q∧sz q≤67,rfl,rfl,⟨by decide,by decide,by decide,gt_list (by decide) (by decide) (by decide)⟩,?_⟩
    rintro G M3 ⟨G0,G1⟩ s3
    refine ⟨s3.pool,⟨G0,G1⟩,fun qs M4 ql hqs s4=>⟨s4.pool,_,rfl,by rw [List.length_map]; omega,fun cs M5 cl cf cm s5=>?_⟩⟩
    rw [List.length_map] at cl
    have hc7:cs.length≤7:=Nat.le_trans cl (by show qs.length+4≤7; omega)
    obtain ⟨H1,H2,H3⟩:=known_ok G0 G1 ql hqs hc7 cf cm hn hf hb
    have gp:=num_gt G0
    have b0:b≠0:=by omega
    have ne:b*G.num≠0:=Int.mul_ne_zero b0 (by omega)
    have lg:(b*G.num).natAbs.log2<9000:=log_lt (Nat.lt_of_lt_of_le (int_mul_lt (show b.natAbs<2 ^ 2 by omega) (num_lt' G G1)) (Nat.pow_le_pow_right (by decide) (by decide))) (by decide)
    have i1:IntMulOk b G.num:=m64l (by omega) (by omega)
    rw [low_hall gp b0,low_hall gp b0]
    exact ⟨m64l (by omega) (by omega),i1,ne,lg,m64l (by omega) (by omega),i1,ne,lg,k _ _ _ _ H1 H2 H3 (((s2.trans s3).trans s4).trans s5)⟩
theorem ok__law_hall (T:Txt K mg) (d:Df K mg "_law_hall" s__law_hall ["pool"]) (G__law_ratio:Fn P w K mg base "_law_ratio" 3 ["pool", "tops", "bottoms"] sRatP) (G__law_stops:Fn P w K mg base "_law_stops" 4 ["pool", "parts", "count"] sHStops) (G__law_next:Fn P w K mg base "_law_next" 1 ["pool", "base"] spNext) (G_minus:Fn P w K mg base "minus" 4 ["one", "other"] spMinus) (G__law_known_hall:Fn P w K mg base "_law_known_hall" 6 ["pool"] sHall):Fn P w K mg base "_law_hall" 7 ["pool"] sHall:=by
  have sc:=sc__law_hall
  refine fn_by d sc (by walk_at "len") (fun f cdv A outer s H E ds M R Y hr h=>?_)
  have hu:=hr.units
  obtain ⟨p,rfl,hp,k⟩:=h
  refine ⟨_,(jsc (jds_set (i:=1) sc.nd rfl (Or.inl rfl) (jcF G__law_next (hr.mono (by decide)) rfl (jac (jdv 0) (jac jdi jan)))) (jsc (jds_if (jd_tcmp o_lt (jdv 1) jdi (nomark _)) (js1 (jds_ret (jd_fgt (jcF G__law_known_hall (hr.mono (by decide)) rfl (jac (jdv 0) jan))))) jds_nil) (jsc (jds_set (i:=2) sc.nd rfl (Or.inl rfl) (jcF G__law_ratio (hr.mono (by decide)) rfl (jac (jdv 0) (jac (jd_lstV (jac jdi (jac jdi (jac (jd_neg jdi) (jac jdi (jac jdi (jac (jd_neg jdi) jan))))))) (jac (jd_lstV (jac jdi (jac jdi (jac jdi jan)))) jan))))) (jsc (jds_if (jd_tcmp o_eqI (jdv 1) jdi (nomark _)) (js1 (jds_ret (jd_fgt (jd_tup (jac (jdv 2) (jac (jcF G__law_stops (hr.mono (by decide)) rfl (jac (jdv 0) (jac (jd_lstV jan) (jac jdi jan)))) (jac (jcF G_minus (hr.mono (by decide)) rfl (jac (jd_tup (jac jdi (jac jdi jan))) (jac (jdv 2) jan))) jan))))))) jds_nil) (jsc (jds_set (i:=3) sc.nd rfl (Or.inl rfl) (jd_lst jan)) (jsc (jds_forI PassesOwn.never rfl (jpd_rng rfl T.b_range (jac (jcF G__law_next (hr.mono (by decide)) rfl (jac (jdv 0) (jac jdi jan))) jan)) (jdg_name (i:=4) sc.nd rfl (Or.inl rfl)) (js1 (jds_if (jd_tcmp o_eqI (jcF G__law_next (hr.mono (by decide)) rfl (jac (jdv 0) (jac jdi jan))) jdi (nomark _)) (js1 (jds_expr (jd_lm PySem.F.slot_list_append PySem.F.type_list_append dm_append (jdv 3) (jac (jd_tup (jac jd_str (jac (jcF G__law_ratio (hr.mono (by decide)) rfl (jac (jdv 0) (jac (jd_lstV (jac jdi (jac jdi (jac jdi (jac jdi (jac jdi (jac jdi jan))))))) (jac (jd_lstV (jac jdi (jac jdi (jac jdi jan)))) jan)))) jan))) jan)))) (js1 (jds_expr (jd_lm PySem.F.slot_list_append PySem.F.type_list_append dm_append (jdv 3) (jac (jd_tup (jac jd_str (jac (jcF G__law_ratio (hr.mono (by decide)) rfl (jac (jdv 0) (jac (jd_lstV (jac jdi (jac jdi (jac (jd_neg jdi) (jac jdi (jac (jd_neg jdi) (jac jdi jan))))))) (jac (jd_lstV (jac jdi (jac jdi (jac jdi jan)))) jan)))) jan))) jan))))))) (js1 (jds_ret (jd_fgt (jd_tup (jac (jdv 2) (jac (jcF G__law_stops (hr.mono (by decide)) rfl (jac (jdv 0) (jac (jd_frz (jdv 3)) (jac jdi jan)))) (jac (jcF G__law_ratio (hr.mono (by decide)) rfl (jac (jdv 0) (jac (jd_lstV (jac jdi (jac jdi (jac (jd_neg jdi) (jac jdi (jac (jd_neg jdi) (jac jdi jan))))))) (jac (jd_lstV (jac jdi (jac jdi jan))) jan)))) jan))))))))))))),?_⟩
  walk_at "sim"
  refine ⟨hp,lg9 (by decide),fun r M1 r0 r1 s1=>⟨fun _=>⟨s1.pool,fun near bs far M2 h1 h2 h3 s2=>Fgt_of (M2:=M2) (fun _ _ h=>h) (k near bs far M2 h1 h2 h3 (s1.trans s2))⟩,fun _=>?_⟩⟩
  refine ⟨s1.pool,[0,1,-1,2,1,-3],[1,2,3],fun q=>sz q≤5,rfl,rfl,⟨by decide,by decide,by decide,in_list (by decide) (by decide) (by decide)⟩,fun q M2 hq s2=>⟨fun _=>?_,fun _ l hN=>?_⟩⟩
  · have zn:=RM.sz_neg q
    refine ⟨s2.pool,[],rfl,by decide,fun cs M3 cl cf cm s3=>⟨by rw [RM.sz_zero]; omega,Fgt_of (M2:=M3) (fun _ _ h=>h) ?_⟩⟩
    obtain ⟨H1,H2,H3⟩:=plain_ok (near:=q) (far:=0 - q) (bs:=[]) hq (by rw [show 0 - q = -q by grind,zn]; exact hq) (fun x hx=>(by cases hx)) (by decide) (Nat.le_trans cl (by decide)) cf cm
    exact k _ _ _ _ H1 H2 H3 ((s1.trans s2).trans s3)
  · have hlp:l≠p:=fun e=>by obtain ⟨_,_,_,hq⟩:=s2.pool; rw [e,hq] at hN; cases hN
    have s12:=s1.trans s2
    have hM0:M l=none:=by
      cases e:M l with
      | none=>rfl
      | some o=>rw [s12.keep l o hlp e] at hN; cases hN
    have s0:PStep p M2 (updM M2 l (.lst [])):=(PStep.refl s2.pool).put hN hlp
    refine ⟨s0.pool,lg9 (by decide),fun n M3 n0 n1 s3=>⟨by omega,?_⟩⟩
    refine ForK.by (fun i e M'=>∃ (bs:List (Str × Rat)) (z4:Option D),e=[some (.ref p),some (.int r),some (ratD q),some (.ref l),z4]∧M' l=some (.lst (bs.map partD))∧PStep p M2 M'∧bs.length=i∧(∀ x∈bs,sz x.2≤5∧((x.1 = "gap" ∧ 0≤x.2)∨x.1 = "glass"))) ?_ (fun _ _ _ _ _=>trivial) ?_ ?_
    · exact ⟨[],_,rfl,s3.keep l _ hlp updM_same,s0.trans s3,rfl,fun x hx=>(by cases hx)⟩
    · rintro i dd e M' hd ⟨bs,z4,rfl,hM,st,hb,hbs⟩
      have hi:=(List.getElem?_eq_some_iff.mp hd).1
      rw [rangeD_length] at hi
      have hadd:∀ (w:Str) (q2:Rat) (M5:Mem),PStep p M' M5→sz q2≤5→((w = "gap" ∧ 0≤q2)∨w = "glass")→∃ (bs':List (Str × Rat)) (z4:Option D),[some (D.ref p),some (D.int r),some (ratD q),some (D.ref l),some dd]=[some (.ref p),some (.int r),some (ratD q),some (.ref l),z4]∧(updM M5 l (.lst (bs.map partD++[.tup [.str w,ratD q2]]))) l=some (.lst (bs'.map partD))∧PStep p M2 (updM M5 l (.lst (bs.map partD++[.tup [.str w,ratD q2]])))∧bs'.length=i+1∧(∀ x∈bs',sz x.2≤5∧((x.1 = "gap" ∧ 0≤x.2)∨x.1 = "glass")):=fun w q2 M5 s5 hq2 hw=>by
        refine ⟨bs++[(w,q2)],_,rfl,by rw [updM_same,List.map_append]; rfl,(st.trans s5).put hN hlp,by rw [List.length_append]; show bs.length+1=_; omega,fun x hx=>?_⟩
        rcases List.mem_append.mp hx with hx | hx
        · exact hbs x hx
        · rw [List.mem_singleton.mp hx]; exact ⟨hq2,hw⟩
      walk_at "sim"
      refine ⟨st.pool,lg9 (by decide),fun g M4 g0 g1 s4=>⟨fun _=>LMK_of (s4.keep l _ hlp hM) ⟨s4.pool,[0,1,2,3,1,5],[1,2,3],fun q=>0≤q∧sz q≤5,rfl,rfl,⟨by decide,by decide,by decide,ge_list (by decide) (by decide) (by decide)⟩,?_⟩,fun _=>LMK_of (s4.keep l _ hlp hM) ⟨s4.pool,[0,1,-1,2,-2,3],[1,2,3],fun q=>sz q≤5,rfl,rfl,⟨by decide,by decide,by decide,in_list (by decide) (by decide) (by decide)⟩,?_⟩⟩⟩
      · rintro q2 M5 ⟨h1,h2⟩ s5
        exact App_of (s5.keep l _ hlp (s4.keep l _ hlp hM)) (by rw [List.length_map]; omega) (hadd _ _ _ (s4.trans s5) h2 (.inl ⟨rfl,h1⟩))
      · rintro q2 M5 h2 s5
        exact App_of (s5.keep l _ hlp (s4.keep l _ hlp hM)) (by rw [List.length_map]; omega) (hadd _ _ _ (s4.trans s5) h2 (.inr rfl))
    · rintro e M' ⟨bs,z4,rfl,hM,st,hb,hbs⟩
      rw [rangeD_length] at hb
      walk_at "sim"
      refine ⟨l,_,rfl,hM,?_⟩
      have sd:=st.del hN hlp
      refine ⟨sd.pool,bs,rfl,by omega,fun cs M4 cl cf cm s4=>⟨s4.pool,[0,1,-1,2,-2,3],[1,2],fun q=>sz q≤5,rfl,rfl,⟨by decide,by decide,by decide,in_list (by decide) (by decide) (by decide)⟩,fun f M5 hf s5=>Fgt_of (M2:=M5) (fun _ _ h=>h) ?_⟩⟩
      obtain ⟨H1,H2,H3⟩:=plain_ok hq hf hbs (by omega) (Nat.le_trans cl (by show bs.length+3≤7; omega)) cf cm
      exact k _ _ _ _ H1 H2 H3 (((s12.trans sd).trans s4).trans s5)
theorem ok__law_pool (T:Txt K mg) (d:Df K mg "_law_pool" s__law_pool ["cell"]):Fn P w K mg base "_law_pool" 1 ["cell"] spPool:=by
  have sc:=sc__law_pool
  refine fn_by d sc (fun ds M R Y h=>?_) (fun f cdv A outer s H E ds M R Y hr h=>?_)
  · obtain ⟨c,rfl,_⟩:=h; rfl
  · obtain ⟨c,rfl,k⟩:=h
    refine ⟨_,(js1 (jds_ret (jd_lst (jac (jd_blt (c_max rfl) rfl T.b_max bt_max (jac jdi (jac (jd_op o_sub (jdv 0) (jd_op o_pow jdi jdi)) jan))) (jac (jd_op o_mod (jdv 0) (jd_op o_pow jdi jdi)) (jac jdi jan)))))),?_⟩
    refine ⟨_,rfl,_,_,rfl,rfl,cp18,_,rfl,_,_,rfl,_,rfl,_,_,rfl,rfl,cp18,_,_,rfl,rfl,(by show (0:Int)<10 ^ 18; decide),sl 3,fun p hp=>?_⟩
    exact k p _ hp (MK.new hp) ⟨_,_,_,updM_same⟩
theorem ok_law {f:Addr} {fd:FuncData} (T:Txt K mg) (d:FunD K "law" s_law f fd) (G__law_lines:Fn P w K mg base "_law_lines" 6 ["hall"] sLwLines) (G_late_shown:Fn P w K mg base "late_shown" 8 ["hall", "ray", "k"] sLateSh) (G__law_late_shown:Fn P w K mg base "_law_late_shown" 9 ["hall", "ray", "k"] sLwLate) (G__law_tight:Fn P w K mg base "_law_tight" 9 ["pool", "hall", "ray"] sTight) (G__law_ray:Fn P w K mg base "_law_ray" 10 ["pool", "hall"] sRayH) (G__law_hall:Fn P w K mg base "_law_hall" 7 ["pool"] sHall) (G__law_pool:Fn P w K mg base "_law_pool" 1 ["cell"] spPool):FnOk P w K mg base CX0 11 f fd ["script"] (upSp K spLaw):=by
  have sc:=sc_law
  refine fn_ok d sc (fun ds M R Y h=>by obtain ⟨n,rfl,_⟩:=h; rfl) (fun cdv A outer s H E ds M R Y hr h=>?_)
  obtain ⟨ns,rfl,hlen,k⟩:=h
  have hu:=hr.units
  refine ⟨_,(jsc (jds_forI PassesOwn.never rfl (jpd_seq (jd_catV (jd_lstV (jac jdi jan)) (jdv 0))) (jdg_name (i:=1) sc.nd rfl (Or.inl rfl)) (jsc (jds_set (i:=2) sc.nd rfl (Or.inl rfl) (jcF G__law_pool (hr.mono (by decide)) rfl (jac (jdv 1) jan))) (jsc (jds_set (i:=3) sc.nd rfl (Or.inl rfl) (jcF G__law_hall (hr.mono (by decide)) rfl (jac (jdv 2) jan))) (jsc (jds_set (i:=4) sc.nd rfl (Or.inl rfl) (jcF G__law_ray (hr.mono (by decide)) rfl (jac (jdv 2) (jac (jdv 3) jan)))) (jsc (jds_set (i:=3) sc.nd rfl (Or.inl rfl) (jcF G__law_tight (hr.mono (by decide)) rfl (jac (jdv 2) (jac (jdv 3) (jac (jdv 4) jan))))) (jsc (jds_set (i:=5) sc.nd rfl (Or.inl rfl) (jd_tup (jac (jd_ix i_any (jdv 3) jdi (fun _ _=>rfl)) (jac (jd_listV rfl T.b_list bt_list (jac (jd_ix i_any (jdv 3) jdi (fun _ _=>rfl)) jan)) (jac (jd_ix i_any (jdv 3) jdi (fun _ _=>rfl)) jan))))) (js1 (jds_forI PassesOwn.never rfl (jpd_rng rfl T.b_range (jac (jd_blt c_len rfl T.b_len bt_len (jac (jcF G__law_lines (hr.mono (by decide)) rfl (jac (jdv 3) jan)) jan)) jan)) (jdg_name (i:=6) sc.nd rfl (Or.inl rfl)) (jsc (jds_set (i:=7) sc.nd rfl (Or.inl rfl) (jcF G__law_late_shown (hr.mono (by decide)) rfl (jac (jdv 3) (jac (jdv 4) (jac (jdv 6) jan))))) (js1 (jds_forI PassesOwn.never rfl (jpd_rng rfl T.b_range (jac jdi jan)) (jdg_name (i:=8) sc.nd rfl (Or.inl rfl)) (jsc (jds_set (i:=9) sc.nd rfl (Or.inl rfl) (jcF G_late_shown (hr.mono (by decide)) rfl (jac (jdv 3) (jac (jdv 4) (jac (jdv 6) jan))))) (js1 (jds_if (jd_tw (jd_or (jd_not (jd_tval (jd_blt (c_isi T.sub) rfl T.b_isinstance bt_isinstance (jac (jdv 9) (jac (jd_ty rfl T.b_bool bt_bool) jan))))) (jd_or (jd_tcmp o_neB (jdv 9) (jdv 7) (nomark _)) (jd_or1 (jd_tcmp (o_neC hu) (jdv 3) (jdv 5) (nomark _)))))) (js1 (jds_ret jd_bl)) jds_nil)))))))))))))) (js1 (jds_ret jd_bl))),?_⟩
  walk_at "sim"
  refine ⟨Nat.le_trans (by rw [List.length_map]; omega) (show 1000≤sizeLine by decide),?_⟩
  refine ForK.by (fun i e M'=>∃ x1 x2 x3 x4 x5 x6 x7 x8 x9:Option D,e=[some (.vl (ns.map D.int)),x1,x2,x3,x4,x5,x6,x7,x8,x9]) ⟨_,_,_,_,_,_,_,_,_,rfl⟩ (fun i e M' _ _=>by simp only [seqD_vl]) ?_ ?_
  · rintro i dd e M' hd ⟨x1,x2,x3,x4,x5,x6,x7,x8,x9,rfl⟩
    obtain ⟨n,rfl⟩:∃ n:Int,dd = .int n:=by
      have hm:=List.mem_of_getElem? hd
      rcases List.mem_cons.mp hm with rfl | hm
      · exact ⟨0,rfl⟩
      · obtain ⟨n,_,rfl⟩:=List.mem_map.mp hm
        exact ⟨n,rfl⟩
    walk_at "sim"
    refine fun p M1 hp mk hP=>⟨hP,fun near bs far M2 hok hl7 ha s2=>⟨s2.pool,hok,fun y u M3 cd s3=>⟨s3.pool,⟨hok,hl7,cd⟩,fun bs' M4 hw s4=>⟨hw,?_⟩⟩⟩⟩
    have hl:=hw.len
    have hl2:=hall_len near far bs'
    have hlen:=hl_len (hallT near bs' far) (hallT near bs' far).length
    rw [hallT_L,hallT_len] at hlen
    have sl:=stpL_len (hallL near bs' far) (hallL near bs' far).length
    have hcl:clL 58 (bs'.map partD)=true:=cl_lst fun x hx=>by
      obtain ⟨pt,hpt,rfl⟩:=List.mem_map.mp hx
      obtain ⟨w,g⟩:=pt
      have:w = "gap" ∨ w = "glass" ∨ w = "stop" := by
        rcases hw.part (w,g) hpt with (h | h) | h
        · exact .inl h
        · exact .inr (.inl h)
        · exact .inr (.inr h.1)
      have c:PyData.canLay0 (.str w)=true:=by rcases this with rfl | rfl | rfl <;> decide +kernel
      show (PyData.canLay0 (.str w) && (cl 57 (ratD g) && true))=true
      rw [c]; rfl
    walk_at "sim"
    rw [hallT_len,hlen,Int.toNat_natCast]
    refine ⟨⟨by omega,by omega⟩,?_⟩
    refine ForK.by (fun i e M'=>M4=M'∧∃ z6 z7 z8 z9:Option D,e=[some (D.vl (List.map D.int ns)),some (D.int n),some (D.ref p),some (D.tup [ratD near,D.vl (List.map partD bs'),ratD far]),some (rayD y u),some (D.tup [ratD near,D.vl (List.map partD bs'),ratD far]),z6,z7,z8,z9]) ⟨rfl,_,_,_,_,rfl⟩ (fun _ _ _ _ _=>trivial) ?_ ?_
    · rintro i2 dd e M' hd ⟨rfl,z6,z7,z8,z9,rfl⟩
      obtain ⟨hi,rfl⟩:=rangeD_of hd
      have hl:(stpL (hallL near bs' far) (hallL near bs' far).length)[i2]? = some (stpL (hallL near bs' far) (hallL near bs' far).length)[i2]:=List.getElem?_eq_getElem hi
      rw [show (0:Int)+(i2:Int)=(i2:Int) by omega]
      walk_at "sim"
      refine ⟨⟨hw,cd⟩,_,hl,?_⟩
      generalize hbb:lateB (tbQ (hallL near bs' far)) _ _ _=bb
      refine ⟨by decide,?_⟩
      refine ForK.by (fun i e M'=>M4=M'∧∃ z8 z9:Option D,e=[some (D.vl (List.map D.int ns)),some (D.int n),some (D.ref p),some (D.tup [ratD near,D.vl (List.map partD bs'),ratD far]),some (rayD y u),some (D.tup [ratD near,D.vl (List.map partD bs'),ratD far]),some (D.int (i2:Int)),some (D.bl bb),z8,z9]) ⟨rfl,_,_,rfl⟩ (fun _ _ _ _ _=>trivial) ?_ ?_
      · rintro i3 dd e M' hd ⟨rfl,z8,z9,rfl⟩
        walk_at "sim"
        refine ⟨⟨hw,_,cd,by decide⟩,_,hl,?_⟩
        rw [hbb]
        walk_at "sim"
        exact ⟨hcl,hcl,_,_,rfl⟩
      · rintro e M' ⟨rfl,z8,z9,rfl⟩
        exact ⟨rfl,_,_,_,_,rfl⟩
    · rintro e M' ⟨rfl,z6,z7,z8,z9,rfl⟩
      exact ⟨_,_,_,_,_,_,_,_,_,rfl⟩
  · rintro e M' ⟨x1,x2,x3,x4,x5,x6,x7,x8,x9,rfl⟩
    walk_at "sim"
    exact k _
end
end K42
namespace K42
open PySem PySem.Spec L2 DL GM
theorem all_ok {P:Program} {w:World} {K:PySem.W.Frag} {mg:Str→Option Value} {fa:Addr} (T:Txt K mg) (hfa:mg "law" = some (.ref fa)) (D__law_parts:Df K mg "_law_parts" s__law_parts ["hall"]) (D_divisor:Df K mg "divisor" s_divisor ["one", "other"]) (D_is_whole:Df K mg "is_whole" s_is_whole ["thing"]) (D_ratio:Df K mg "ratio" s_ratio ["top", "bottom"]) (D_plus:Df K mg "plus" s_plus ["one", "other"]) (D_opposite:Df K mg "opposite" s_opposite ["one"]) (D_minus:Df K mg "minus" s_minus ["one", "other"]) (D_times:Df K mg "times" s_times ["one", "other"]) (D__law_part:Df K mg "_law_part" s__law_part ["part", "ray"]) (D__law_lines:Df K mg "_law_lines" s__law_lines ["hall"]) (D_less:Df K mg "less" s_less ["one", "other"]) (D_unsigned:Df K mg "unsigned" s_unsigned ["one"]) (D_tops_over:Df K mg "tops_over" s_tops_over ["ratios", "bottom"]) (D_common_bottom:Df K mg "common_bottom" s_common_bottom ["ratios"]) (D_swing:Df K mg "swing" s_swing ["t", "x", "later"]) (D_reach_by:Df K mg "reach_by" s_reach_by ["t", "x", "later"]) (D_shows_late:Df K mg "shows_late" s_shows_late ["word", "t", "x", "later", "r"]) (D_t_of:Df K mg "t_of" s_t_of ["table"]) (D_rounds_to_self:Df K mg "rounds_to_self" s_rounds_to_self ["table"]) (D_kind_word:Df K mg "kind_word" s_kind_word ["table"]) (D_number_of:Df K mg "number_of" s_number_of ["p", "q", "ray"]) (D_led:Df K mg "led" s_led ["table", "ray"]) (D_first_two:Df K mg "first_two" s_first_two ["table", "ray", "lines"]) (D_by_columns:Df K mg "by_columns" s_by_columns ["first", "second"]) (D_led_by_part:Df K mg "led_by_part" s_led_by_part ["part", "ray"]) (D_table_of:Df K mg "table_of" s_table_of ["bench"]) (D_turned_bench:Df K mg "turned_bench" s_turned_bench ["bench"]) (D_round_bench:Df K mg "round_bench" s_round_bench ["hall"]) (D_round_of:Df K mg "round_of" s_round_of ["hall"]) (D_lines_of:Df K mg "lines_of" s_lines_of ["bench"]) (D_hall_lines:Df K mg "hall_lines" s_hall_lines ["hall"]) (D_late_shown:Df K mg "late_shown" s_late_shown ["hall", "ray", "k"]) (D__law_beyond:Df K mg "_law_beyond" s__law_beyond ["x", "r"]) (D_over:Df K mg "over" s_over ["one", "other"]) (D__law_round:Df K mg "_law_round" s__law_round ["hall", "ray"]) (D__law_same:Df K mg "_law_same" s__law_same ["hall"]) (D__law_turning:Df K mg "_law_turning" s__law_turning ["hall", "t"]) (D__law_reach:Df K mg "_law_reach" s__law_reach ["t", "x", "further"]) (D__law_numbers:Df K mg "_law_numbers" s__law_numbers ["hall", "ray"]) (D__law_t:Df K mg "_law_t" s__law_t ["hall"]) (D__law_late_shown:Df K mg "_law_late_shown" s__law_late_shown ["hall", "ray", "k"]) (D__law_next:Df K mg "_law_next" s__law_next ["pool", "base"]) (D__law_whole_root:Df K mg "_law_whole_root" s__law_whole_root ["number"]) (D_reach:Df K mg "reach" s_reach ["hall", "ray", "p", "q"]) (D_floor_root:Df K mg "floor_root" s_floor_root ["number"]) (D_root:Df K mg "root" s_root ["one"]) (D_shrinking:Df K mg "shrinking" s_shrinking ["t"]) (D_ray_along:Df K mg "ray_along" s_ray_along ["table"]) (D_form_of:Df K mg "form_of" s_form_of ["table"]) (D_kind:Df K mg "kind" s_kind ["hall"]) (D__law_tight:Df K mg "_law_tight" s__law_tight ["pool", "hall", "ray"]) (D__law_scaled:Df K mg "_law_scaled" s__law_scaled ["ray", "factor"]) (D__law_along:Df K mg "_law_along" s__law_along ["hall", "other"]) (D__law_ratio:Df K mg "_law_ratio" s__law_ratio ["pool", "tops", "bottoms"]) (D__law_ray:Df K mg "_law_ray" s__law_ray ["pool", "hall"]) (D__law_stops:Df K mg "_law_stops" s__law_stops ["pool", "parts", "count"]) (D__law_pieces:Df K mg "_law_pieces" s__law_pieces ["pool", "gap"]) (D__law_known_hall:Df K mg "_law_known_hall" s__law_known_hall ["pool"]) (D__law_hall:Df K mg "_law_hall" s__law_hall ["pool"]) (D__law_pool:Df K mg "_law_pool" s__law_pool ["cell"]) (D_law:DfL K mg "law" s_law ["script"]) :
    ∃ fd:FuncData,(∀ (s:Shared) (u:Value),BindsTo s fd ⟨[u],[]⟩ [("script",u)])∧∀ base:Heap,FnOk P w K mg base CX0 11 fa fd ["script"] (upSp K spLaw):=by
  obtain ⟨f,fd,F,hm,hb⟩:=D_law.ex
  have e:f=fa:=by rw [hm] at hfa; injection hfa with z; injection z
  subst e
  refine ⟨fd,fun s u=>.of_eq (hb [u] rfl),fun base=>?_⟩
  have G__law_parts:=ok__law_parts (P:=P) (w:=w) (base:=base) T D__law_parts 
  have G_divisor:=ok_divisor (P:=P) (w:=w) (base:=base) T D_divisor 
  have G_is_whole:=ok_is_whole (P:=P) (w:=w) (base:=base) T D_is_whole 
  have G_ratio:=ok_ratio (P:=P) (w:=w) (base:=base) T D_ratio G_is_whole G_divisor
  have G_plus:=ok_plus (P:=P) (w:=w) (base:=base) T D_plus G_ratio
  have G_opposite:=ok_opposite (P:=P) (w:=w) (base:=base) T D_opposite 
  have G_minus:=ok_minus (P:=P) (w:=w) (base:=base) T D_minus G_plus G_opposite
  have G_times:=ok_times (P:=P) (w:=w) (base:=base) T D_times G_ratio
  have G__law_part:=ok__law_part (P:=P) (w:=w) (base:=base) T D__law_part G_minus G_times G_plus
  have G__law_lines:=ok__law_lines (P:=P) (w:=w) (base:=base) T D__law_lines G__law_parts G__law_part
  have G_less:=ok_less (P:=P) (w:=w) (base:=base) T D_less 
  have G_unsigned:=ok_unsigned (P:=P) (w:=w) (base:=base) T D_unsigned 
  have G_tops_over:=ok_tops_over (P:=P) (w:=w) (base:=base) T D_tops_over 
  have G_common_bottom:=ok_common_bottom (P:=P) (w:=w) (base:=base) T D_common_bottom G_divisor
  have G_swing:=ok_swing (P:=P) (w:=w) (base:=base) T D_swing G_tops_over G_common_bottom
  have G_less__2:=ok_less__2 (P:=P) (w:=w) (base:=base) T D_less 
  have G_reach_by:=ok_reach_by (P:=P) (w:=w) (base:=base) T D_reach_by G_swing
  have G_shows_late:=ok_shows_late (P:=P) (w:=w) (base:=base) T D_shows_late G_less G_unsigned G_swing G_less__2 G_reach_by G_times
  have G_t_of:=ok_t_of (P:=P) (w:=w) (base:=base) T D_t_of G_plus
  have G_rounds_to_self:=ok_rounds_to_self (P:=P) (w:=w) (base:=base) T D_rounds_to_self G_opposite G_t_of
  have G_kind_word:=ok_kind_word (P:=P) (w:=w) (base:=base) T D_kind_word G_less G_unsigned G_t_of G_rounds_to_self
  have G_number_of:=ok_number_of (P:=P) (w:=w) (base:=base) T D_number_of G_plus G_times
  have G_led:=ok_led (P:=P) (w:=w) (base:=base) T D_led G_plus G_times
  have G_first_two:=ok_first_two (P:=P) (w:=w) (base:=base) T D_first_two G_number_of G_led
  have G_by_columns:=ok_by_columns (P:=P) (w:=w) (base:=base) T D_by_columns 
  have G_led_by_part:=ok_led_by_part (P:=P) (w:=w) (base:=base) T D_led_by_part G_minus G_times G_plus
  have G_table_of:=ok_table_of (P:=P) (w:=w) (base:=base) T D_table_of G_by_columns G_led_by_part
  have G_turned_bench:=ok_turned_bench (P:=P) (w:=w) (base:=base) T D_turned_bench 
  have G_round_bench:=ok_round_bench (P:=P) (w:=w) (base:=base) T D_round_bench G_turned_bench
  have G_round_of:=ok_round_of (P:=P) (w:=w) (base:=base) T D_round_of G_table_of G_round_bench
  have G_lines_of:=ok_lines_of (P:=P) (w:=w) (base:=base) T D_lines_of G_led_by_part
  have G_hall_lines:=ok_hall_lines (P:=P) (w:=w) (base:=base) T D_hall_lines G_lines_of G_round_bench
  have G_late_shown:=ok_late_shown (P:=P) (w:=w) (base:=base) T D_late_shown G_shows_late G_t_of G_kind_word G_first_two G_round_of G_hall_lines
  have G__law_beyond:=ok__law_beyond (P:=P) (w:=w) (base:=base) T D__law_beyond 
  have G_over:=ok_over (P:=P) (w:=w) (base:=base) T D_over G_ratio
  have G__law_round:=ok__law_round (P:=P) (w:=w) (base:=base) T D__law_round G__law_parts G__law_part
  have G__law_same:=ok__law_same (P:=P) (w:=w) (base:=base) T D__law_same G__law_round
  have G__law_turning:=ok__law_turning (P:=P) (w:=w) (base:=base) T D__law_turning G__law_same G_less
  have G__law_reach:=ok__law_reach (P:=P) (w:=w) (base:=base) T D__law_reach G_over G_minus G_times G_plus
  have G__law_numbers:=ok__law_numbers (P:=P) (w:=w) (base:=base) T D__law_numbers G__law_lines G_plus G_times G__law_round
  have G__law_t:=ok__law_t (P:=P) (w:=w) (base:=base) T D__law_t G_plus G__law_round
  have G__law_late_shown:=ok__law_late_shown (P:=P) (w:=w) (base:=base) T D__law_late_shown G__law_beyond G_plus G_over G_minus G__law_turning G_less__2 G__law_reach G_times G__law_same G__law_numbers G__law_t
  have G__law_next:=ok__law_next (P:=P) (w:=w) (base:=base) T D__law_next 
  have G__law_whole_root:=ok__law_whole_root (P:=P) (w:=w) (base:=base) T D__law_whole_root 
  have G_reach:=ok_reach (P:=P) (w:=w) (base:=base) T D_reach G_ratio G_reach_by G_number_of G_led G_t_of G_round_of
  have G_floor_root:=ok_floor_root (P:=P) (w:=w) (base:=base) T D_floor_root 
  have G_root:=ok_root (P:=P) (w:=w) (base:=base) T D_root G_floor_root
  have G_shrinking:=ok_shrinking (P:=P) (w:=w) (base:=base) T D_shrinking G_over G_minus G_less G_opposite G_root G_times
  have G_ray_along:=ok_ray_along (P:=P) (w:=w) (base:=base) T D_ray_along G_minus G_over G_t_of
  have G_form_of:=ok_form_of (P:=P) (w:=w) (base:=base) T D_form_of G_opposite G_minus
  have G_kind:=ok_kind (P:=P) (w:=w) (base:=base) T D_kind G_shrinking G_t_of G_ray_along G_form_of G_rounds_to_self G_kind_word G_round_of
  have G__law_tight:=ok__law_tight (P:=P) (w:=w) (base:=base) T D__law_tight G_ratio G__law_next G__law_whole_root G_hall_lines G_less__2 G_reach G_kind
  have G__law_scaled:=ok__law_scaled (P:=P) (w:=w) (base:=base) T D__law_scaled G_times
  have G__law_along:=ok__law_along (P:=P) (w:=w) (base:=base) T D__law_along G_minus G_over G_kind G_round_of
  have G__law_ratio__2:=ok__law_ratio__2 (P:=P) (w:=w) (base:=base) T D__law_ratio G_ratio G__law_next
  have G__law_ratio:=ok__law_ratio (P:=P) (w:=w) (base:=base) T D__law_ratio G_ratio G__law_next
  have G__law_ray:=ok__law_ray (P:=P) (w:=w) (base:=base) T D__law_ray G__law_scaled G_plus G__law_next G__law_along G__law_ratio__2 G__law_ratio
  have G__law_stops:=ok__law_stops (P:=P) (w:=w) (base:=base) T D__law_stops G__law_next G__law_ratio
  have G__law_pieces:=ok__law_pieces (P:=P) (w:=w) (base:=base) T D__law_pieces G_minus G_ratio G__law_next
  have G__law_known_hall:=ok__law_known_hall (P:=P) (w:=w) (base:=base) T D__law_known_hall G_ratio G__law_stops G__law_pieces G__law_ratio G__law_next
  have G__law_hall:=ok__law_hall (P:=P) (w:=w) (base:=base) T D__law_hall G__law_ratio G__law_stops G__law_next G_minus G__law_known_hall
  have G__law_pool:=ok__law_pool (P:=P) (w:=w) (base:=base) T D__law_pool 
  exact ok_law T F G__law_lines G_late_shown G__law_late_shown G__law_tight G__law_ray G__law_hall G__law_pool
theorem walk {l:PySem.W.OpenLaw} {q:Program} {loose:List Str} {XP:(Str→Option Value)→Heap→Prop} {YP:World→Heap→Prop} {d:DefRec} {K:Params→PySem.W.Frag} (hn:l.most=some 63) (hdf:d.params.defaults=[])
    (hY:∀ (w:World) (h:Heap),YP w h→(K w.params).In h)
    (F:∀ (w:World) (mg:Str→Option Value) (fa:Addr) (h:Heap),(K w.params).In h→h.Ns mainGlobals mg→mg d.name=some (.ref fa) →
      ∃ fd:FuncData,(∀ (s:Shared) (u:Value),BindsTo s fd ⟨[u],[]⟩ [("script",u)])∧∀ base:Heap,FnOk l.prog w (K w.params) mg base CX0 11 fa fd ["script"] (upSp (K w.params) spLaw)) :
    PySem.W.WalkO q loose XP YP l.row.toRowW d [] (fun f vs=>PySem.call f vs) :=
  L2.walk_ofK (n:=63) (k:=11) (x := "script") (CX:=CX0) (sp:=fun K=>upSp K spLaw) hn (by decide) hdf ⟨rfl,by decide,by decide⟩ hY (fun w mg fa h a b c=>let ⟨fd,h1,h2⟩:=F w mg fa h a b c; ⟨fd,h1,fun base _ _=>h2 base⟩)
    (fun K H a ns hl hO hS=>law_sp hO hS ⟨ns,rfl,hl,fun _=>rfl⟩) fun _ _ _ _ z=>z
end K42
theorem PySem.W.Fast.te13336428555494635441:True:=trivial
theorem PySem.W.Fast.tw12927855269329599494:True:=trivial
theorem PySem.W.Fast.tw12970903508801989575:True:=trivial
theorem PySem.W.Fast.tw17294662912615086891:True:=trivial
theorem PySem.W.Fast.tw14478410247705374668:True:=trivial
theorem PySem.W.Fast.tw9313912448651868782:True:=trivial
theorem PySem.W.Fast.tw6505886692989407794:True:=trivial
theorem PySem.W.Fast.tw7878751787805302996:True:=trivial
theorem PySem.W.Fast.tw2577856735433127126:True:=trivial
theorem PySem.W.Fast.tw12697789321944814489:True:=trivial
theorem PySem.W.Fast.tw15492459146570600187:True:=trivial
theorem PySem.W.Fast.tw14033552071143575261:True:=trivial
theorem PySem.W.Fast.tw15255468066214226892:True:=trivial
theorem PySem.W.Fast.tw14073213639839164668:True:=trivial
open PySem PySem.W PyProof.Rows
set_option maxRecDepth 100000 in
set_option maxHeartbeats 0 in
theorem PySem.Challenge.cw_roundglass_k42_late_lines_judged_holds : PySem.Challenge.rw_roundglass_k42_late_lines_judged.Holds := by
  w_on; o_law; k_head; (case hw=>w_witness2)
  k_fill
  refine K42.walk (l:=PySem.Challenge.rw_roundglass_k42_late_lines_judged) rfl rfl (fun w h Y=>PySem.W.kIn_of Y) ?F
  case F =>
    intro w mg fa h KX G hmg
    refine' K42.all_ok ⟨PySem.W.mg_none_of KX G ?z_abs,PySem.W.mg_none_of KX G ?z_bool,PySem.W.mg_none_of KX G ?z_enumerate,PySem.W.mg_none_of KX G ?z_int,PySem.W.mg_none_of KX G ?z_isinstance,PySem.W.mg_none_of KX G ?z_len,PySem.W.mg_none_of KX G ?z_list,PySem.W.mg_none_of KX G ?z_max,PySem.W.mg_none_of KX G ?z_range,PySem.W.mg_none_of KX G ?z_reversed,PySem.W.mg_none_of KX G ?z_tuple,PySem.W.mg_none_of KX G ?z_zip,DL.subOk _,DL.gl_ray KX G ?c0_AXIS_RAY ?c1_AXIS_RAY ?c2_AXIS_RAY ?c3_AXIS_RAY,DL.gl_pair KX G ?c0_FOUR ?c1_FOUR,DL.gl_ray KX G ?c0_LEVEL_RAY ?c1_LEVEL_RAY ?c2_LEVEL_RAY ?c3_LEVEL_RAY,DL.gl_pair KX G ?c0_NOUGHT ?c1_NOUGHT,DL.gl_pair KX G ?c0_ONE ?c1_ONE,DL.gl_tab KX G ?c0_SELF ?c1_SELF ?c2_SELF ?c3_SELF ?c4_SELF ?c5_SELF,DL.gl_pair KX G ?c0_TWO ?c1_TWO⟩ hmg (DL.df_mk KX G ?n0 ?l0 ?c0 ?k0 ?b0) (DL.df_mk KX G ?n1 ?l1 ?c1 ?k1 ?b1) (DL.df_mk KX G ?n2 ?l2 ?c2 ?k2 ?b2) (DL.dfd_mk KX G ?n3 ?l3 ?c3 ?k3 ?b3) (DL.df_mk KX G ?n4 ?l4 ?c4 ?k4 ?b4) (DL.df_mk KX G ?n5 ?l5 ?c5 ?k5 ?b5) (DL.df_mk KX G ?n6 ?l6 ?c6 ?k6 ?b6) (DL.df_mk KX G ?n7 ?l7 ?c7 ?k7 ?b7) (DL.df_mk KX G ?n8 ?l8 ?c8 ?k8 ?b8) (DL.df_mk KX G ?n9 ?l9 ?c9 ?k9 ?b9) (DL.df_mk KX G ?n10 ?l10 ?c10 ?k10 ?b10) (DL.df_mk KX G ?n11 ?l11 ?c11 ?k11 ?b11) (DL.df_mk KX G ?n12 ?l12 ?c12 ?k12 ?b12) (DL.df_mk KX G ?n13 ?l13 ?c13 ?k13 ?b13) (DL.df_mk KX G ?n14 ?l14 ?c14 ?k14 ?b14) (DL.df_mk KX G ?n15 ?l15 ?c15 ?k15 ?b15) (DL.df_mk KX G ?n16 ?l16 ?c16 ?k16 ?b16) (DL.df_mk KX G ?n17 ?l17 ?c17 ?k17 ?b17) (DL.df_mk KX G ?n18 ?l18 ?c18 ?k18 ?b18) (DL.df_mk KX G ?n19 ?l19 ?c19 ?k19 ?b19) (DL.df_mk KX G ?n20 ?l20 ?c20 ?k20 ?b20) (DL.df_mk KX G ?n21 ?l21 ?c21 ?k21 ?b21) (DL.df_mk KX G ?n22 ?l22 ?c22 ?k22 ?b22) (DL.df_mk KX G ?n23 ?l23 ?c23 ?k23 ?b23) (DL.df_mk KX G ?n24 ?l24 ?c24 ?k24 ?b24) (DL.df_mk KX G ?n25 ?l25 ?c25 ?k25 ?b25) (DL.df_mk KX G ?n26 ?l26 ?c26 ?k26 ?b26) (DL.df_mk KX G ?n27 ?l27 ?c27 ?k27 ?b27) (DL.df_mk KX G ?n28 ?l28 ?c28 ?k28 ?b28) (DL.df_mk KX G ?n29 ?l29 ?c29 ?k29 ?b29) (DL.df_mk KX G ?n30 ?l30 ?c30 ?k30 ?b30) (DL.df_mk KX G ?n31 ?l31 ?c31 ?k31 ?b31) (DL.df_mk KX G ?n32 ?l32 ?c32 ?k32 ?b32) (DL.df_mk KX G ?n33 ?l33 ?c33 ?k33 ?b33) (DL.df_mk KX G ?n34 ?l34 ?c34 ?k34 ?b34) (DL.df_mk KX G ?n35 ?l35 ?c35 ?k35 ?b35) (DL.df_mk KX G ?n36 ?l36 ?c36 ?k36 ?b36) (DL.df_mk KX G ?n37 ?l37 ?c37 ?k37 ?b37) (DL.df_mk KX G ?n38 ?l38 ?c38 ?k38 ?b38) (DL.df_mk KX G ?n39 ?l39 ?c39 ?k39 ?b39) (DL.df_mk KX G ?n40 ?l40 ?c40 ?k40 ?b40) (DL.df_mk KX G ?n41 ?l41 ?c41 ?k41 ?b41) (DL.df_mk KX G ?n42 ?l42 ?c42 ?k42 ?b42) (DL.df_mk KX G ?n43 ?l43 ?c43 ?k43 ?b43) (DL.df_mk KX G ?n44 ?l44 ?c44 ?k44 ?b44) (DL.df_mk KX G ?n45 ?l45 ?c45 ?k45 ?b45) (DL.df_mk KX G ?n46 ?l46 ?c46 ?k46 ?b46) (DL.df_mk KX G ?n47 ?l47 ?c47 ?k47 ?b47) (DL.df_mk KX G ?n48 ?l48 ?c48 ?k48 ?b48) (DL.df_mk KX G ?n49 ?l49 ?c49 ?k49 ?b49) (DL.df_mk KX G ?n50 ?l50 ?c50 ?k50 ?b50) (DL.df_mk KX G ?n51 ?l51 ?c51 ?k51 ?b51) (DL.df_mk KX G ?n52 ?l52 ?c52 ?k52 ?b52) (DL.df_mk KX G ?n53 ?l53 ?c53 ?k53 ?b53) (DL.df_mk KX G ?n54 ?l54 ?c54 ?k54 ?b54) (DL.df_mk KX G ?n55 ?l55 ?c55 ?k55 ?b55) (DL.df_mk KX G ?n56 ?l56 ?c56 ?k56 ?b56) (DL.df_mk KX G ?n57 ?l57 ?c57 ?k57 ?b57) (DL.df_mk KX G ?n58 ?l58 ?c58 ?k58 ?b58) (DL.df_mk KX G ?n59 ?l59 ?c59 ?k59 ?b59) (DL.dfl_mk KX G ?n60 ?l60 ?c60 ?k60 ?b60)
    (case n0=>k_is); (case l0=>k_is); (case c0=>k_is); (case k0=>k_is); (case b0=>(intro us hl; exact match us,hl with | [_],_=>rfl))
    (case n1=>k_is); (case l1=>k_is); (case c1=>k_is); (case k1=>k_is); (case b1=>(intro us hl; exact match us,hl with | [_,_],_=>rfl))
    (case n2=>k_is); (case l2=>k_is); (case c2=>k_is); (case k2=>k_is); (case b2=>(intro us hl; exact match us,hl with | [_],_=>rfl))
    (case n3=>k_is); (case l3=>k_is); (case c3=>k_is); (case k3=>k_is); (case b3=>(intro us hl S; exact match us,hl with | [_,_],_=>rfl))
    (case n4=>k_is); (case l4=>k_is); (case c4=>k_is); (case k4=>k_is); (case b4=>(intro us hl; exact match us,hl with | [_,_],_=>rfl))
    (case n5=>k_is); (case l5=>k_is); (case c5=>k_is); (case k5=>k_is); (case b5=>(intro us hl; exact match us,hl with | [_],_=>rfl))
    (case n6=>k_is); (case l6=>k_is); (case c6=>k_is); (case k6=>k_is); (case b6=>(intro us hl; exact match us,hl with | [_,_],_=>rfl))
    (case n7=>k_is); (case l7=>k_is); (case c7=>k_is); (case k7=>k_is); (case b7=>(intro us hl; exact match us,hl with | [_,_],_=>rfl))
    (case n8=>k_is); (case l8=>k_is); (case c8=>k_is); (case k8=>k_is); (case b8=>(intro us hl; exact match us,hl with | [_,_],_=>rfl))
    (case n9=>k_is); (case l9=>k_is); (case c9=>k_is); (case k9=>k_is); (case b9=>(intro us hl; exact match us,hl with | [_],_=>rfl))
    (case n10=>k_is); (case l10=>k_is); (case c10=>k_is); (case k10=>k_is); (case b10=>(intro us hl; exact match us,hl with | [_,_],_=>rfl))
    (case n11=>k_is); (case l11=>k_is); (case c11=>k_is); (case k11=>k_is); (case b11=>(intro us hl; exact match us,hl with | [_],_=>rfl))
    (case n12=>k_is); (case l12=>k_is); (case c12=>k_is); (case k12=>k_is); (case b12=>(intro us hl; exact match us,hl with | [_,_],_=>rfl))
    (case n13=>k_is); (case l13=>k_is); (case c13=>k_is); (case k13=>k_is); (case b13=>(intro us hl; exact match us,hl with | [_],_=>rfl))
    (case n14=>k_is); (case l14=>k_is); (case c14=>k_is); (case k14=>k_is); (case b14=>(intro us hl; exact match us,hl with | [_,_,_],_=>rfl))
    (case n15=>k_is); (case l15=>k_is); (case c15=>k_is); (case k15=>k_is); (case b15=>(intro us hl; exact match us,hl with | [_,_,_],_=>rfl))
    (case n16=>k_is); (case l16=>k_is); (case c16=>k_is); (case k16=>k_is); (case b16=>(intro us hl; exact match us,hl with | [_,_,_,_,_],_=>rfl))
    (case n17=>k_is); (case l17=>k_is); (case c17=>k_is); (case k17=>k_is); (case b17=>(intro us hl; exact match us,hl with | [_],_=>rfl))
    (case n18=>k_is); (case l18=>k_is); (case c18=>k_is); (case k18=>k_is); (case b18=>(intro us hl; exact match us,hl with | [_],_=>rfl))
    (case n19=>k_is); (case l19=>k_is); (case c19=>k_is); (case k19=>k_is); (case b19=>(intro us hl; exact match us,hl with | [_],_=>rfl))
    (case n20=>k_is); (case l20=>k_is); (case c20=>k_is); (case k20=>k_is); (case b20=>(intro us hl; exact match us,hl with | [_,_,_],_=>rfl))
    (case n21=>k_is); (case l21=>k_is); (case c21=>k_is); (case k21=>k_is); (case b21=>(intro us hl; exact match us,hl with | [_,_],_=>rfl))
    (case n22=>k_is); (case l22=>k_is); (case c22=>k_is); (case k22=>k_is); (case b22=>(intro us hl; exact match us,hl with | [_,_,_],_=>rfl))
    (case n23=>k_is); (case l23=>k_is); (case c23=>k_is); (case k23=>k_is); (case b23=>(intro us hl; exact match us,hl with | [_,_],_=>rfl))
    (case n24=>k_is); (case l24=>k_is); (case c24=>k_is); (case k24=>k_is); (case b24=>(intro us hl; exact match us,hl with | [_,_],_=>rfl))
    (case n25=>k_is); (case l25=>k_is); (case c25=>k_is); (case k25=>k_is); (case b25=>(intro us hl; exact match us,hl with | [_],_=>rfl))
    (case n26=>k_is); (case l26=>k_is); (case c26=>k_is); (case k26=>k_is); (case b26=>(intro us hl; exact match us,hl with | [_],_=>rfl))
    (case n27=>k_is); (case l27=>k_is); (case c27=>k_is); (case k27=>k_is); (case b27=>(intro us hl; exact match us,hl with | [_],_=>rfl))
    (case n28=>k_is); (case l28=>k_is); (case c28=>k_is); (case k28=>k_is); (case b28=>(intro us hl; exact match us,hl with | [_],_=>rfl))
    (case n29=>k_is); (case l29=>k_is); (case c29=>k_is); (case k29=>k_is); (case b29=>(intro us hl; exact match us,hl with | [_],_=>rfl))
    (case n30=>k_is); (case l30=>k_is); (case c30=>k_is); (case k30=>k_is); (case b30=>(intro us hl; exact match us,hl with | [_],_=>rfl))
    (case n31=>k_is); (case l31=>k_is); (case c31=>k_is); (case k31=>k_is); (case b31=>(intro us hl; exact match us,hl with | [_,_,_],_=>rfl))
    (case n32=>k_is); (case l32=>k_is); (case c32=>k_is); (case k32=>k_is); (case b32=>(intro us hl; exact match us,hl with | [_,_],_=>rfl))
    (case n33=>k_is); (case l33=>k_is); (case c33=>k_is); (case k33=>k_is); (case b33=>(intro us hl; exact match us,hl with | [_,_],_=>rfl))
    (case n34=>k_is); (case l34=>k_is); (case c34=>k_is); (case k34=>k_is); (case b34=>(intro us hl; exact match us,hl with | [_,_],_=>rfl))
    (case n35=>k_is); (case l35=>k_is); (case c35=>k_is); (case k35=>k_is); (case b35=>(intro us hl; exact match us,hl with | [_],_=>rfl))
    (case n36=>k_is); (case l36=>k_is); (case c36=>k_is); (case k36=>k_is); (case b36=>(intro us hl; exact match us,hl with | [_,_],_=>rfl))
    (case n37=>k_is); (case l37=>k_is); (case c37=>k_is); (case k37=>k_is); (case b37=>(intro us hl; exact match us,hl with | [_,_,_],_=>rfl))
    (case n38=>k_is); (case l38=>k_is); (case c38=>k_is); (case k38=>k_is); (case b38=>(intro us hl; exact match us,hl with | [_,_],_=>rfl))
    (case n39=>k_is); (case l39=>k_is); (case c39=>k_is); (case k39=>k_is); (case b39=>(intro us hl; exact match us,hl with | [_],_=>rfl))
    (case n40=>k_is); (case l40=>k_is); (case c40=>k_is); (case k40=>k_is); (case b40=>(intro us hl; exact match us,hl with | [_,_,_],_=>rfl))
    (case n41=>k_is); (case l41=>k_is); (case c41=>k_is); (case k41=>k_is); (case b41=>(intro us hl; exact match us,hl with | [_,_],_=>rfl))
    (case n42=>k_is); (case l42=>k_is); (case c42=>k_is); (case k42=>k_is); (case b42=>(intro us hl; exact match us,hl with | [_],_=>rfl))
    (case n43=>k_is); (case l43=>k_is); (case c43=>k_is); (case k43=>k_is); (case b43=>(intro us hl; exact match us,hl with | [_,_,_,_],_=>rfl))
    (case n44=>k_is); (case l44=>k_is); (case c44=>k_is); (case k44=>k_is); (case b44=>(intro us hl; exact match us,hl with | [_],_=>rfl))
    (case n45=>k_is); (case l45=>k_is); (case c45=>k_is); (case k45=>k_is); (case b45=>(intro us hl; exact match us,hl with | [_],_=>rfl))
    (case n46=>k_is); (case l46=>k_is); (case c46=>k_is); (case k46=>k_is); (case b46=>(intro us hl; exact match us,hl with | [_],_=>rfl))
    (case n47=>k_is); (case l47=>k_is); (case c47=>k_is); (case k47=>k_is); (case b47=>(intro us hl; exact match us,hl with | [_],_=>rfl))
    (case n48=>k_is); (case l48=>k_is); (case c48=>k_is); (case k48=>k_is); (case b48=>(intro us hl; exact match us,hl with | [_],_=>rfl))
    (case n49=>k_is); (case l49=>k_is); (case c49=>k_is); (case k49=>k_is); (case b49=>(intro us hl; exact match us,hl with | [_],_=>rfl))
    (case n50=>k_is); (case l50=>k_is); (case c50=>k_is); (case k50=>k_is); (case b50=>(intro us hl; exact match us,hl with | [_,_,_],_=>rfl))
    (case n51=>k_is); (case l51=>k_is); (case c51=>k_is); (case k51=>k_is); (case b51=>(intro us hl; exact match us,hl with | [_,_],_=>rfl))
    (case n52=>k_is); (case l52=>k_is); (case c52=>k_is); (case k52=>k_is); (case b52=>(intro us hl; exact match us,hl with | [_,_],_=>rfl))
    (case n53=>k_is); (case l53=>k_is); (case c53=>k_is); (case k53=>k_is); (case b53=>(intro us hl; exact match us,hl with | [_,_,_],_=>rfl))
    (case n54=>k_is); (case l54=>k_is); (case c54=>k_is); (case k54=>k_is); (case b54=>(intro us hl; exact match us,hl with | [_,_],_=>rfl))
    (case n55=>k_is); (case l55=>k_is); (case c55=>k_is); (case k55=>k_is); (case b55=>(intro us hl; exact match us,hl with | [_,_,_],_=>rfl))
    (case n56=>k_is); (case l56=>k_is); (case c56=>k_is); (case k56=>k_is); (case b56=>(intro us hl; exact match us,hl with | [_,_],_=>rfl))
    (case n57=>k_is); (case l57=>k_is); (case c57=>k_is); (case k57=>k_is); (case b57=>(intro us hl; exact match us,hl with | [_],_=>rfl))
    (case n58=>k_is); (case l58=>k_is); (case c58=>k_is); (case k58=>k_is); (case b58=>(intro us hl; exact match us,hl with | [_],_=>rfl))
    (case n59=>k_is); (case l59=>k_is); (case c59=>k_is); (case k59=>k_is); (case b59=>(intro us hl; exact match us,hl with | [_],_=>rfl))
    (case n60=>k_is); (case l60=>k_is); (case c60=>k_is); (case k60=>k_is); (case b60=>(intro us hl; exact match us,hl with | [_],_=>rfl))
    (case z_abs=>k_is); (case z_bool=>k_is); (case z_enumerate=>k_is); (case z_int=>k_is); (case z_isinstance=>k_is); (case z_len=>k_is); (case z_list=>k_is); (case z_max=>k_is); (case z_range=>k_is); (case z_reversed=>k_is); (case z_tuple=>k_is); (case z_zip=>k_is); (case c0_AXIS_RAY=>k_is); (case c1_AXIS_RAY=>k_is); (case c2_AXIS_RAY=>k_is); (case c3_AXIS_RAY=>k_is); (case c0_FOUR=>k_is); (case c1_FOUR=>k_is); (case c0_LEVEL_RAY=>k_is); (case c1_LEVEL_RAY=>k_is); (case c2_LEVEL_RAY=>k_is); (case c3_LEVEL_RAY=>k_is); (case c0_NOUGHT=>k_is); (case c1_NOUGHT=>k_is); (case c0_ONE=>k_is); (case c1_ONE=>k_is); (case c0_SELF=>k_is); (case c1_SELF=>k_is); (case c2_SELF=>k_is); (case c3_SELF=>k_is); (case c4_SELF=>k_is); (case c5_SELF=>k_is); (case c0_TWO=>k_is); (case c1_TWO=>k_is)
