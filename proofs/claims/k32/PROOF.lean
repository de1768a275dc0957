import PyProof.Rows.All
import Wide.All
import OpenK.AllK
import Wide.FinOn
import PyProof.EqAt
import PyProof.EqKinds
import PyProof.TupleCall
import PyProof.ZipIter
import PyProof.EnumMake
import PyProof.EnumFor
import PyProof.Rows.EnumRows
import PyProof.CompMap
import PyProof.CompUse
import KE.KRevSl
import KE.KRevIter
import PyProof.ListRange
import PyProof.AutoRange
import PyProof.FactsAll.range_2
import PyProof.MaxThree
import KE.RegKTryMore
import PyProof.Rows.SumAny
import KE.KMinBuiltin
import PyProof.Rows.CallKwBuiltin
import PyProof.JoinWalk
import PyProof.StrBlockL
import PyProof.StrCalls2
import PyProof.CallStr
import PyProof.Rows.StrWeight2
import PyProof.FitsInt
import PyProof.FactsAll.range_1
import PyProof.SeqRoads2
import KE.RegKIsAll
import PyProof.ExcArgsOwn
import PyProof.NsDelKeeps
import PyProof.RulesAs
import Lean
import PySem.Challenge.RW_roundglass_k32_whole_fields
set_option compiler.extract_closed false
set_option Elab.async false
set_option linter.all false
set_option maxRecDepth 100000
section
namespace L2
open PySem PySem.Spec PyProof.Rows

noncomputable abbrev Key := Sum Int Str
noncomputable def keyIs : Key → Value → Bool
  | .inl k, v => Value.isInt k v
  | .inr x, v => Value.isStrOf x v
noncomputable def keyH (w : World) : Key → Int
  | .inl k => hashInt k
  | .inr x => hashStr w x
theorem keyIs_shape : ∀ {k : Key} {v : Value}, keyIs k v = true → (∃ i t, k = Sum.inl i ∧ v = Value.int i t) ∨ (∃ x t, k = Sum.inr x ∧ v = Value.str x t)
  | .inl i, v, h => by
    obtain ⟨t, e⟩ := Value.isInt_shape (k := i) (v := v) h
    exact .inl ⟨i, t, rfl, e⟩
  | .inr x, v, h => by
    obtain ⟨t, e⟩ := Value.isStrOf_shape (x := x) (v := v) h
    exact .inr ⟨x, t, rfl, e⟩
theorem key_ll (a b : Int) : decide ((Sum.inl a : Key) = Sum.inl b) = (a == b) := by
  by_cases e : a = b
  · subst e; simp
  · have h : ¬ (Sum.inl a : Key) = Sum.inl b := fun q => e (Sum.inl.inj q)
    rw [decide_eq_false h]
    exact (beq_eq_false_iff_ne.mpr e).symm
theorem key_rr (a b : Str) : decide ((Sum.inr a : Key) = Sum.inr b) = decide (a = b) := by
  by_cases e : a = b
  · subst e; simp
  · have h : ¬ (Sum.inr a : Key) = Sum.inr b := fun q => e (Sum.inr.inj q)
    rw [decide_eq_false h, decide_eq_false e]
theorem key_lr (a : Int) (b : Str) : decide ((Sum.inl a : Key) = Sum.inr b) = false := decide_eq_false (fun q => nomatch q)
theorem key_rl (a : Str) (b : Int) : decide ((Sum.inr a : Key) = Sum.inl b) = false := decide_eq_false (fun q => nomatch q)

noncomputable def mixKind (prog : Program) (w : World) : PySem.KeyKind prog w Key where
  is := keyIs
  hash := keyH w
  inj := fun v a b ha hb => by
    rcases keyIs_shape ha with ⟨i, t, rfl, rfl⟩ | ⟨x, t, rfl, rfl⟩
    · rcases keyIs_shape hb with ⟨j, u, rfl, e⟩ | ⟨y, u, rfl, e⟩
      · injection e with e1 _; rw [e1]
      · exact nomatch e
    · rcases keyIs_shape hb with ⟨j, u, rfl, e⟩ | ⟨y, u, rfl, e⟩
      · exact nomatch e
      · injection e with e1 _; rw [e1]
  byValue := fun k v h => by
    rcases keyIs_shape h with ⟨i, t, rfl, rfl⟩ | ⟨x, t, rfl, rfl⟩ <;> rfl
  pyHash := fun hv h => by
    rcases keyIs_shape hv with ⟨i, t, rfl, rfl⟩ | ⟨x, t, rfl, rfl⟩
    · exact wpAny_pyHash_int h
    · exact wpAny_pyHash_str h
  eqBool := fun hu hv h => by
    rcases keyIs_shape hu with ⟨i, t, rfl, rfl⟩ | ⟨x, t, rfl, rfl⟩
    · rcases keyIs_shape hv with ⟨j, u, rfl, rfl⟩ | ⟨y, u, rfl, rfl⟩
      · rw [key_ll] at h; exact wpAny_eqBool_int h
      · rw [key_lr] at h; exact SeqAt.EqAt.int_str i t y u _ _ _ _ h
    · rcases keyIs_shape hv with ⟨j, u, rfl, rfl⟩ | ⟨y, u, rfl, rfl⟩
      · rw [key_rl] at h; exact SeqAt.EqAt.str_int x t j u _ _ _ _ h
      · rw [key_rr] at h; exact wpAny_eqBool_str h
  «strs» := fun k x t v h => by
    rcases keyIs_shape h with ⟨i, u, rfl, e⟩ | ⟨y, u, rfl, e⟩
    · exact nomatch e
    · injection e with e1 _
      subst e1
      cases v <;> rfl

end L2

namespace L2
open PySem PySem.Spec PyProof.Rows

inductive V where
  | non | bl (b : Bool) | int (i : Int) | str (x : Str) | byt (b : Array UInt8) | flt (b : UInt64) | ref (a : Addr) | ty (n : String)
  deriving DecidableEq

noncomputable def RelV : V → Value → Prop
  | .non, u => u = Value.none
  | .bl b, u => u = Value.bool b
  | .int i, u => ∃ t, u = Value.int i t
  | .str x, u => ∃ t, u = Value.str x t
  | .byt b, u => ∃ t, u = Value.bytes b t
  | .flt b, u => ∃ t, u = Value.float b t
  | .ref a, u => u = Value.ref a
  | .ty n, u => u = Value.type n

noncomputable abbrev Vals : List V → List Value → Prop := Paired RelV
theorem Vals.length {xs : List V} {us : List Value} (r : Vals xs us) : xs.length = us.length := Paired.length r
theorem Vals.get : ∀ {xs : List V} {us : List Value} {i : Nat} {x : V}, Vals xs us → xs[i]? = some x → ∃ u, us[i]? = some u ∧ RelV x u
  | _, _, _, _, .nil, e => by simp at e
  | _, _, 0, _, .cons r _, e => by simp at e; subst e; exact ⟨_, rfl, r⟩
  | _, _, i + 1, x, .cons _ t, e => by
    obtain ⟨u, h1, h2⟩ := Vals.get (i := i) (x := x) t (by simpa using e)
    exact ⟨u, by simpa using h1, h2⟩
theorem Vals.set {x : V} {u : Value} (r : RelV x u) : ∀ {xs : List V} {us : List Value} (i : Nat), Vals xs us → Vals (xs.set i x) (us.set i u)
  | _, _, _, .nil => .nil
  | _, _, 0, .cons _ t => .cons r t
  | _, _, i + 1, .cons q t => .cons q (Vals.set r i t)
theorem Vals.append : ∀ {xs ys : List V} {us ws : List Value}, Vals xs us → Vals ys ws → Vals (xs ++ ys) (us ++ ws)
  | _, _, _, _, .nil, s => s
  | _, _, _, _, .cons r t, s => .cons r (Vals.append t s)
theorem Vals.take : ∀ {xs : List V} {us : List Value} (n : Nat), Vals xs us → Vals (xs.take n) (us.take n)
  | _, _, 0, _ => .nil
  | _, _, _ + 1, .nil => .nil
  | _, _, n + 1, .cons r t => .cons r (Vals.take n t)
theorem Vals.drop : ∀ {xs : List V} {us : List Value} (n : Nat), Vals xs us → Vals (xs.drop n) (us.drop n)
  | _, _, 0, r => r
  | _, _, _ + 1, .nil => .nil
  | _, _, n + 1, .cons _ t => Vals.drop n t
noncomputable def RelO : Option V → Option Value → Prop
  | some v, some u => RelV v u
  | none, none => True
  | _, _ => False
noncomputable def KV {κ : Type} : List (κ × V) → List (κ × Value) → Prop := Paired fun (p : κ × V) (q : κ × Value) => p.1 = q.1 ∧ RelV p.2 q.2

noncomputable def kV : Key → V
  | .inl i => .int i
  | .inr x => .str x

inductive HO where
  /-- a list -/
  | lst (xs : List V)
  /-- a tuple (never changes) -/
  | tup (xs : List V)
  /-- a dict whose keys are ints and texts; one whose keys are tuples of ints and texts (the empty one is both) -/
  | dK (kvs : List (Key × V)) | dT (kvs : List (List Key × V))
  /-- a set of ints: its members, its size -/
  | set (S : Int → Bool) (n : Nat)
  /-- an instance of the class at C, its dict at dx, its attributes -/
  | ins (C dx : Addr) (fs : List (Str × V))
  /-- the dict of the instance at x -/
  | own (x : Addr)
  /-- the dict of an exception -/
  | xd (fs : List (Str × V))
  /-- a bound method, f of x -/
  | met (f x : Addr)
  /-- a range object lo, lo + 1, .. below hi -/
  | rng (lo hi : Int)
  /-- a thing that is known to the object (the script; a dict while a loop walks it): read, never written while it is so -/
  | frz (o : Obj) (u : HO)
  /-- a code object's table -/
  | tbl (ps : Array Value)
  /-- any other thing, by what is true of its one object (a def of one's own: SetO a S n := HO.ext fun h => ..) -/
  | ext (φ : Heap → Prop)

noncomputable abbrev Hp := Addr → Option HO
noncomputable def upd (H : Hp) (a : Addr) (o : HO) : Hp := fun b => if b = a then some o else H b
theorem upd_same {H : Hp} {a : Addr} {o : HO} : upd H a o a = some o := by unfold upd; rw [if_pos rfl]
theorem upd_ne {H : Hp} {a b : Addr} {o : HO} (h : b ≠ a) : upd H a o b = H b := by unfold upd; rw [if_neg h]
theorem upd_upd {H : Hp} {a : Addr} {o u : HO} : upd (upd H a o) a u = upd H a u := by
  funext b; unfold upd; split <;> rfl
theorem ne_of_none {H : Hp} {a b : Addr} {o : HO} (h : H a = some o) (h' : H b = none) : a ≠ b := by
  intro e; subst e; rw [h] at h'; cases h'

section
variable (P : Program) (w : World)
noncomputable def ObjOk (H : Hp) (h : Heap) (a : Addr) : HO → Prop
  | .lst xs => xs.length ≤ sizeLine ∧ ∃ (its : List Value) (n : Nat), Vals xs its ∧ h.get? a = some { cls := .type "list", data := .seq its.toArray n }
  | .tup xs => xs.length ≤ sizeLine ∧ ∃ its : List Value, Vals xs its ∧ IsTup h a its.toArray
  | .dK kvs => kvs.length ≤ sizeLine ∧ (a == sysModules) = false ∧ ∃ vs, KV kvs vs ∧ h.DictOf (mixKind P w) a vs
  | .dT kvs => kvs.length ≤ sizeLine ∧ (a == sysModules) = false ∧ ∃ xs : List (List Key × Addr × Value),
      Paired (fun (p : List Key × V) (q : List Key × Addr × Value) => p.1 = q.1 ∧ H q.2.1 = some (.tup (p.1.map kV)) ∧ RelV p.2 q.2.2) kvs xs ∧
      ∃ o es ep, h.get? a = some o ∧ o.ExactDict ∧ o.data = .dict es ep ∧ es.toList = xs.map (entryOfKey (tupleKind (mixKind P w))) ∧ (xs.map (·.1)).Nodup
  | .set S n => h.SetOf (intKind P w) a S n
  | .ins C dx fs => H dx = some (.own a) ∧ fs.length ≤ 1000 ∧ dx ≠ a ∧ h.get? a = some (PySem.W.instObj C dx) ∧
      ∃ mA, h.Ns1 dx mA ∧ (∀ f, RelO (fs.lookup f) (mA f)) ∧ PySem.Within mA (fs.map (·.1))
  | .own _ => ∃ o, h.get? a = some o
  | .xd fs => ∃ mA, h.Ns1 a mA ∧ ∀ f, RelO (fs.lookup f) (mA f)
  | .rng lo hi => ∃ t u v, h.get? a = some { cls := .type "range", data := .fields #[.int lo t, .int hi u, .int 1 v] }
  | .frz o u => h.get? a = some o ∧ ObjOk H h a u
  | .tbl ps => h.get? a = some { cls := .none, data := .fields ps }
  | .met f x => h.get? a = some (PySem.W.methodObj (.ref f) (.ref x))
  | .ext φ => φ h ∧ (∃ o, h.get? a = some o) ∧ ∀ h1 h2 : Heap, φ h1 → (∀ o, h1.get? a = some o → h2.get? a = some o) → φ h2
noncomputable def HOk (H : Hp) (h : Heap) : Prop := ∀ a o, H a = some o → ObjOk P w H h a o
end

section
variable {P : Program} {w : World} {H H' : Hp} {h h' : Heap} {a : Addr} {o : HO}
theorem ObjOk.lt (x : ObjOk P w H h a o) : a < h.objs.size := by
  cases o with
  | lst xs => obtain ⟨_, _, _, _, e⟩ := x; exact Heap.lt_size e
  | tup xs => obtain ⟨_, _, _, p⟩ := x; exact p.lt
  | dK kvs => obtain ⟨_, _, _, _, o, _, _, e, _⟩ := x; exact Heap.lt_size e
  | dT kvs => obtain ⟨_, _, _, _, o, _, _, e, _⟩ := x; exact Heap.lt_size e
  | set S n => obtain ⟨o, _, _, _, e, _⟩ := x; exact Heap.lt_size e
  | ins C dx fs => obtain ⟨_, _, _, e, _⟩ := x; exact Heap.lt_size e
  | own y => obtain ⟨_, e⟩ := x; exact Heap.lt_size e
  | xd fs => obtain ⟨_, ⟨_, _, _, e, _⟩, _⟩ := x; exact Heap.lt_size e
  | rng lo hi => obtain ⟨_, _, _, e⟩ := x; exact Heap.lt_size e
  | frz ob u => obtain ⟨e, _⟩ := x; exact Heap.lt_size e
  | tbl ps => exact Heap.lt_size (show h.get? a = some _ from x)
  | met f y => exact Heap.lt_size (show h.get? a = some _ from x)
  | ext φ => obtain ⟨_, ⟨_, e⟩, _⟩ := x; exact Heap.lt_size e
theorem Paired.mapP {α β : Type} {F G : α → β → Prop} : ∀ {l₁ : List α} {l₂ : List β}, Paired F l₁ l₂ → (∀ a b, F a b → G a b) → Paired G l₁ l₂
  | _, _, .nil, _ => .nil
  | _, _, .cons r t, f => .cons (f _ _ r) (Paired.mapP t f)
theorem ObjOk.stay (x : ObjOk P w H h a o) (k : ∀ b u, (b = a ∨ H b = some (.own a)) → h.get? b = some u → h'.get? b = some u)
    (ho : ∀ b, H b = some (.own a) → H' b = some (.own a)) (ht : ∀ b xs, H b = some (.tup xs) → H' b = some (.tup xs)) : ObjOk P w H' h' a o := by
  induction o with
  | lst xs => obtain ⟨z, its, n, r, e⟩ := x; exact ⟨z, its, n, r, k _ _ (.inl rfl) e⟩
  | tup xs => obtain ⟨z, its, r, ob, e, c⟩ := x; exact ⟨z, its, r, ob, k _ _ (.inl rfl) e, c⟩
  | dK kvs => obtain ⟨z, y, vs, r, ob, es, ep, e, c⟩ := x; exact ⟨z, y, vs, r, ob, es, ep, k _ _ (.inl rfl) e, c⟩
  | dT kvs =>
    obtain ⟨z, y, xs, r, ob, es, ep, e, c⟩ := x
    exact ⟨z, y, xs, Paired.mapP r fun p q z => ⟨z.1, ht _ _ z.2.1, z.2.2⟩, ob, es, ep, k _ _ (.inl rfl) e, c⟩
  | set S n => obtain ⟨ob, es, ep, t, e, c⟩ := x; exact ⟨ob, es, ep, t, k _ _ (.inl rfl) e, c⟩
  | ins C dx fs =>
    obtain ⟨d, z, ne, e, mA, ⟨od, es, ep, e2, c⟩, r⟩ := x
    exact ⟨ho _ d, z, ne, k _ _ (.inl rfl) e, mA, ⟨od, es, ep, k _ _ (.inr d) e2, c⟩, r⟩
  | own y => obtain ⟨ob, e⟩ := x; exact ⟨ob, k _ _ (.inl rfl) e⟩
  | xd fs => obtain ⟨mA, ⟨od, es, ep, e, c⟩, r⟩ := x; exact ⟨mA, ⟨od, es, ep, k _ _ (.inl rfl) e, c⟩, r⟩
  | rng lo hi => obtain ⟨t, u, v, e⟩ := x; exact ⟨t, u, v, k _ _ (.inl rfl) e⟩
  | frz ob u ih => obtain ⟨e, q⟩ := x; exact ⟨k _ _ (.inl rfl) e, ih q⟩
  | tbl ps =>
    have e : h.get? a = some { cls := .none, data := .fields ps } := x
    show h'.get? a = some { cls := .none, data := .fields ps }
    exact k a _ (.inl rfl) e
  | met f y =>
    have e : h.get? a = some (PySem.W.methodObj (.ref f) (.ref y)) := x
    show h'.get? a = some (PySem.W.methodObj (.ref f) (.ref y))
    exact k a _ (.inl rfl) e
  | ext φ => obtain ⟨p, ⟨o, e⟩, st⟩ := x; exact ⟨st _ _ p fun o q => k _ _ (.inl rfl) q, ⟨o, k _ _ (.inl rfl) e⟩, st⟩
theorem HOk.lt (x : HOk P w H h) (e : H a = some o) : a < h.objs.size := (x a o e).lt
theorem HOk.fresh (x : HOk P w H h) (e : h.objs.size ≤ a) : H a = none := by
  cases q : H a with
  | none => rfl
  | some u => exact absurd (Nat.lt_of_lt_of_le (x.lt q) e) (Nat.lt_irrefl _)
theorem HOk.kept (x : HOk P w H h) (k : ∀ b u, h.get? b = some u → h'.get? b = some u) : HOk P w H h' := fun a o e =>
  (x a o e).stay (fun b u _ q => k b u q) (fun _ q => q) fun _ _ q => q
theorem HOk.laid (x : HOk P w H h) (k : ∀ b u, h.get? b = some u → h'.get? b = some u) (hp : h.objs.size ≤ a) (new : ObjOk P w (upd H a o) h' a o) : HOk P w (upd H a o) h' := fun b u e => by
  have hn := x.fresh hp
  by_cases hb : b = a
  · subst hb; rw [upd_same] at e; cases e; exact new
  · rw [upd_ne hb] at e
    exact (x b u e).stay (fun c v _ q => k c v q) (fun c q => by rw [upd_ne (ne_of_none q hn)]; exact q) fun c xs q => by rw [upd_ne (ne_of_none q hn)]; exact q
end

noncomputable def Rd (H : Hp) (a : Addr) (u : HO) : Prop := H a = some u ∨ ∃ o, H a = some (.frz o u)
theorem Rd.of {H : Hp} {a : Addr} {u : HO} (h : H a = some u) : Rd H a u := .inl h
theorem Rd.ok {P : Program} {w : World} {H : Hp} {h : Heap} {a : Addr} {u : HO} (r : Rd H a u) (x : HOk P w H h) : ObjOk P w H h a u := by
  rcases r with r | ⟨o, r⟩
  · exact x a u r
  · obtain ⟨_, q⟩ := x a _ r
    exact q
noncomputable def Mut : Option HO → Prop
  | some (.lst _) => True
  | some (.dK _) => True
  | some (.dT _) => True
  | some (.set _ _) => True
  | some (.ins _ _ _) => True
  | some (.ext _) => True
  | _ => False
section
variable {P : Program} {w : World} {H : Hp} {h h' : Heap} {x e : Addr} {o' : HO}
theorem HOk.write (ok : HOk P w H h) (mu : Mut (H x)) (he : e = x ∨ H e = some (.own x)) (k : ∀ b u, b ≠ e → h.get? b = some u → h'.get? b = some u) (heo : ∃ u, h'.get? e = some u)
    (new : ObjOk P w (upd H x o') h' x o') : HOk P w (upd H x o') h' := fun b u q => by
  have nown : ∀ c y, H c = some (.own y) → c ≠ x := fun c y r z => by subst z; rw [r] at mu; exact mu
  have ntup : ∀ c xs, H c = some (.tup xs) → c ≠ x := fun c xs r z => by subst z; rw [r] at mu; exact mu
  by_cases hb : b = x
  · subst hb; rw [upd_same] at q; cases q; exact new
  · rw [upd_ne hb] at q
    by_cases hbe : b = e
    · have q' : H b = some (.own x) := by
        rcases he with z | z
        · exact absurd (hbe.trans z) hb
        · rw [hbe]; exact z
      rw [q] at q'; cases q'
      obtain ⟨v, hv⟩ := heo
      exact ⟨v, by rw [hbe]; exact hv⟩
    · refine (ok b u q).stay (fun c v hc r => k c v ?_ r) (fun c r => by rw [upd_ne (nown c b r)]; exact r) fun c xs r => by rw [upd_ne (ntup c xs r)]; exact r
      rcases hc with rfl | hc
      · exact hbe
      · rintro rfl
        rcases he with z | z
        · exact nown c b hc z
        · rw [hc] at z; cases z; exact hb rfl
end

structure Un (fs ex : List Addr) (H H' : Hp) (h h' : Heap) : Prop where
  keep : ∀ b o, h.get? b = some o → H b = none → b ∉ fs → b ∉ ex → h'.get? b = some o
  slot : ∀ b o, h.get? b = some o → H b = none → b ∈ fs → b ∉ ex → ∃ sl, h'.get? b = some { o with slots := sl }
  free : ∀ b o, h.get? b = some o → H b = none → b ∉ ex → H' b = none
  there : ∀ b o, h.get? b = some o → b ∉ ex → ∃ o', h'.get? b = some o'
  tups : ∀ b xs, H b = some (.tup xs) → H' b = some (.tup xs)
  frzs : ∀ b o u, H b = some (.frz o u) → H' b = some (.frz o u)
  tbls : ∀ b ps, H b = some (.tbl ps) → ∃ more, H' b = some (.tbl (ps ++ more))
section
variable {fs fs' ex ex' : List Addr} {H H1 H2 : Hp} {h h1 h2 h' : Heap} {a x e : Addr} {o : HO}
theorem Un.any (u : Un fs ex H H1 h h1) {b : Addr} {ob : Obj} (q : h.get? b = some ob) (n : H b = none) (hx : b ∉ ex) : ∃ sl, h1.get? b = some { ob with slots := sl } := by
  by_cases hb : b ∈ fs
  · exact u.slot b ob q n hb hx
  · exact ⟨ob.slots, u.keep b ob q n hb hx⟩
theorem Un.trans (a : Un fs ex H H1 h h1) (b : Un fs ex H1 H2 h1 h2) : Un fs ex H H2 h h2 where
  keep := fun c ob q n hc hx => b.keep c ob (a.keep c ob q n hc hx) (a.free c ob q n hx) hc hx
  slot := fun c ob q n hc hx => by
    obtain ⟨sl, e1⟩ := a.slot c ob q n hc hx
    obtain ⟨sl', e2⟩ := b.slot c _ e1 (a.free c ob q n hx) hc hx
    exact ⟨sl', e2⟩
  free := fun c ob q n hx => by
    obtain ⟨o', e1⟩ := a.there c ob q hx
    exact b.free c o' e1 (a.free c ob q n hx) hx
  there := fun c ob q hx => by
    obtain ⟨o', e1⟩ := a.there c ob q hx
    exact b.there c o' e1 hx
  tups := fun c xs q => b.tups c xs (a.tups c xs q)
  frzs := fun c ob xs q => b.frzs c ob xs (a.frzs c ob xs q)
  tbls := fun c ps q => by
    obtain ⟨m1, e1⟩ := a.tbls c ps q
    obtain ⟨m2, e2⟩ := b.tbls c _ e1
    exact ⟨m1 ++ m2, by rw [e2, Array.append_assoc]⟩
theorem Un.kept (k : ∀ b u, h.get? b = some u → h'.get? b = some u) : Un fs ex H H h h' :=
  ⟨fun b ob q _ _ _ => k b ob q, fun b ob q _ _ _ => ⟨ob.slots, k b ob q⟩, fun _ _ _ n _ => n, fun b ob q _ => ⟨ob, k b ob q⟩, fun _ _ q => q, fun _ _ _ q => q, fun _ ps q => ⟨#[], by rw [q]; simp⟩⟩
theorem Un.refl : Un fs ex H H h h := Un.kept fun _ _ q => q
theorem Un.laid (k : ∀ b u, h.get? b = some u → h'.get? b = some u) (hp : h.objs.size ≤ a) (hn : H a = none) : Un fs ex H (upd H a o) h h' where
  keep := fun b u q _ _ _ => k b u q
  slot := fun b u q _ _ _ => ⟨u.slots, k b u q⟩
  free := fun b u q n _ => by rw [upd_ne (Nat.ne_of_lt (Nat.lt_of_lt_of_le (Heap.lt_size q) hp))]; exact n
  there := fun b u q _ => ⟨u, k b u q⟩
  tups := fun b xs q => by rw [upd_ne (ne_of_none q hn)]; exact q
  frzs := fun b u xs q => by rw [upd_ne (ne_of_none q hn)]; exact q
  tbls := fun b ps q => ⟨#[], by rw [upd_ne (ne_of_none q hn), q]; simp⟩
theorem Un.write (mu : Mut (H x)) (he : e = x ∨ H e = some (.own x)) (k : ∀ b u, b ≠ e → h.get? b = some u → h'.get? b = some u) (heo : ∃ u, h'.get? e = some u) : Un fs ex H (upd H x o) h h' := by
  have hx : ∀ b, H b = none → b ≠ x := fun b n z => by subst z; rw [n] at mu; exact mu
  have hb : ∀ b, H b = none → b ≠ e := fun b n z => by
    subst z
    rcases he with r | r
    · exact hx b n r
    · rw [n] at r; cases r
  have hm : ∀ b u, H b = some u → ¬ Mut (some u) → b ≠ x := fun b u q nm z => by subst z; rw [q] at mu; exact nm mu
  refine ⟨fun b u q n _ _ => k b u (hb b n) q, fun b u q n _ _ => ⟨u.slots, k b u (hb b n) q⟩, fun b u q n _ => by rw [upd_ne (hx b n)]; exact n, fun b u q _ => ?_,
    fun b xs q => by rw [upd_ne (hm b _ q fun z => z)]; exact q, fun b u xs q => by rw [upd_ne (hm b _ q fun z => z)]; exact q, fun b ps q => ⟨#[], by rw [upd_ne (hm b _ q fun z => z), q]; simp⟩⟩
  by_cases hbe : b = e
  · subst hbe; exact heo
  · exact ⟨u, k b u hbe q⟩
theorem Un.mono (u : Un fs ex H H1 h h1) (hs : ∀ b ∈ fs, b ∈ fs') (hx : ∀ b ∈ ex, b ∈ ex') : Un fs' ex' H H1 h h1 :=
  ⟨fun b ob q n hb he => u.keep b ob q n (fun z => hb (hs b z)) fun z => he (hx b z), fun _ _ q n _ he => u.any q n fun z => he (hx _ z), fun b ob q n he => u.free b ob q n fun z => he (hx b z), fun b ob q he => u.there b ob q fun z => he (hx b z), u.tups, u.frzs, u.tbls⟩
end

noncomputable def trk (h : Heap) (H : Hp) : List Addr := (List.range h.objs.size).filter fun a => (H a).isSome
noncomputable def hidT (h : Heap) (H : Hp) : Heap := PySem.W.hideAll h (trk h H)
theorem hidT_size (h : Heap) (H : Hp) : (hidT h H).objs.size = h.objs.size := PySem.W.hideAll_size _ _
theorem hidT_get {h : Heap} {H : Hp} {b : Addr} {o : Obj} (e : h.get? b = some o) (n : H b = none) : (hidT h H).get? b = some o :=
  PySem.W.hideAll_get _ e fun hm => by
    have q : (H b).isSome = true := (List.mem_filter.mp hm).2
    rw [n] at q; simp at q
theorem of_hidT {h : Heap} {H : Hp} {b : Addr} {o : Obj} (e : (hidT h H).get? b = some o) : h.get? b = some o ∧ H b = none := by
  have e' : h.get? b = some o := PySem.W.of_hideAll (trk h H) e
  refine ⟨e', ?_⟩
  cases q : H b with
  | none => rfl
  | some x =>
    have hm : b ∈ trk h H := List.mem_filter.mpr ⟨List.mem_range.mpr (Heap.lt_size e'), by simp [q]⟩
    have z : (hidT h H).get? b = none := PySem.W.hideAll_none (trk h H) hm
    rw [z] at e; cases e

noncomputable def allNews (g h : Heap) (L : Addr) : List (Addr × Obj) := (List.range h.objs.size).filterMap fun a => if a = L ∨ (g.get? a).isSome = true then none else (h.get? a).map fun o => (a, o)
noncomputable def rest (g h : Heap) (L d : Addr) : List (Addr × Obj) := (allNews g h L).filter fun p => decide (p.1 ≠ d)
end L2

namespace L2
open PySem PySem.Spec PyProof.Rows

structure Mod (K : PySem.W.Frag) (mg : Str → Option Value) (base : Heap) : Prop where
  kin : K.In base
  glob : base.Ns mainGlobals mg
  blt : ∃ mb, base.Ns builtinsNs mb ∧ ∀ x : Str, x ≠ "__name__" → mb x = bootBuiltins x
  nolimit : base.NoLimit

structure Cx where
  prog : Program
  w : World
  K : PySem.W.Frag
  mg : Str → Option Value
  base : Heap
  A : Around
  N : List Str
  s₀ : Shared
  H₀ : Hp
  env : Env
  outer : List Env
  stack : List Env
  ex : List Addr
  fn : Str → Bool
  calm : Bool
  pn : List (Addr × Obj)
  xe : Value → Shared → Prop
noncomputable def frs (l : List Env) : List Addr := l.filterMap (·.frame)
noncomputable abbrev Cx.fs (X : Cx) : List Addr := frs X.outer

noncomputable def Vis (sc : Scope) (x : Str) : Prop := sc.names.lookup x = some .local ∨ sc.names.lookup x = some .cell ∨ sc.names.lookup x = some .free
noncomputable def Loc (sc : Scope) (x : Str) : Prop := sc.names.lookup x = some .local ∨ sc.names.lookup x = some .cell
noncomputable def Look (env : Env) (h : Heap) (m : Str → Option Value) (x : Str) (u : Value) : Prop :=
  (env.kindOf x = some .local ∧ m x = some u) ∨ ((env.kindOf x = some .cell ∨ env.kindOf x = some .free) ∧ ∃ c, env.cells.lookup x = some c ∧ h.IsCell c (some u))

structure Cx.Ok (X : Cx) : Prop where
  mod : Mod X.K X.mg X.base
  kind : X.env.scope.kind = .function
  glob : X.env.globals = mainGlobals
  blt : X.env.builtins = builtinsNs
  above : X.s₀.heap.objs.size ≤ X.env.locals
  inj : ∀ x y c, X.env.cells.lookup x = some c → X.env.cells.lookup y = some c → x = y
  has : ∀ x, (X.env.kindOf x = some .cell ∨ X.env.kindOf x = some .free) → ∃ c, X.env.cells.lookup x = some c
  cab : ∀ x c, X.fn x = true → X.env.cells.lookup x = some c → X.s₀.heap.objs.size ≤ c
  hd : X.calm = true → X.A.handled = none
  frames : X.A.frames = some X.stack
  stk : X.stack = X.outer ∨ (X.stack = X.env :: X.outer ∧ X.env.frame = some X.env.locals)
  exf : ∀ b ∈ X.ex, b ≠ X.env.locals ∧ ∀ x c, X.env.cells.lookup x = some c → c ≠ b
  bs : ∀ b o, X.base.get? b = some o → X.s₀.heap.get? b = some o ∧ X.H₀ b = none
  bsz : X.base.objs.size ≤ X.s₀.heap.objs.size
  noex : ∀ b o, X.base.get? b = some o → b ∉ X.ex
  exfs : ∀ b ∈ X.ex, b ∉ X.fs
  funs : X.s₀.heap.FunFrames X.base X.outer
  frf : ∀ b ∈ X.fs, X.H₀ b = none

structure Inv (X : Cx) (pins : List (Addr × Obj)) (σ : List (Option V)) (H : Hp) (s : Shared) : Prop where
  ok : X.Ok
  os : s.os = X.s₀.os
  bare : AllBare s.gens
  base : Un X.fs X.ex X.H₀ H X.s₀.heap s.heap
  loc : ∃ m, s.heap.Ns X.env.locals m ∧ ∀ (i : Nat) (x : Str) (v : V), X.N[i]? = some x → σ[i]? = some (some v) → Vis X.env.scope x → ∃ u, RelV v u ∧ Look X.env s.heap m x u
  cell : ∀ x c, X.env.cells.lookup x = some c → ∃ v, s.heap.IsCell c v
  free : H X.env.locals = none
  freeC : ∀ x c, X.env.cells.lookup x = some c → H c = none
  pin : ∀ p ∈ X.pn ++ pins, s.heap.get? p.1 = some p.2 ∧ H p.1 = none ∧ p.1 ≠ X.env.locals ∧ p.1 ∉ X.fs ∧ ∀ v, p.2.data ≠ .cell v
  hok : HOk X.prog X.w H s.heap
  len : σ.length = X.N.length

section
variable {X : Cx} {pins : List (Addr × Obj)} {σ : List (Option V)} {H H' : Hp} {s : Shared} {h' : Heap}

theorem Cx.Ok.nofr (ok : X.Ok) {b : Addr} {o : Obj} (e : X.base.get? b = some o) : b ∉ X.fs := fun hb => by
  have := (ok.funs.mem hb).1
  rw [e] at this; cases this
theorem Inv.bs (I : Inv X pins σ H s) : ∀ b o, X.base.get? b = some o → s.heap.get? b = some o ∧ H b = none := fun b o e =>
  ⟨I.base.keep b o (I.ok.bs b o e).1 (I.ok.bs b o e).2 (I.ok.nofr e) (I.ok.noex b o e), I.base.free b o (I.ok.bs b o e).1 (I.ok.bs b o e).2 (I.ok.noex b o e)⟩
theorem Inv.bk (I : Inv X pins σ H s) : ∀ b o, X.base.get? b = some o → s.heap.get? b = some o := fun b o e => (I.bs b o e).1
theorem Inv.mod (I : Inv X pins σ H s) : Mod X.K X.mg X.base := I.ok.mod
theorem Inv.kIn (I : Inv X pins σ H s) : X.K.In s.heap := I.ok.mod.kin.keeps I.bk
theorem Inv.nolimit (I : Inv X pins σ H s) : s.heap.NoLimit := I.ok.mod.nolimit.keeps I.bk
theorem Inv.lt (I : Inv X pins σ H s) : X.env.locals < s.heap.objs.size := let ⟨_, hn, _⟩ := I.loc; hn.lt
theorem Inv.sz (I : Inv X pins σ H s) : X.s₀.heap.objs.size ≤ s.heap.objs.size := Nat.le_trans I.ok.above (Nat.le_of_lt I.lt)
theorem Inv.nofs (I : Inv X pins σ H s) {a : Addr} (h : s.heap.objs.size ≤ a) : a ∉ X.fs := fun hb => by
  obtain ⟨_, o, ho, _⟩ := I.ok.funs.mem hb
  exact absurd (Nat.lt_of_lt_of_le (Heap.lt_size ho) (Nat.le_trans I.sz h)) (Nat.lt_irrefl _)
theorem Inv.cne (I : Inv X pins σ H s) : ∀ x c, X.env.cells.lookup x = some c → c ≠ X.env.locals := fun x c e z => by
  obtain ⟨v, o, ho, hd⟩ := I.cell x c e
  obtain ⟨m, ⟨o', es, ep, ho', hd', _⟩, _⟩ := I.loc
  rw [z, ho'] at ho; cases ho; rw [hd'] at hd; cases hd
theorem Inv.funs (I : Inv X pins σ H s) : s.heap.FunFrames X.base X.outer := by
  have all : ∀ (l : List Env), (∀ b ∈ frs l, b ∈ X.fs) → X.s₀.heap.FunFrames X.base l → s.heap.FunFrames X.base l := by
    intro l
    induction l with
    | nil => intro _ _; trivial
    | cons env r ih =>
      intro hs hl
      obtain ⟨hk, ⟨L, o, hf, hn, ho, hd⟩, hr⟩ := hl
      have hL : L ∈ X.fs := hs L (by unfold frs; rw [List.filterMap_cons, hf]; exact List.mem_cons_self)
      obtain ⟨sl, e⟩ := I.base.slot L o ho (I.ok.frf L hL) hL fun z => I.ok.exfs L z hL
      exact ⟨hk, ⟨L, _, hf, hn, e, hd⟩, ih (fun b hb => hs b (by unfold frs; rw [List.filterMap_cons, hf]; exact List.mem_cons_of_mem _ hb)) hr⟩
  exact all X.outer (fun _ hb => hb) I.ok.funs

theorem Inv.stack (I : Inv X pins σ H s) : s.heap.FunFrames X.base X.stack := by
  rcases I.ok.stk with e | ⟨e, hf⟩
  · rw [e]; exact I.funs
  · rw [e]
    obtain ⟨m, hn, _⟩ := I.loc
    refine .cons (by rw [I.ok.kind]; decide) hf hn ?_ I.funs
    exact Heap.get?_none_of_le (Nat.le_trans I.ok.bsz I.ok.above)
theorem Inv.stkSub (I : Inv X pins σ H s) : ∀ b ∈ frs X.stack, b ∈ X.env.locals :: X.fs := fun b hb => by
  rcases I.ok.stk with e | ⟨e, hf⟩
  · rw [e] at hb; exact List.mem_cons_of_mem _ hb
  · rw [e] at hb
    unfold frs at hb
    rw [List.filterMap_cons, hf] at hb
    exact hb
theorem Inv.stkFree (I : Inv X pins σ H s) : ∀ b ∈ frs X.stack, H b = none := fun b hb => by
  rcases List.mem_cons.mp (I.stkSub b hb) with e | hb
  · rw [e]; exact I.free
  · obtain ⟨_, o, ho, _⟩ := I.ok.funs.mem hb
    exact I.base.free b o ho (I.ok.frf b hb) fun z => I.ok.exfs b z hb

theorem Inv.step {g' : Array GenState} {t' : Nat} {d' : Drawn} {ch : List Addr} (I : Inv X pins σ H s)
    (hch : ∀ b ∈ ch, (b ∈ X.ex ∨ X.s₀.heap.objs.size ≤ b) ∧ b ≠ X.env.locals ∧ (∀ x c, X.env.cells.lookup x = some c → c ≠ b) ∧ ∀ p ∈ X.pn ++ pins, p.1 ≠ b)
    (keep : ∀ b o, b ≠ X.env.locals → b ∉ X.fs → b ∉ ch → s.heap.get? b = some o → H b = none → h'.get? b = some o)
    (slot : ∀ b o, b ≠ X.env.locals → b ∈ X.fs → b ∉ ch → s.heap.get? b = some o → H b = none → ∃ sl, h'.get? b = some { o with slots := sl }) (free : ∀ b o, b ∉ ch → s.heap.get? b = some o → H b = none → H' b = none)
    (there : ∀ b o, b ∉ ch → s.heap.get? b = some o → ∃ o', h'.get? b = some o')
    (tups : ∀ b xs, H b = some (.tup xs) → H' b = some (.tup xs)) (frzs : ∀ b o u, H b = some (.frz o u) → H' b = some (.frz o u)) (tbls : ∀ b ps, H b = some (.tbl ps) → ∃ more, H' b = some (.tbl (ps ++ more)))
    (ns : ∀ m, s.heap.Ns X.env.locals m → h'.Ns X.env.locals m) (hok : HOk X.prog X.w H' h') (hg : AllBare g') :
    Inv X pins σ H' { s with heap := h', gens := g', drawn := d', toks := t' } := by
  have neL : ∀ b o, X.s₀.heap.get? b = some o → b ≠ X.env.locals := fun b o e => Nat.ne_of_lt (Nat.lt_of_lt_of_le (Heap.lt_size e) I.ok.above)
  have neC : ∀ b o, X.s₀.heap.get? b = some o → b ∉ X.ex → b ∉ ch := fun b o e hx hb => by
    rcases (hch b hb).1 with z | z
    · exact hx z
    · exact absurd (Nat.lt_of_lt_of_le (Heap.lt_size e) z) (Nat.lt_irrefl _)
  have cellK : ∀ x c, X.env.cells.lookup x = some c → ∀ v, s.heap.IsCell c v → h'.IsCell c v := fun x c e v zz => by
    obtain ⟨o, ho, hd⟩ := zz
    have nch : c ∉ ch := fun z => (hch c z).2.2.1 x c e rfl
    by_cases hc : c ∈ X.fs
    · obtain ⟨sl, q⟩ := slot c o (I.cne x c e) hc nch ho (I.freeC x c e)
      exact ⟨_, q, hd⟩
    · exact ⟨o, keep c o (I.cne x c e) hc nch ho (I.freeC x c e), hd⟩
  refine ⟨I.ok, I.os, hg, ⟨fun b o e n hb hx => ?_, fun b o e n hb hx => ?_, fun b o e n hx => ?_, fun b o e hx => ?_, fun b xs e => tups b xs (I.base.tups b xs e), fun b o xs e => frzs b o xs (I.base.frzs b o xs e), fun b ps e => ?_⟩, ?_, fun x c e => ?_, ?_, fun x c e => ?_, fun p hp => ?_, hok, I.len⟩
  · exact keep b o (neL b o e) hb (neC b o e hx) (I.base.keep b o e n hb hx) (I.base.free b o e n hx)
  · obtain ⟨sl, e1⟩ := I.base.slot b o e n hb hx
    obtain ⟨sl', e2⟩ := slot b _ (neL b o e) hb (neC b o e hx) e1 (I.base.free b o e n hx)
    exact ⟨sl', e2⟩
  · obtain ⟨o', e1⟩ := I.base.there b o e hx
    exact free b o' (neC b o e hx) e1 (I.base.free b o e n hx)
  · obtain ⟨o', e1⟩ := I.base.there b o e hx
    exact there b o' (neC b o e hx) e1
  · obtain ⟨m1, e1⟩ := I.base.tbls b ps e
    obtain ⟨m2, e2⟩ := tbls b _ e1
    exact ⟨m1 ++ m2, by rw [e2, Array.append_assoc]⟩
  · obtain ⟨m, hn, hl⟩ := I.loc
    refine ⟨m, ns m hn, fun i x v e1 e2 e3 => ?_⟩
    obtain ⟨u, r, l⟩ := hl i x v e1 e2 e3
    refine ⟨u, r, ?_⟩
    rcases l with l | ⟨k, c, e, z⟩
    · exact .inl l
    · exact .inr ⟨k, c, e, cellK x c e _ z⟩
  · obtain ⟨v, z⟩ := I.cell x c e
    exact ⟨v, cellK x c e v z⟩
  · obtain ⟨m, ⟨o, _, _, ho, _⟩, _⟩ := I.loc
    exact free _ o (fun z => (hch _ z).2.1 rfl) ho I.free
  · obtain ⟨v, o, ho, hd⟩ := I.cell x c e
    exact free c o (fun z => (hch c z).2.2.1 x c e rfl) ho (I.freeC x c e)
  · obtain ⟨e, n, ne, nf, d⟩ := I.pin p hp
    have nch : p.1 ∉ ch := fun z => (hch p.1 z).2.2.2 p hp rfl
    exact ⟨keep p.1 p.2 ne nf nch e n, free p.1 p.2 nch e n, ne, nf, d⟩
theorem Inv.un {t' : Nat} (I : Inv X pins σ H s) (u : Un X.fs [] H H' s.heap h') (hok : HOk X.prog X.w H' h') : Inv X pins σ H' { s with heap := h', toks := t' } := by
  obtain ⟨m, ⟨o, es, ep, ho, r⟩, _⟩ := id I.loc
  obtain ⟨sl, hL⟩ := u.any ho I.free (by simp)
  exact I.step (g' := s.gens) (d' := s.drawn) (ch := []) (fun _ z => nomatch z) (fun b o _ hb _ e n => u.keep b o e n hb (by simp)) (fun b o _ hb _ e n => u.slot b o e n hb (by simp)) (fun b o _ e n => u.free b o e n (by simp)) (fun b o _ e => u.there b o e (by simp)) u.tups u.frzs u.tbls (fun m' hm => by
    obtain ⟨o', es', ep', ho', r'⟩ := hm
    rw [ho] at ho'; cases ho'
    exact ⟨_, es', ep', hL, r'⟩) hok I.bare
theorem Inv.call {g' : Array GenState} {t' : Nat} {d' : Drawn} {ch : List Addr} (I : Inv X pins σ H s) (u : Un (frs X.stack) ch H H' s.heap h') (hok : HOk X.prog X.w H' h') (hg : AllBare g')
    (hch : ∀ b ∈ ch, (b ∈ X.ex ∨ X.s₀.heap.objs.size ≤ b) ∧ b ≠ X.env.locals ∧ (∀ x c, X.env.cells.lookup x = some c → c ≠ b) ∧ ∀ p ∈ X.pn ++ pins, p.1 ≠ b) :
    Inv X pins σ H' { s with heap := h', gens := g', drawn := d', toks := t' } := by
  obtain ⟨m, ⟨o, es, ep, ho, r⟩, _⟩ := id I.loc
  obtain ⟨sl, hL⟩ := u.any ho I.free fun z => (hch _ z).2.1 rfl
  exact I.step (ch := ch) hch (fun b o hL hb hc e n => u.keep b o e n (fun z => (List.mem_cons.mp (I.stkSub b z)).elim hL hb) hc) (fun b o _ _ hc e n => u.any e n hc) (fun b o hc e n => u.free b o e n hc) (fun b o hc e => u.there b o e hc) u.tups u.frzs u.tbls (fun m' hm => by
    obtain ⟨o', es', ep', ho', r'⟩ := hm
    rw [ho] at ho'; cases ho'
    exact ⟨_, es', ep', hL, r'⟩) hok hg
theorem Inv.turned {t' : Nat} {it : Addr} (I : Inv X pins σ H s) (k : ∀ b o, b ≠ it → s.heap.get? b = some o → h'.get? b = some o) (hn : H it = none) (hL : it ≠ X.env.locals)
    (h1 : it ∈ X.ex ∨ X.s₀.heap.objs.size ≤ it) (h2 : ∀ x c, X.env.cells.lookup x = some c → c ≠ it) (h3 : ∀ p ∈ X.pn ++ pins, p.1 ≠ it) : Inv X pins σ H { s with heap := h', toks := t' } := by
  have nit : ∀ b u, H b = some u → b ≠ it := fun b u e z => by rw [z, hn] at e; cases e
  refine I.step (g' := s.gens) (d' := s.drawn) (ch := [it]) (fun b hb => ?_) (fun b o _ _ hc e _ => k b o (fun z => hc (by simp [z])) e) (fun b o _ _ hc e _ => ⟨o.slots, k b o (fun z => hc (by simp [z])) e⟩) (fun _ _ _ _ n => n)
    (fun b o hc e => ⟨o, k b o (fun z => hc (by simp [z])) e⟩) (fun _ _ e => e) (fun _ _ _ e => e) (fun b ps e => ⟨#[], by rw [e]; simp⟩) (fun m hm => ?_) (fun b u e => ?_) I.bare
  · have e : b = it := by simpa using hb
    subst e
    exact ⟨h1, hL, h2, h3⟩
  · obtain ⟨o, es, ep, ho, r⟩ := hm
    exact ⟨o, es, ep, k _ o (Ne.symm hL) ho, r⟩
  · refine (I.hok b u e).stay (fun c v hc q => k c v ?_ q) (fun _ q => q) fun _ _ q => q
    rcases hc with z | z
    · rw [z]; exact nit b u e
    · exact nit c _ z
theorem Inv.tok (I : Inv X pins σ H s) (t : Nat) : Inv X pins σ H { s with toks := t } := I.un (h' := s.heap) (t' := t) Un.refl I.hok
theorem Inv.kept {t' : Nat} (I : Inv X pins σ H s) (k : ∀ b u, s.heap.get? b = some u → h'.get? b = some u) : Inv X pins σ H { s with heap := h', toks := t' } := I.un (Un.kept k) (I.hok.kept k)
theorem Inv.laid {a : Addr} {o : HO} {t' : Nat} (I : Inv X pins σ H s) (k : ∀ b u, s.heap.get? b = some u → h'.get? b = some u) (hp : s.heap.objs.size ≤ a) (new : ObjOk X.prog X.w (upd H a o) h' a o) :
    Inv X pins σ (upd H a o) { s with heap := h', toks := t' } := I.un (Un.laid k hp (I.hok.fresh hp)) (I.hok.laid k hp new)
theorem Inv.write {x e : Addr} {o : HO} {t' : Nat} (I : Inv X pins σ H s) (mu : Mut (H x)) (he : e = x ∨ H e = some (.own x)) (k : ∀ b u, b ≠ e → s.heap.get? b = some u → h'.get? b = some u) (heo : ∃ u, h'.get? e = some u)
    (new : ObjOk X.prog X.w (upd H x o) h' x o) : Inv X pins σ (upd H x o) { s with heap := h', toks := t' } := I.un (Un.write mu he k heo) (I.hok.write mu he k heo new)
theorem Inv.pins_of {pins' : List (Addr × Obj)} (I : Inv X pins σ H s) (h : ∀ p ∈ pins', s.heap.get? p.1 = some p.2 ∧ H p.1 = none ∧ p.1 ≠ X.env.locals ∧ p.1 ∉ X.fs ∧ ∀ v, p.2.data ≠ .cell v) : Inv X pins' σ H s :=
  ⟨I.ok, I.os, I.bare, I.base, I.loc, I.cell, I.free, I.freeC, fun p hp => (List.mem_append.mp hp).elim (fun z => I.pin p (List.mem_append_left _ z)) (h p), I.hok, I.len⟩

theorem nodup_ix {N : List Str} (hN : N.Nodup) {i j : Nat} {x : Str} (a : N[i]? = some x) (b : N[j]? = some x) : i = j := by
  obtain ⟨h1, e1⟩ := List.getElem?_eq_some_iff.mp a
  obtain ⟨h2, e2⟩ := List.getElem?_eq_some_iff.mp b
  exact (List.getElem_inj hN).mp (e1.trans e2.symm)

theorem store_ok2 {M : Model} {A : Around} {E : Value → Shared → Prop} {i : Nat} {x : Str} {v : V} {u : Value} {Q : Unit → Shared → Prop} (I : Inv X pins σ H s) (hN : X.N.Nodup) (hi : X.N[i]? = some x) (hx : Loc X.env.scope x) (r : RelV v u)
    (h : ∀ s', Inv X pins (σ.set i (some v)) H s' → (∃ a, Heap.SameBut a s.heap s'.heap ∧ (a = X.env.locals ∨ X.env.cells.lookup x = some a)) → Q () s') (hf : X.fn x = true ∨ X.env.scope.names.lookup x = some .local := by first | exact .inl rfl | exact .inr rfl | assumption) : wpAny M A (storeName X.env x u) Q E s := by
  obtain ⟨m, hn, hl⟩ := id I.loc
  have hcls : (X.env.scope.kind == .class || (X.env.scope.kind == .module && X.env.locals != X.env.globals)) = false := by rw [I.ok.kind]; rfl
  have hiσ : i < σ.length := by rw [I.len]; exact (List.getElem?_eq_some_iff.mp hi).1
  have cne := I.cne
  have tracked : ∀ {a : Addr} {h' : Heap}, (∃ o, s.heap.get? a = some o ∧ H a = none) → Heap.SameBut a s.heap h' → HOk X.prog X.w H h' := fun {a h'} ha hs b ob e => by
    obtain ⟨_, _, hfree⟩ := ha
    refine (I.hok b ob e).stay (fun c w' hc q => (hs.2 c ?_).trans q) (fun _ q => q) fun _ _ q => q
    rintro rfl
    rcases hc with rfl | hc
    · rw [hfree] at e; cases e
    · rw [hfree] at hc; cases hc
  rcases hx with hk | hk
  · refine wpAny_storeName_local hk hn (fun h' hn' hs => ?_) hcls
    obtain ⟨oL, _, _, hoL, _⟩ := id hn
    refine h _ ⟨I.ok, I.os, I.bare, ⟨fun b o e n hb hx => ?_, fun b o e n hb hx => ?_, I.base.free, fun b o e hx => ?_, I.base.tups, I.base.frzs, I.base.tbls⟩, ⟨_, hn', fun j y v' e1 e2 e3 => ?_⟩, fun y c e => ?_, I.free, I.freeC, fun p hp => ?_, tracked ⟨oL, hoL, I.free⟩ hs, by simpa using I.len⟩ ⟨_, hs, .inl rfl⟩
    · exact (hs.2 b (Nat.ne_of_lt (Nat.lt_of_lt_of_le (Heap.lt_size e) I.ok.above))).trans (I.base.keep b o e n hb hx)
    · obtain ⟨sl, e1⟩ := I.base.slot b o e n hb hx
      exact ⟨sl, (hs.2 b (Nat.ne_of_lt (Nat.lt_of_lt_of_le (Heap.lt_size e) I.ok.above))).trans e1⟩
    · obtain ⟨o', e1⟩ := I.base.there b o e hx
      exact ⟨o', (hs.2 b (Nat.ne_of_lt (Nat.lt_of_lt_of_le (Heap.lt_size e) I.ok.above))).trans e1⟩
    · by_cases hj : j = i
      · subst hj
        rw [hi] at e1; cases e1
        rw [List.getElem?_set_self hiσ] at e2
        cases e2
        exact ⟨u, r, .inl ⟨hk, by simp⟩⟩
      · rw [List.getElem?_set_ne (Ne.symm hj)] at e2
        obtain ⟨u', r', q⟩ := hl j y v' e1 e2 e3
        refine ⟨u', r', ?_⟩
        rcases q with ⟨k, e⟩ | ⟨k, c, e, z⟩
        · refine .inl ⟨k, ?_⟩
          have : y ≠ x := fun e => hj (nodup_ix hN e1 (e ▸ hi))
          simp [this, e]
        · exact .inr ⟨k, c, e, z.sameBut hs (cne y c e)⟩
    · obtain ⟨w', z⟩ := I.cell y c e
      exact ⟨w', z.sameBut hs (cne y c e)⟩
    · obtain ⟨e, n, ne, nf, d⟩ := I.pin p hp
      exact ⟨(hs.2 p.1 ne).trans e, n, ne, nf, d⟩
  · have hfn : X.fn x = true := by
      rcases hf with z | z
      · exact z
      · rw [z] at hk; cases hk
    obtain ⟨c, hc⟩ := I.ok.has x (.inl hk)
    obtain ⟨w', z⟩ := I.cell x c hc
    refine wpAny_storeName_cell I.ok.kind hk hc z (fun h' hc' hs => ?_)
    obtain ⟨oc, hoc, hocd⟩ := id z
    refine h { s with heap := h' } ⟨I.ok, I.os, I.bare, ⟨fun b o e n hb hx => ?_, fun b o e n hb hx => ?_, I.base.free, fun b o e hx => ?_, I.base.tups, I.base.frzs, I.base.tbls⟩, ⟨m, hn.sameBut hs (Ne.symm (cne x c hc)), fun j y v' e1 e2 e3 => ?_⟩, fun y c' e => ?_, I.free, I.freeC, fun p hp => ?_, tracked ⟨oc, hoc, I.freeC x c hc⟩ hs, by simpa using I.len⟩ ⟨c, hs, .inr hc⟩
    · exact (hs.2 b (Nat.ne_of_lt (Nat.lt_of_lt_of_le (Heap.lt_size e) (I.ok.cab x c hfn hc)))).trans (I.base.keep b o e n hb hx)
    · obtain ⟨sl, e1⟩ := I.base.slot b o e n hb hx
      exact ⟨sl, (hs.2 b (Nat.ne_of_lt (Nat.lt_of_lt_of_le (Heap.lt_size e) (I.ok.cab x c hfn hc)))).trans e1⟩
    · obtain ⟨o', e1⟩ := I.base.there b o e hx
      exact ⟨o', (hs.2 b (Nat.ne_of_lt (Nat.lt_of_lt_of_le (Heap.lt_size e) (I.ok.cab x c hfn hc)))).trans e1⟩
    · by_cases hj : j = i
      · subst hj
        rw [hi] at e1; cases e1
        rw [List.getElem?_set_self hiσ] at e2
        cases e2
        exact ⟨u, r, .inr ⟨.inl hk, c, hc, hc'⟩⟩
      · rw [List.getElem?_set_ne (Ne.symm hj)] at e2
        obtain ⟨u', r', q⟩ := hl j y v' e1 e2 e3
        refine ⟨u', r', ?_⟩
        rcases q with q | ⟨k, c', e, z'⟩
        · exact .inl q
        · refine .inr ⟨k, c', e, z'.sameBut hs ?_⟩
          rintro rfl
          exact hj (nodup_ix hN e1 (I.ok.inj _ _ _ e hc ▸ hi))
    · by_cases hcc : c' = c
      · subst hcc; exact ⟨_, hc'⟩
      · obtain ⟨w2, z2⟩ := I.cell y c' e
        exact ⟨w2, z2.sameBut hs hcc⟩
    · obtain ⟨e, n, ne, nf, d⟩ := I.pin p hp
      refine ⟨(hs.2 p.1 ?_).trans e, n, ne, nf, d⟩
      intro q
      rw [q, hoc] at e
      have q' : oc = p.2 := Option.some.inj e
      exact d w' (by rw [← q']; exact hocd)
theorem store_ok {M : Model} {A : Around} {E : Value → Shared → Prop} {i : Nat} {x : Str} {v : V} {u : Value} {Q : Unit → Shared → Prop} (I : Inv X pins σ H s) (hN : X.N.Nodup) (hi : X.N[i]? = some x) (hx : Loc X.env.scope x) (r : RelV v u)
    (h : ∀ s', Inv X pins (σ.set i (some v)) H s' → Q () s') (hf : X.fn x = true ∨ X.env.scope.names.lookup x = some .local := by first | exact .inl rfl | exact .inr rfl | assumption) : wpAny M A (storeName X.env x u) Q E s :=
  store_ok2 I hN hi hx r (fun s' I' _ => h s' I') hf
theorem Inv.call' {s' : Shared} {ch : List Addr} (I : Inv X pins σ H s) (ho : s'.os = s.os) (u : Un (frs X.stack) ch H H' s.heap s'.heap) (hok : HOk X.prog X.w H' s'.heap) (hg : AllBare s'.gens)
    (hch : ∀ b ∈ ch, (b ∈ X.ex ∨ X.s₀.heap.objs.size ≤ b) ∧ b ≠ X.env.locals ∧ (∀ x c, X.env.cells.lookup x = some c → c ≠ b) ∧ ∀ p ∈ X.pn ++ pins, p.1 ≠ b) : Inv X pins σ H' s' := by
  obtain ⟨h', g', d', t', o'⟩ := s'
  have e : o' = s.os := ho
  subst e
  exact I.call (g' := g') (t' := t') (d' := d') u hok hg hch
end

noncomputable abbrev XK := Value → Option Addr → Hp → Prop
noncomputable abbrev St := List (Option V)
noncomputable abbrev VK := V → Hp → Prop
noncomputable abbrev TE := St → Hp → VK → Prop
noncomputable abbrev TT := St → Hp → (Bool → Hp → Prop) → Prop
noncomputable abbrev TA := St → Hp → (List V → Hp → Prop) → Prop
structure Ends where
  nx : St → Hp → Prop
  rt : VK
  bk : St → Hp → Prop := fun _ _ => False
  ct : St → Hp → Prop := fun _ _ => False
noncomputable abbrev TS := Ends → St → Hp → Prop

noncomputable def EP (X : Cx) (pins : List (Addr × Obj)) (σ : St) (Q : VK) (u : Value) (s' : Shared) : Prop := ∃ v H', Inv X pins σ H' s' ∧ RelV v u ∧ Q v H'
noncomputable def TP (X : Cx) (pins : List (Addr × Obj)) (σ : St) (Q : Bool → Hp → Prop) (b : Bool) (s' : Shared) : Prop := ∃ H', Inv X pins σ H' s' ∧ Q b H'
noncomputable def AP (X : Cx) (pins : List (Addr × Obj)) (σ : St) (Q : List V → Hp → Prop) (us : List Value) (s' : Shared) : Prop := ∃ vs H', Inv X pins σ H' s' ∧ Vals vs us ∧ Q vs H'
noncomputable def SP (X : Cx) (pins : List (Addr × Obj)) (D : Ends) (f : Flow) (s' : Shared) : Prop :=
  match f with
  | .next => ∃ σ' H', Inv X pins σ' H' s' ∧ D.nx σ' H'
  | .brk => ∃ σ' H', Inv X pins σ' H' s' ∧ D.bk σ' H'
  | .cont => ∃ σ' H', Inv X pins σ' H' s' ∧ D.ct σ' H'
  | .ret u => ∃ v σ' H', Inv X pins σ' H' s' ∧ RelV v u ∧ D.rt v H'

noncomputable def PE (X : Cx) (e : Expr) (t : TE) : Prop :=
  ∀ (pins : List (Addr × Obj)) (s : Shared) (σ : St) (H : Hp) (Q : VK), Inv X pins σ H s → t σ H Q → wpAny (model X.prog X.w) X.A (eval e X.env) (EP X pins σ Q) X.xe s
noncomputable def PT (X : Cx) (e : Expr) (t : TT) : Prop :=
  ∀ (pins : List (Addr × Obj)) (s : Shared) (σ : St) (H : Hp) (Q : Bool → Hp → Prop), Inv X pins σ H s → t σ H Q → wpAny (model X.prog X.w) X.A (isTrue e X.env (eval e X.env)) (TP X pins σ Q) X.xe s
noncomputable def PW (X : Cx) (e : Expr) (t : TT) : Prop :=
  ∀ (whole : Sem Value) (pins : List (Addr × Obj)) (s : Shared) (σ : St) (H : Hp) (Q : Bool → Hp → Prop), Inv X pins σ H s → t σ H Q → wpAny (model X.prog X.w) X.A (isTrue e X.env whole) (TP X pins σ Q) X.xe s
theorem PW.pt {X : Cx} {e : Expr} {t : TT} (h : PW X e t) : PT X e t := h _
noncomputable def PA (X : Cx) (es : List Expr) (t : TA) : Prop :=
  ∀ (pos : Pos) (pins : List (Addr × Obj)) (s : Shared) (σ : St) (H : Hp) (Q : List V → Hp → Prop), Inv X pins σ H s → t σ H Q → wpAny (model X.prog X.w) X.A (spliced (backTo pos (starEach es X.env))) (AP X pins σ Q) X.xe s
noncomputable def PS (X : Cx) (st : Stmt) (t : TS) : Prop :=
  ∀ (pins : List (Addr × Obj)) (s : Shared) (σ : St) (H : Hp) (D : Ends), Inv X pins σ H s → t D σ H → wpAny (model X.prog X.w) X.A (exec st X.env) (SP X pins D) X.xe s
noncomputable def PSs (X : Cx) (st : List Stmt) (t : TS) : Prop :=
  ∀ (pins : List (Addr × Obj)) (s : Shared) (σ : St) (H : Hp) (D : Ends), Inv X pins σ H s → t D σ H → wpAny (model X.prog X.w) X.A (execs st X.env) (SP X pins D) X.xe s
theorem thn {α : Type} {t : Sem α} {Q Q' : α → Shared → Prop} {M : Model} {A : Around} {E : Value → Shared → Prop} {s : Shared} (h : wpAny M A t Q E s) (hQ : ∀ a s, Q a s → Q' a s) : wpAny M A t Q' E s := wpAny_mono h hQ fun _ _ x => x
end L2

namespace L2
open PySem PySem.Spec PyProof.Rows
section
variable {X : Cx}

noncomputable def tVar (i : Nat) : TE := fun σ H Q => ∃ v, σ[i]? = some (some v) ∧ Q v H
noncomputable def tC (v : V) : TE := fun _ H Q => Q v H
theorem pe_var {i : Nat} {x : Str} {pos : Pos} (hN : X.N[i]? = some x) (hv : Vis X.env.scope x) (hd : (x == ("__debug__" : Str)) = false := by decide) (hcd : (x == ("__classdict__" : Str)) = false := by decide) : PE X (.Name x pos) (tVar i) := by
  intro pins s σ H Q I h
  obtain ⟨v, e, h⟩ := h
  obtain ⟨m, hn, hl⟩ := I.loc
  obtain ⟨u, r, l⟩ := hl i x v hN e hv
  have fin : EP X pins σ Q u s := ⟨v, H, I, r, h⟩
  rcases l with ⟨hk, hm⟩ | ⟨hk, c, hc, hcell⟩
  · exact wpAny_Name (wpAny_loadName_local I.ok.kind hk hn hm fin) hd
  · rcases hk with hk | hk
    · exact wpAny_Name (wpAny_loadName_cell I.ok.kind hk hc hcell fin) hd
    · exact wpAny_Name (wpAny_loadName_free I.ok.kind hk hc hcell fin hcd) hd
theorem pe_int {i j pos} : PE X (.Constant (.int i) j pos) (tC (.int i)) := fun _ _ _ H _ I h => wpAny_Constant_int ⟨.int i, H, I.tok _, ⟨_, rfl⟩, h⟩
theorem pe_bl {b j pos} : PE X (.Constant (.bool b) j pos) (tC (.bl b)) := fun _ _ _ H _ I h => Constant_bool ⟨.bl b, H, I, rfl, h⟩
theorem pe_non {j pos} : PE X (.Constant .none j pos) (tC .non) := fun _ _ _ H _ I h => Constant_none ⟨.non, H, I, rfl, h⟩
theorem pe_str {x j pos} : PE X (.Constant (.str x) j pos) (tC (.str x)) := fun _ _ _ H _ I h => Calls.Constant_str ⟨.str x, H, I.tok _, ⟨_, rfl⟩, h⟩

noncomputable def Gl (X : Cx) (x : Str) : Prop := X.env.kindOf x = some .globalImplicit
theorem ld_glob {E : Value → Shared → Prop} {pins : List (Addr × Obj)} {s : Shared} {σ : St} {H : Hp} {x : Str} {u : Value} {pos : Pos} {Q : Value → Shared → Prop} (I : Inv X pins σ H s) (hg : Gl X x) (hm : X.mg x = some u) (h : Q u s)
    (hd : (x == ("__debug__" : Str)) = false := by decide) : wpAny (model X.prog X.w) X.A (eval (.Name x pos) X.env) Q E s :=
  Calls.Name_function_global I.ok.kind hg (Calls.loadGlobal_global (by rw [I.ok.glob]; exact I.mod.glob.keeps I.bk) hm h) hd
theorem ld_blt {E : Value → Shared → Prop} {pins : List (Addr × Obj)} {s : Shared} {σ : St} {H : Hp} {x : Str} {u : Value} {pos : Pos} {Q : Value → Shared → Prop} (I : Inv X pins σ H s) (hg : Gl X x) (hm : X.mg x = none) (hv : bootBuiltins x = some u) (h : Q u s)
    (hn : x ≠ "__name__" := by decide) (hd : (x == ("__debug__" : Str)) = false := by decide) : wpAny (model X.prog X.w) X.A (eval (.Name x pos) X.env) Q E s := by
  obtain ⟨mb, h1, h2⟩ := I.mod.blt
  exact Calls.Name_function_global I.ok.kind hg (Calls.loadGlobal_builtin (by rw [I.ok.glob]; exact I.mod.glob.keeps I.bk) hm (by rw [I.ok.blt]; exact h1.keeps I.bk) ((h2 x hn).trans hv) h) hd
theorem pe_glob {x : Str} {v : V} {u : Value} {pos : Pos} (hg : Gl X x) (hm : X.mg x = some u) (r : RelV v u) (hd : (x == ("__debug__" : Str)) = false := by decide) : PE X (.Name x pos) (tC v) :=
  fun _ _ _ H _ I h => ld_glob I hg hm ⟨v, H, I, r, h⟩ hd
theorem pe_bltn {x : Str} {v : V} {u : Value} {pos : Pos} (hg : Gl X x) (hm : X.mg x = none) (hv : bootBuiltins x = some u) (r : RelV v u) (hn : x ≠ "__name__" := by decide) (hd : (x == ("__debug__" : Str)) = false := by decide) : PE X (.Name x pos) (tC v) :=
  fun _ _ _ H _ I h => ld_blt I hg hm hv ⟨v, H, I, r, h⟩ hn hd

variable {a b : Expr} {ta tb : TE} {pos : Pos}
theorem RelV.none_iff {x : V} {v : Value} (r : RelV x v) : (v == Value.none) = decide (x = .non) := by
  cases x with
  | non => cases r; rfl
  | bl _ => cases r; rfl
  | int _ => obtain ⟨t, rfl⟩ := r; rfl
  | str _ => obtain ⟨t, rfl⟩ := r; rfl
  | byt _ => obtain ⟨t, rfl⟩ := r; rfl
  | flt _ => obtain ⟨t, rfl⟩ := r; rfl
  | ref _ => cases r; rfl
  | ty _ => cases r; rfl
noncomputable def tB (t : TE) : TT := fun σ H Q => t σ H fun x H1 => ∃ c, x = .bl c ∧ Q c H1
theorem pt_val {e : Expr} {t : TE} (h : PE X e t) (he : ∀ whole, isTrue e X.env whole = (do let v ← whole; standAt e.pos; holding [v] (truthy v)) := by intro _; rfl) : PT X e (tB t) := by
  intro pins s σ H Q I hw
  refine isTrue_plain (thn (h pins s σ H _ I hw) fun v s1 ⟨x, H1, I1, r1, q1⟩ => ?_) (he _)
  obtain ⟨d, rfl, q⟩ := q1
  cases r1
  exact wpAny_truthy_bool ⟨H1, I1, q⟩

variable {tA tB' : TT} {rest : List Expr}
noncomputable def tAnd (t u : TT) : TT := fun σ H Q => t σ H fun c H1 => if c = true then u σ H1 Q else Q false H1
noncomputable def tOr (t u : TT) : TT := fun σ H Q => t σ H fun c H1 => if c = true then Q true H1 else u σ H1 Q
noncomputable def tNot (t : TT) : TT := fun σ H Q => t σ H fun c H1 => Q (!c) H1
theorem pw_and1 (ha : PT X a tA) : PW X (.BoolOp .And [a] pos) tA := by
  intro wh pins s σ H Q I h
  refine isTrue_and (thn (ha pins s σ H Q I h) fun c s1 e => ?_)
  cases c with
  | true => exact isTrue_and_nil e
  | false => exact e
theorem pw_or1 (ha : PT X a tA) : PW X (.BoolOp .Or [a] pos) tA := by
  intro wh pins s σ H Q I h
  refine isTrue_or (thn (ha pins s σ H Q I h) fun c s1 e => ?_)
  cases c with
  | false => exact isTrue_or_nil e
  | true => exact e
theorem pw_and (ha : PT X a tA) (hb : PW X (.BoolOp .And (b :: rest) pos) tB') : PW X (.BoolOp .And (a :: b :: rest) pos) (tAnd tA tB') := by
  intro wh pins s σ H Q I h
  refine isTrue_and (thn (ha pins s σ H _ I h) fun c s1 zz => ?_)
  obtain ⟨H1, I1, q1⟩ := zz
  cases c with
  | true => exact hb wh pins s1 σ H1 Q I1 q1
  | false => exact ⟨H1, I1, q1⟩
theorem pw_or (ha : PT X a tA) (hb : PW X (.BoolOp .Or (b :: rest) pos) tB') : PW X (.BoolOp .Or (a :: b :: rest) pos) (tOr tA tB') := by
  intro wh pins s σ H Q I h
  refine isTrue_or (thn (ha pins s σ H _ I h) fun c s1 zz => ?_)
  obtain ⟨H1, I1, q1⟩ := zz
  cases c with
  | true => exact ⟨H1, I1, q1⟩
  | false => exact hb wh pins s1 σ H1 Q I1 q1
theorem pt_not (ha : PT X a tA) : PT X (.UnaryOp .Not a pos) (tNot tA) := by
  intro pins s σ H Q I h
  exact isTrue_not (ha pins s σ H (fun c H1 => Q (!c) H1) I h)
noncomputable def tAndV (ta tb : TE) : TE := fun σ H Q => ta σ H fun x H1 => ∃ c, x = .bl c ∧ if c = true then tb σ H1 Q else Q (.bl false) H1
noncomputable def tNotV (ta : TE) : TE := fun σ H Q => ta σ H fun x H1 => ∃ c, x = .bl c ∧ Q (.bl (!c)) H1
theorem pe_one {op} {t : TE} (h : PE X a t) : PE X (.BoolOp op [a] pos) t := fun pins s σ H Q I hw => BoolOp_one (h pins s σ H Q I hw)
theorem pe_and (ha : PE X a ta) (hb : PE X (.BoolOp .And (b :: rest) pos) tb) : PE X (.BoolOp .And (a :: b :: rest) pos) (tAndV ta tb) := by
  intro pins s σ H Q I h
  refine BoolOp_and (thn (ha pins s σ H _ I h) fun v s1 zz => ?_)
  obtain ⟨x, H1, I1, r1, q1⟩ := zz
  obtain ⟨c, rfl, q1⟩ := q1
  cases r1
  refine wpAny_truthy_bool ?_
  cases c with
  | true => exact hb pins s1 σ H1 Q I1 q1
  | false => exact ⟨.bl false, H1, I1, rfl, q1⟩
theorem pe_not (ha : PE X a ta) : PE X (.UnaryOp .Not a pos) (tNotV ta) := by
  intro pins s σ H Q I h
  refine UnaryOp_ (thn (ha pins s σ H _ I h) fun v s1 zz => ?_)
  obtain ⟨x, H1, I1, r1, q1⟩ := zz
  obtain ⟨c, rfl, q1⟩ := q1
  cases r1
  exact not_of (wpAny_truthy_bool ⟨.bl (!c), H1, I1, rfl, q1⟩)
noncomputable def tIf (t : TT) (ta tb : TE) : TE := fun σ H Q => t σ H fun c H1 => if c = true then ta σ H1 Q else tb σ H1 Q
theorem pe_ifExp {c : Expr} (hc : PT X c tA) (ha : PE X a ta) (hb : PE X b tb) : PE X (.IfExp c a b pos) (tIf tA ta tb) := by
  intro pins s σ H Q I h
  refine wpAny_IfExp (thn (hc pins s σ H _ I h) fun d s1 zz => ?_)
  obtain ⟨H1, I1, q1⟩ := zz
  cases d with
  | true => exact ha pins s1 σ H1 Q I1 q1
  | false => exact hb pins s1 σ H1 Q I1 q1
end
end L2

namespace L2
open PySem PySem.Spec PyProof.Rows

noncomputable def SqL (K : PySem.W.Frag) (H : Hp) (a : Addr) (xs : List V) : Prop :=
  Rd H a (.lst xs) ∨
    ∃ (o : Obj) (its : Array Value) (n : Nat), K.lookup a = some o ∧ o.cls = .type "list" ∧ o.dict = none ∧ o.data = .seq its n ∧ its.size ≤ sizeLine ∧ Vals xs its.toList
noncomputable def SqT (K : PySem.W.Frag) (H : Hp) (a : Addr) (xs : List V) : Prop :=
  Rd H a (.tup xs) ∨
    ∃ (o : Obj) (its : Array Value) (n : Nat), K.lookup a = some o ∧ o.cls = .type "tuple" ∧ o.data = .seq its n ∧ its.size ≤ sizeLine ∧ Vals xs its.toList
noncomputable def absV : Value → Option V
  | .none => some .non
  | .bool b => some (.bl b)
  | .int i _ => some (.int i)
  | .str x _ => some (.str x)
  | .bytes b _ => some (.byt b)
  | .float b _ => some (.flt b)
  | .ref a => some (.ref a)
  | .type n => some (.ty n)
  | _ => none
theorem RelV.abs {x : V} {u : Value} (r : RelV x u) : absV u = some x := by
  cases x with
  | non => cases r; rfl
  | bl _ => cases r; rfl
  | int _ => obtain ⟨t, rfl⟩ := r; rfl
  | str _ => obtain ⟨t, rfl⟩ := r; rfl
  | byt _ => obtain ⟨t, rfl⟩ := r; rfl
  | flt _ => obtain ⟨t, rfl⟩ := r; rfl
  | ref _ => cases r; rfl
  | ty _ => cases r; rfl
theorem RelV.inj {x y : V} {u : Value} (r : RelV x u) (q : RelV y u) : x = y := Option.some.inj (r.abs.symm.trans q.abs)
theorem Vals.inj : ∀ {xs ys : List V} {us : List Value}, Vals xs us → Vals ys us → xs = ys
  | _, _, _, .nil, .nil => rfl
  | _, _, _, .cons r t, .cons r' t' => by rw [r.inj r', Vals.inj t t']
section
variable {X : Cx} {pins : List (Addr × Obj)} {σ : St} {H : Hp} {s : Shared} {a : Addr} {xs ys : List V}
theorem SqL.of {K : PySem.W.Frag} (h : H a = some (.lst xs)) : SqL K H a xs := .inl (.inl h)
theorem SqT.of {K : PySem.W.Frag} (h : H a = some (.tup xs)) : SqT K H a xs := .inl (.inl h)
theorem Inv.list (I : Inv X pins σ H s) (h : SqL X.K H a xs) : ∃ its : List Value, Vals xs its ∧ PlainL s.heap a its.toArray ∧ xs.length ≤ sizeLine := by
  rcases h with h | ⟨o, its, n, hk, hc, hd, hs, hz, r⟩
  · obtain ⟨z, its, n, r, e⟩ := h.ok I.hok
    exact ⟨its, r, ⟨_, n, e, rfl, rfl, rfl⟩, z⟩
  · refine ⟨its.toList, r, ⟨o, n, I.kIn a o hk, hc, hd, by simpa using hs⟩, ?_⟩
    have e := r.length
    simp only [Array.length_toList] at e
    omega
theorem Inv.tuple (I : Inv X pins σ H s) (h : SqT X.K H a xs) : ∃ its : List Value, Vals xs its ∧ IsTup s.heap a its.toArray ∧ xs.length ≤ sizeLine := by
  rcases h with h | ⟨o, its, n, hk, hc, hs, hz, r⟩
  · obtain ⟨z, its, r, p⟩ := h.ok I.hok
    exact ⟨its, r, p, z⟩
  · refine ⟨its.toList, r, ⟨o, I.kIn a o hk, hc, n, by simpa using hs⟩, ?_⟩
    have e := r.length
    simp only [Array.length_toList] at e
    omega
theorem Inv.list_inj (I : Inv X pins σ H s) (h : SqL X.K H a xs) (h' : SqL X.K H a ys) : xs = ys := by
  obtain ⟨its, r, ⟨o, n, e, _, _, d⟩, _⟩ := I.list h
  obtain ⟨its', r', ⟨o', n', e', _, _, d'⟩, _⟩ := I.list h'
  rw [e] at e'; cases e'
  rw [d] at d'
  injection d' with d1 _
  have : its = its' := by simpa using congrArg Array.toList d1
  subst this
  exact r.inj r'
theorem Inv.tuple_inj (I : Inv X pins σ H s) (h : SqT X.K H a xs) (h' : SqT X.K H a ys) : xs = ys := by
  obtain ⟨its, r, ⟨o, e, _, n, d⟩, _⟩ := I.tuple h
  obtain ⟨its', r', ⟨o', e', _, n', d'⟩, _⟩ := I.tuple h'
  rw [e] at e'; cases e'
  rw [d] at d'
  injection d' with d1 _
  have : its = its' := by simpa using congrArg Array.toList d1
  subst this
  exact r.inj r'
end

noncomputable abbrev Cx.wish (X : Cx) (E : Value → Shared → Prop) : Cx := { X with xe := E }
noncomputable abbrev Cx.nox (X : Cx) : Cx := X.wish fun _ _ => False
theorem Cx.Ok.wish {X : Cx} (ok : X.Ok) (E : Value → Shared → Prop) : (X.wish E).Ok :=
  ⟨ok.mod, ok.kind, ok.glob, ok.blt, ok.above, ok.inj, ok.has, ok.cab, ok.hd, ok.frames, ok.stk, ok.exf, ok.bs, ok.bsz, ok.noex, ok.exfs, ok.funs, ok.frf⟩
theorem Cx.Ok.unwish {X : Cx} {E : Value → Shared → Prop} (ok : (X.wish E).Ok) : X.Ok :=
  ⟨ok.mod, ok.kind, ok.glob, ok.blt, ok.above, ok.inj, ok.has, ok.cab, ok.hd, ok.frames, ok.stk, ok.exf, ok.bs, ok.bsz, ok.noex, ok.exfs, ok.funs, ok.frf⟩
section
variable {X : Cx} {pins : List (Addr × Obj)} {σ : St} {H : Hp} {s : Shared} {E : Value → Shared → Prop}
theorem Inv.wish (I : Inv X pins σ H s) (E : Value → Shared → Prop) : Inv (X.wish E) pins σ H s := ⟨I.ok.wish E, I.os, I.bare, I.base, I.loc, I.cell, I.free, I.freeC, I.pin, I.hok, I.len⟩
theorem Inv.unwish (I : Inv (X.wish E) pins σ H s) : Inv X pins σ H s := ⟨I.ok.unwish, I.os, I.bare, I.base, I.loc, I.cell, I.free, I.freeC, I.pin, I.hok, I.len⟩
theorem SP.unwish {D : Ends} {f : Flow} {s' : Shared} (h : SP (X.wish E) pins D f s') : SP X pins D f s' := by
  cases f with
  | next => obtain ⟨σ', H', I, q⟩ := h; exact ⟨σ', H', I.unwish, q⟩
  | brk => obtain ⟨σ', H', I, q⟩ := h; exact ⟨σ', H', I.unwish, q⟩
  | cont => obtain ⟨σ', H', I, q⟩ := h; exact ⟨σ', H', I.unwish, q⟩
  | ret u => obtain ⟨v, σ', H', I, r, q⟩ := h; exact ⟨v, σ', H', I.unwish, r, q⟩
theorem PE.nox {e : Expr} {t : TE} (h : PE X.nox e t) : PE X e t := fun pins s σ H Q I hw =>
  wpAny_mono (h pins s σ H Q (I.wish _) hw) (fun _ _ ⟨v, H', I', r, q⟩ => ⟨v, H', I'.unwish, r, q⟩) fun _ _ z => False.elim z
theorem PT.nox {e : Expr} {t : TT} (h : PT X.nox e t) : PT X e t := fun pins s σ H Q I hw =>
  wpAny_mono (h pins s σ H Q (I.wish _) hw) (fun _ _ ⟨H', I', q⟩ => ⟨H', I'.unwish, q⟩) fun _ _ z => False.elim z
theorem PSs.nox {st : List Stmt} {t : TS} (h : PSs X.nox st t) : PSs X st t := fun pins s σ H D I hw =>
  wpAny_mono (h pins s σ H D (I.wish _) hw) (fun _ _ q => q.unwish) fun _ _ z => False.elim z
end

section
variable {X : Cx} {st : Stmt} {rest : List Stmt} {t u : TS} {e : Expr} {te : TE} {pos : Pos}
noncomputable def tNext : TS := fun D σ H => D.nx σ H
noncomputable def tSeq (t u : TS) : TS := fun D σ H => t { D with nx := u D } σ H
theorem pss_nil : PSs X [] tNext := fun _ _ σ H _ I h => wpAny_execs_nil ⟨σ, H, I, h⟩
theorem pss_cons (h1 : PS X st t) (h2 : PSs X rest u) : PSs X (st :: rest) (tSeq t u) := by
  intro pins s σ H D I h
  refine wpAny_execs_cons (thn (h1 pins s σ H { D with nx := u D } I h) fun f s1 q => ?_)
  cases f with
  | next =>
    obtain ⟨σ', H', I', q⟩ := q
    exact h2 pins s1 σ' H' D I' q
  | ret v => exact q
  | brk => exact q
  | cont => exact q
theorem pss_one (h1 : PS X st t) : PSs X [st] t := by
  intro pins s σ H D I h
  refine wpAny_execs_cons (thn (h1 pins s σ H D I h) fun f s1 q => ?_)
  cases f with
  | next => exact wpAny_execs_nil q
  | ret v => exact q
  | brk => exact q
  | cont => exact q
theorem Inv.quiet {pins : List (Addr × Obj)} {σ : St} {H : Hp} {s : Shared} (I : Inv X pins σ H s) : interactive X.env = false := by simp [interactive, I.ok.kind]
noncomputable def tDrop (te : TE) : TS := fun D σ H => te σ H fun _ H1 => D.nx σ H1
theorem ps_expr (he : PE X e te) (hs : swapsWith e none pos.line X.env = pure false := by rfl) : PS X (.Expr e pos) (tDrop te) := by
  intro pins s σ H D I h
  exact wpAny_Expr_any (thn (he pins s σ H _ I h) fun v s1 ⟨x, H1, I1, r1, q1⟩ => ⟨σ, H1, I1, q1⟩) I.quiet hs
noncomputable def tRet (te : TE) : TS := fun D σ H => te σ H D.rt
theorem ps_ret (he : PE X e te) : PS X (.Return (some e) pos) (tRet te) := by
  intro pins s σ H D I h
  exact wpAny_Return_some (thn (he pins s σ H _ I h) fun v s1 ⟨x, H1, I1, r1, q1⟩ => ⟨x, σ, H1, I1, r1, q1⟩)
noncomputable def tIfS (c : TT) (t u : TS) : TS := fun D σ H => c σ H fun b H1 => if b = true then t D σ H1 else u D σ H1
theorem ps_if {c : Expr} {a b : List Stmt} {tc : TT} (hc : PT X c tc) (ha : PSs X a t) (hb : PSs X b u) : PS X (.If c a b pos) (tIfS tc t u) := by
  intro pins s σ H D I h
  refine wpAny_If (thn (hc pins s σ H _ I h) fun d s1 zz => ?_)
  obtain ⟨H1, I1, q1⟩ := zz
  cases d with
  | true => exact ha pins s1 σ H1 D I1 q1
  | false => exact hb pins s1 σ H1 D I1 q1
noncomputable def tNever : TS := fun _ _ _ => False
theorem ps_never : PS X st tNever := fun _ _ _ _ _ _ h => h.elim
end

noncomputable abbrev TG := V → St → Hp → (St → Hp → Prop) → Prop
noncomputable abbrev TGs := List V → St → Hp → (St → Hp → Prop) → Prop
noncomputable def PG (X : Cx) (target : Expr) (t : TG) : Prop :=
  ∀ (pins : List (Addr × Obj)) (s : Shared) (σ : St) (H : Hp) (v : V) (u : Value) (Q : St → Hp → Prop), Inv X pins σ H s → RelV v u → t v σ H Q →
    wpAny (model X.prog X.w) X.A (assign target X.env u) (fun _ s' => ∃ σ' H', Inv X pins σ' H' s' ∧ Q σ' H') X.xe s
noncomputable def PGs (X : Cx) (ts : List Expr) (t : TGs) : Prop :=
  ∀ (pins : List (Addr × Obj)) (s : Shared) (σ : St) (H : Hp) (vs : List V) (us : List Value) (Q : St → Hp → Prop), Inv X pins σ H s → Vals vs us → t vs σ H Q →
    wpAny (model X.prog X.w) X.A (assignInOrder ((assignEach ts X.env).map (·.2)) us) (fun _ s' => ∃ σ' H', Inv X pins σ' H' s' ∧ Q σ' H') X.xe s
noncomputable abbrev TSet := V → V → V → Hp → (Hp → Prop) → Prop
noncomputable def PSet (X : Cx) (t : TSet) : Prop :=
  ∀ (pins : List (Addr × Obj)) (s : Shared) (σ : St) (H : Hp) (o i v : V) (ov iv u : Value) (Q : Hp → Prop), Inv X pins σ H s → RelV o ov → RelV i iv → RelV v u → t o i v H Q →
    wpAny (model X.prog X.w) X.A (setItem ov iv u) (fun _ s' => ∃ H', Inv X pins σ H' s' ∧ Q H') X.xe s
section
variable {X : Cx} {pos : Pos}
noncomputable def gName (i : Nat) : TG := fun v σ H Q => Q (σ.set i (some v)) H
theorem pg_name {i : Nat} {x : Str} (hN : X.N.Nodup) (hi : X.N[i]? = some x) (hx : Loc X.env.scope x) (hf : X.fn x = true ∨ X.env.scope.names.lookup x = some .local := by first | exact .inl rfl | exact .inr rfl | assumption) : PG X (.Name x pos) (gName i) := by
  intro pins s σ H v u Q I r h
  exact wpAny_assign_Name (store_ok I hN hi hx r (fun s' I' => ⟨_, H, I', h⟩) hf)
noncomputable def gNil : TGs := fun vs σ H Q => vs = [] ∧ Q σ H
noncomputable def gCons (t : TG) (u : TGs) : TGs := fun vs σ H Q => ∃ v r, vs = v :: r ∧ t v σ H fun σ' H' => u r σ' H' Q
theorem pgs_nil : PGs X [] gNil := by
  intro pins s σ H vs us Q I r h
  obtain ⟨e, h⟩ := h
  subst e
  cases r
  exact assignInOrder_nil ⟨σ, H, I, h⟩
theorem pgs_cons {e : Expr} {es : List Expr} {t : TG} {u : TGs} (h1 : PG X e t) (h2 : PGs X es u)
    (hs : (assignEach (e :: es) X.env).map (·.2) = assign e X.env :: (assignEach es X.env).map (·.2) := by rfl) : PGs X (e :: es) (gCons t u) := by
  intro pins s σ H vs us Q I r h
  obtain ⟨v, vr, e1, h⟩ := h
  subst e1
  cases r with
  | cons r rr =>
    rw [hs]
    refine assignInOrder_cons (thn (h1 pins s σ H _ _ _ I r h) fun _ s1 zz => ?_)
    obtain ⟨σ1, H1, I1, q1⟩ := zz
    exact h2 pins s1 σ1 H1 _ _ Q I1 rr q1
noncomputable def gTup (K : PySem.W.Frag) (n : Nat) (t : TGs) : TG := fun v σ H Q => ∃ a xs, v = .ref a ∧ SqT K H a xs ∧ xs.length = n ∧ t xs σ H Q
theorem pg_tup {es : List Expr} {k : Nat} {t : TGs} {n : Nat} (hc : X.calm = true) (h : PGs X es t)
    (hn : (assignEach es X.env).length = n := by rfl) (hst : (assignEach es X.env).findIdx? (·.1) = none := by rfl) : PG X (.Tuple es k pos) (gTup X.K n t) := by
  intro pins s σ H v u Q I r hw
  obtain ⟨a, xs, e1, hq, hl, hw⟩ := hw
  subst e1
  cases r
  obtain ⟨its, rv, ht, hz⟩ := I.tuple hq
  refine assign_Tuple_tuple (I.ok.hd hc) ht (by simp [hn, ← hl, rv.length]) hst fun h' hx => ?_
  have I1 : Inv X pins σ H { s with heap := h' } := I.kept (t' := s.toks) fun b o e => hx b o (Nat.ne_of_lt (Heap.lt_size e)) e
  exact h pins _ σ H xs _ Q I1 (by simpa using rv) hw
noncomputable def gSub (to ti : TE) (t : TSet) : TG := fun v σ H Q => to σ H fun o H1 => ti σ H1 fun i H2 => t o i v H2 fun H3 => Q σ H3
theorem pg_sub {o i : Expr} {to ti : TE} {t : TSet} (ho : PE X o to) (hi : PE X i ti) (hs : PSet X t)
    (ha : ∀ v, assign (.Subscript o i pos) X.env v = (do
      let ov ← holding [v] (eval o X.env)
      let iv ← holding [v, ov] (eval i X.env)
      standAt pos
      holding [v, ov, iv] (setItem ov iv v)
      release [v, ov, iv] []) := by intro _; rfl) : PG X (.Subscript o i pos) (gSub to ti t) := by
  intro pins s σ H v u Q I r h
  rw [ha]
  refine wpAny_bind (wpAny_holding (thn (ho pins s σ H _ I h) fun ov s1 zz => ?_))
  obtain ⟨x, H1, I1, r1, q1⟩ := zz
  refine wpAny_bind (wpAny_holding (thn (hi pins s1 σ H1 _ I1 q1) fun iv s2 zz => ?_))
  obtain ⟨y, H2, I2, r2, q2⟩ := zz
  refine wpAny_bind (wpAny_standAt (wpAny_bind (wpAny_holding (thn (hs pins s2 σ H2 x y v ov iv u _ I2 r1 r2 r q2) fun _ s3 zz => ?_))))
  obtain ⟨H3, I3, q3⟩ := zz
  exact wpAny_release ⟨σ, H3, I3, q3⟩
noncomputable def tAsg (te : TE) (g : TG) : TS := fun D σ H => te σ H fun x H1 => g x σ H1 D.nx
theorem ps_asg {tg e : Expr} {te : TE} {g : TG} (he : PE X e te) (hg : PG X tg g) (hs : swapsWithSole [tg] e pos.line X.env = pure false := by rfl) (hw : swappedStores [tg] e X.env = pure none := by rfl)
    (h1 : (assignEach [tg] X.env).map (·.2) = [assign tg X.env] := by rfl) : PS X (.Assign [tg] e pos) (tAsg te g) := by
  intro pins s σ H D I h
  refine wpAny_Assign_stores (thn (he pins s σ H _ I h) fun v s1 ⟨x, H1, I1, r1, q1⟩ => ?_) hs hw
  rw [h1]
  exact thn (hg pins s1 σ H1 x v _ I1 r1 q1) fun _ s2 q => q
theorem ps_set {i : Nat} {x : Str} {e : Expr} {te : TE} {pos' : Pos} (hN : X.N.Nodup) (hi : X.N[i]? = some x) (hx : Loc X.env.scope x) (he : PE X e te) (hs : swapsWith e (some (.Name x pos')) pos.line X.env = pure false := by rfl) (hf : X.fn x = true ∨ X.env.scope.names.lookup x = some .local := by first | exact .inl rfl | exact .inr rfl | assumption) :
    PS X (.Assign [.Name x pos'] e pos) (tAsg te (gName i)) := by
  intro pins s σ H D I h
  refine wpAny_Assign_Name (thn (he pins s σ H _ I h) fun v s1 ⟨y, H1, I1, r1, q1⟩ => ?_) hs
  exact store_ok I1 hN hi hx r1 (fun s2 I2 => ⟨_, H1, I2, q1⟩) hf
noncomputable def tPar (i j : Nat) (ta : TA) : TS := fun D σ H => ta σ H fun vs H1 => ∃ v w, vs = [v, w] ∧ D.nx ((σ.set i (some v)).set j (some w)) H1
theorem ps_par {i j : Nat} {x y : Str} {a b : Expr} {ta : TA} {px py pt : Pos} {kt k2 pt2} (hc : X.calm = true) (hN : X.N.Nodup) (hi : X.N[i]? = some x) (hj : X.N[j]? = some y) (hij : i ≠ j)
    (hx : X.env.scope.names.lookup x = some .local) (hy : X.env.scope.names.lookup y = some .local) (ha : PA X [a, b] ta)
    (hw : swappedStores [.Tuple [.Name x px, .Name y py] kt pt] (.Tuple [a, b] k2 pt2) X.env = pure (some [x, y]))
    (hs : swapsWithSole [.Tuple [.Name x px, .Name y py] kt pt] (.Tuple [a, b] k2 pt2) pos.line X.env = pure false := by rfl) :
    PS X (.Assign [.Tuple [.Name x px, .Name y py] kt pt] (.Tuple [a, b] k2 pt2) pos) (tPar i j ta) := by
  intro pins s σ H D I h
  rw [exec_Assign_arm]
  refine wpAny_bind (wpAny_standAt ?_)
  rw [hs]
  refine wpAny_bind (wpAny_pure ?_)
  rw [if_neg (by decide)]
  refine wpAny_bind (Tuple_ (thn (ha _ pins s σ H _ I h) fun us s1 zz => ?_))
  obtain ⟨vs, H1, I1, r1, q1⟩ := zz
  obtain ⟨v, w, e1, q1⟩ := q1
  subst e1
  obtain ⟨u1, u2, rfl, rv, rw'⟩ : ∃ u1 u2, us = [u1, u2] ∧ RelV v u1 ∧ RelV w u2 := by
    cases r1 with
    | cons p q =>
      cases q with
      | cons p' q' =>
        cases q'
        exact ⟨_, _, rfl, p, p'⟩
  refine wpAny_newObj_type ?_ (by show 2 ≤ sizeLine; decide)
  have I2 : Inv X pins σ H1 { s1 with heap := s1.heap.push { cls := .type "tuple", data := .seq [u1, u2].toArray } } := I1.kept (t' := s1.toks) fun b o e => Heap.get?_push_of_some _ e
  rw [hw]
  refine wpAny_bind (wpAny_pure ?_)
  show wpAny (model X.prog X.w) X.A (do rule "assign.swapped-stores"; let items ← unpackItems (.ref s1.heap.objs.size) 2 none; assignInOrder [fun v => bindName X.env y v, fun v => bindName X.env x v] items.reverse; pure Flow.next) _ _ _
  refine wpAny_bind (wpAny_rule (wpAny_bind (unpackItems_tuple (items := #[u1, u2]) (I.ok.hd hc) (IsTup.new s1.heap _) fun h' hx' => ?_)))
  have I3 := I2.kept (h' := h') (t' := s1.toks) fun b o e => hx' b o (Nat.ne_of_lt (Heap.lt_size e)) e
  show wpAny _ _ (assignInOrder [fun v => bindName X.env y v, fun v => bindName X.env x v] [u2, u1] >>= fun _ => pure Flow.next) _ _ _
  refine wpAny_bind (assignInOrder_cons (wpAny_bindName (store_ok I3 hN hj (.inl hy) rw' (fun s2 I4 => ?_) (.inr hy))))
  refine assignInOrder_cons (wpAny_bindName (store_ok I4 hN hi (.inl hx) rv (fun s3 I5 => assignInOrder_nil (wpAny_pure ?_)) (.inr hx)))
  rw [List.set_comm _ _ (Ne.symm hij)] at I5
  exact ⟨_, H1, I5, q1⟩
end

section
variable {X : Cx} {pos : Pos}
noncomputable def tWhile (c : TT) (tb : TS) : TS := fun D σ H => ∃ W : Nat → St → Hp → Prop, (∃ m, W m σ H) ∧ ∀ m σ H, W m σ H →
  c σ H fun b H1 => if b = true then ∃ N : St → Hp → Prop, (∀ σ' H', N σ' H' → ∃ m', m' < m ∧ W m' σ' H') ∧ tb { D with nx := N, ct := N, bk := D.nx } σ H1 else D.nx σ H1
theorem ps_while {c : Expr} {body : List Stmt} {tc : TT} {tb : TS} (hp : PassesOwn (model X.prog X.w) X.A X.env X.xe) (hc : PT X c tc) (hb : PSs X body tb) : PS X (.While c body [] pos) (tWhile tc tb) := by
  intro pins s σ H D I h
  obtain ⟨W, ⟨m0, w0⟩, turn⟩ := h
  refine wpAny_While (codeAny_whileLoop (fun n s' => ∃ σ' H', Inv X pins σ' H' s' ∧ W n σ' H') ?_ m0 ⟨σ, H, I, w0⟩)
  rintro n s1 ⟨σ1, H1, I1, w1⟩
  refine wpAny_passesOwn hp (thn (hc pins s1 σ1 H1 _ I1 (turn n σ1 H1 w1)) fun b s2 zz => ?_)
  obtain ⟨H2, I2, q2⟩ := zz
  cases b with
  | true =>
    obtain ⟨N, hN, q2⟩ := q2
    rw [if_pos rfl]
    refine wpAny_passesOwn hp (thn (hb pins s2 σ1 H2 _ I2 q2) fun f s3 q3 => ?_)
    cases f with
    | next =>
      obtain ⟨σ3, H3, I3, n3⟩ := q3
      obtain ⟨m', hm, w3⟩ := hN σ3 H3 n3
      exact ⟨m', hm, σ3, H3, I3, w3⟩
    | cont =>
      obtain ⟨σ3, H3, I3, n3⟩ := q3
      obtain ⟨m', hm, w3⟩ := hN σ3 H3 n3
      exact ⟨m', hm, σ3, H3, I3, w3⟩
    | brk => exact q3
    | ret v => exact q3
  | false =>
    rw [if_neg Bool.false_ne_true]
    exact wpAny_execs_nil ⟨σ1, H2, I2, q2⟩
end

structure It where
  go : Nat → Hp → Prop
  yld : Nat → Hp → V → Hp → Prop
  stop : Nat → Hp → Prop
noncomputable def FpOk (X : Cx) (pins : List (Addr × Obj)) (H : Hp) (b : Addr) : Prop :=
  H b = none ∧ b ≠ X.env.locals ∧ b ∉ X.fs ∧ (b ∈ X.ex ∨ X.s₀.heap.objs.size ≤ b) ∧ (∀ x c, X.env.cells.lookup x = some c → c ≠ b) ∧ ∀ p ∈ X.pn ++ pins, p.1 ≠ b
theorem Inv.fpOk {X : Cx} {pins : List (Addr × Obj)} {σ : St} {H H' : Hp} {s : Shared} {b : Addr} (I : Inv X pins σ H s) (hb : s.heap.objs.size ≤ b) (hn : H' b = none) : FpOk X pins H' b := by
  refine ⟨hn, Nat.ne_of_gt (Nat.lt_of_lt_of_le I.lt hb), I.nofs hb, .inr (Nat.le_trans I.sz hb), fun x c e z => ?_, fun p hp z => ?_⟩
  · obtain ⟨v, q⟩ := I.cell x c e
    exact absurd (Nat.lt_of_lt_of_le q.lt (by rw [z]; exact hb)) (Nat.lt_irrefl _)
  · exact absurd (Nat.lt_of_lt_of_le (Heap.lt_size (I.pin p hp).1) (by rw [z]; exact hb)) (Nat.lt_irrefl _)
structure Turn (P : Program) (w : World) (K : PySem.W.Frag) (tg : Expr) (J : It) (fp : List Addr) (it : Addr) (tn : Nat → Heap → Prop) : Prop where
  mem : it ∈ fp
  obj : ∀ i h, tn i h → ∀ b ∈ fp, ∃ o, h.get? b = some o ∧ ∀ v, o.data ≠ .cell v
  keep : ∀ i h h', tn i h → (∀ b ∈ fp, ∀ o, h.get? b = some o → h'.get? b = some o) → tn i h'
  item : ∀ (X : Cx), X.prog = P → X.w = w → X.K = K → X.calm = true → ∀ (i : Nat) (pins : List (Addr × Obj)) (s : Shared) (σ : St) (H : Hp) (E : Value → Shared → Prop), Inv X pins σ H s → (∀ b ∈ fp, FpOk X pins H b) → tn i s.heap → J.go i H →
    wpAny (model P w) X.A (pyNext (.ref it)) (fun r s1 => ∃ u, r = some u ∧
      wpAny (model P w) X.A (letOwnedTupleGo tg (.ref it) u) (fun _ s2 => ∃ x H', Inv X pins σ H' s2 ∧ RelV x u ∧ J.yld i H x H' ∧ tn (i + 1) s2.heap ∧ ∀ b ∈ fp, H' b = none) E s1) E s
  done : ∀ (X : Cx), X.prog = P → X.w = w → X.K = K → X.calm = true → ∀ (i : Nat) (pins : List (Addr × Obj)) (s : Shared) (σ : St) (H : Hp) (E : Value → Shared → Prop), Inv X pins σ H s → (∀ b ∈ fp, FpOk X pins H b) → tn i s.heap → J.stop i H →
    wpAny (model P w) X.A (pyNext (.ref it)) (fun r s1 => r = none ∧ Inv X pins σ H s1) E s
  self : ∀ (A : Around) (i : Nat) (s : Shared) (Q : Value → Shared → Prop) (E : Value → Shared → Prop), tn i s.heap → Q (.ref it) s → wpAny (model P w) A (pyIter (.ref it)) Q E s
noncomputable abbrev TI := St → Hp → (It → Hp → Prop) → Prop
noncomputable def PIE (X : Cx) (pins : List (Addr × Obj)) (σ : St) (tg : Expr) (R : It → Hp → Prop) (itv : Value) (s2 : Shared) : Prop :=
  ∃ (it : Addr) (fp : List Addr) (tn : Nat → Heap → Prop) (J : It) (H' : Hp), itv = .ref it ∧ Inv X pins σ H' s2 ∧ Turn X.prog X.w X.K tg J fp it tn ∧ tn 0 s2.heap ∧ (∀ b ∈ fp, FpOk X pins H' b) ∧ R J H'
noncomputable def PI (X : Cx) (tg iter : Expr) (wi : TI) : Prop :=
  ∀ (pins : List (Addr × Obj)) (s : Shared) (σ : St) (H : Hp) (R : It → Hp → Prop), Inv X pins σ H s → wi σ H R →
    wpAny (model X.prog X.w) X.A (eval iter X.env) (fun v s1 => wpAny (model X.prog X.w) X.A (pyIter v) (PIE X pins σ tg R) X.xe s1) X.xe s

theorem go_of {M : Model} {A : Around} {E : Value → Shared → Prop} {s : Shared} {tg : Expr} {it : Addr} {u : Value} {o : Obj} {n : String} {vs : Array Value} {Q : Unit → Shared → Prop} (ho : s.heap.get? it = some o) (hc : o.cls = .type n) (hd : o.data = .fields vs)
    (hn : ["enumerate", "zip", "dict_itemiterator", "dict_reverseitemiterator", "odict_iterator", "itertools.zip_longest", "itertools.pairwise"].contains n = false) (hQ : Q () s) : wpAny M A (letOwnedTupleGo tg (.ref it) u) Q E s := by
  unfold letOwnedTupleGo
  cases tg <;> first
    | exact wpAny_pure hQ
    | (cases u <;> first
        | exact wpAny_pure hQ
        | (refine wpAny_bind (wpAny_load ho ?_)
           rw [hc, hd]
           show wpAny M A (if (["enumerate", "zip", "dict_itemiterator", "dict_reverseitemiterator", "odict_iterator", "itertools.zip_longest", "itertools.pairwise"].contains n && vs[0]? == some (rawInt _)) = true then _ else _) Q E s
           rw [if_neg (by intro h; rw [hn, Bool.false_and] at h; cases h)]
           exact wpAny_pure hQ))

noncomputable def Itl (K : PySem.W.Frag) (a : Addr) : It :=
  ⟨fun i H => ∃ xs x, SqL K H a xs ∧ xs[i]? = some x, fun i H x H' => H' = H ∧ ∀ xs, SqL K H a xs → xs[i]? = some x, fun i H => ∃ xs, SqL K H a xs ∧ xs.length ≤ i⟩
noncomputable def Itt (K : PySem.W.Frag) (a : Addr) : It :=
  ⟨fun i H => ∃ xs x, SqT K H a xs ∧ xs[i]? = some x, fun i H x H' => H' = H ∧ ∀ xs, SqT K H a xs → xs[i]? = some x, fun i H => ∃ xs, SqT K H a xs ∧ xs.length ≤ i⟩
noncomputable def Itr (lo : Int) (n : Nat) : It := ⟨fun i _ => i < n, fun i H x H' => H' = H ∧ x = .int (lo + i), fun i _ => n ≤ i⟩
theorem turn_list {P : Program} {w : World} {K : PySem.W.Frag} {tg : Expr} (a it : Addr) : Turn P w K tg (Itl K a) [it] it (fun i h => h.IsListIter it a i) where
  mem := by simp
  obj := fun i h st b hb => by
    have e : b = it := by simpa using hb
    subst e
    obtain ⟨o, e, c, d⟩ := st
    exact ⟨o, e, fun v z => by rw [d] at z; cases z⟩
  keep := fun i h h' st k => st.at fun o e => k it (by simp) o e
  item := by
    intro X hP hw hK hc i pins s σ H E I hf st hg
    subst hP hw hK
    obtain ⟨xs, x, hq, hx⟩ := hg
    obtain ⟨its, rv, p, hz⟩ := I.list hq
    obtain ⟨u, hu, ru⟩ := rv.get hx
    obtain ⟨f0, f1, f2, f3, f4, f5⟩ := hf it (by simp)
    refine wpAny_pyNext_list_item st p.isList (x := u) (by simpa using hu) fun h' st' sb => ?_
    have I1 : Inv X pins σ H { s with heap := h' } := I.turned (t' := s.toks) (fun b o hb e => (sb.2 b hb).trans e) f0 f1 f3 f4 f5
    obtain ⟨o, e, c, d⟩ := id st'
    exact ⟨u, rfl, go_of (s := { s with heap := h' }) e c d (by decide) ⟨x, H, I1, ru, ⟨rfl, fun ys hy => by rw [I.list_inj hy hq]; exact hx⟩, st', fun b hb => (hf b hb).1⟩⟩
  done := by
    intro X hP hw hK hc i pins s σ H E I hf st hg
    subst hP hw hK
    obtain ⟨xs, hq, hx⟩ := hg
    obtain ⟨its, rv, p, hz⟩ := I.list hq
    obtain ⟨f0, f1, f2, f3, f4, f5⟩ := hf it (by simp)
    have hl := rv.length
    exact wpAny_pyNext_list_end (I.ok.hd hc) st p.isList (by simp; omega) fun h' eb => ⟨rfl, I.turned (t' := s.toks) (fun b o hb e => eb b o hb e) f0 f1 f3 f4 f5⟩
  self := fun _ _ _ _ _ st h => wpAny_pyIter_listiter st h
theorem turn_tuple {P : Program} {w : World} {K : PySem.W.Frag} {tg : Expr} (a it : Addr) : Turn P w K tg (Itt K a) [it] it (fun i h => h.IsTupleIter it a i) where
  mem := by simp
  obj := fun i h st b hb => by
    have e : b = it := by simpa using hb
    subst e
    obtain ⟨o, e, c, d⟩ := st
    exact ⟨o, e, fun v z => by rw [d] at z; cases z⟩
  keep := fun i h h' st k => st.at fun o e => k it (by simp) o e
  item := by
    intro X hP hw hK hc i pins s σ H E I hf st hg
    subst hP hw hK
    obtain ⟨xs, x, hq, hx⟩ := hg
    obtain ⟨its, rv, p, hz⟩ := I.tuple hq
    obtain ⟨u, hu, ru⟩ := rv.get hx
    obtain ⟨f0, f1, f2, f3, f4, f5⟩ := hf it (by simp)
    refine wpAny_pyNext_tuple_item st (show s.heap.IsTuple a its.toArray from p) (x := u) (by simpa using hu) fun h' st' sb => ?_
    have I1 : Inv X pins σ H { s with heap := h' } := I.turned (t' := s.toks) (fun b o hb e => (sb.2 b hb).trans e) f0 f1 f3 f4 f5
    obtain ⟨o, e, c, d⟩ := id st'
    exact ⟨u, rfl, go_of (s := { s with heap := h' }) e c d (by decide) ⟨x, H, I1, ru, ⟨rfl, fun ys hy => by rw [I.tuple_inj hy hq]; exact hx⟩, st', fun b hb => (hf b hb).1⟩⟩
  done := by
    intro X hP hw hK hc i pins s σ H E I hf st hg
    subst hP hw hK
    obtain ⟨xs, hq, hx⟩ := hg
    obtain ⟨its, rv, p, hz⟩ := I.tuple hq
    obtain ⟨f0, f1, f2, f3, f4, f5⟩ := hf it (by simp)
    have hl := rv.length
    exact wpAny_pyNext_tuple_end (I.ok.hd hc) st (show s.heap.IsTuple a its.toArray from p) (by simp; omega) fun h' eb => ⟨rfl, I.turned (t' := s.toks) (fun b o hb e => eb b o hb e) f0 f1 f3 f4 f5⟩
  self := fun _ _ _ _ _ st h => wpAny_pyIter_tupleiter st h
theorem turn_range {P : Program} {w : World} {K : PySem.W.Frag} {tg : Expr} (it : Addr) (lo : Int) (n : Nat) : Turn P w K tg (Itr lo n) [it] it (fun i h => IsRangeIter h it (lo + (i : Nat) * 1) ((n : Int) - (i : Nat)) 1) where
  mem := by simp
  obj := fun i h st b hb => by
    have e : b = it := by simpa using hb
    subst e
    exact ⟨_, st, fun v z => by
      have z' : Data.fields _ = Data.cell v := z
      cases z'⟩
  keep := fun i h h' st k => k it (by simp) _ st
  item := by
    intro X hP hw hK hc i pins s σ H E I hf st hg
    subst hP hw hK
    obtain ⟨f0, f1, f2, f3, f4, f5⟩ := hf it (by simp)
    have W := Walks.range (prog := X.prog) (w := X.w) (I.ok.hd hc) it lo 1 n
    refine W.item i s _ _ hg st fun v h' tk hv st' kk => ?_
    obtain ⟨t, rfl⟩ := hv
    have I1 : Inv X pins σ H { s with heap := h', toks := tk } := I.turned (fun b o hb e => kk b o (by simpa using hb) e) f0 f1 f3 f4 f5
    refine ⟨_, rfl, go_of (s := { s with heap := h', toks := tk }) (n := "range_iterator") st' rfl rfl (by decide) ⟨.int (lo + i), H, I1, ⟨t, ?_⟩, ⟨rfl, rfl⟩, st', fun b hb => (hf b hb).1⟩⟩
    rw [Int.mul_one]
  done := by
    intro X hP hw hK hc i pins s σ H E I hf st hg
    subst hP hw hK
    obtain ⟨f0, f1, f2, f3, f4, f5⟩ := hf it (by simp)
    exact wpAny_pyNext_range_end (I.ok.hd hc) st (by have : n ≤ i := hg; omega) fun h' eb => ⟨rfl, I.turned (t' := s.toks) (fun b o hb e => eb b o hb e) f0 f1 f3 f4 f5⟩
  self := fun _ _ _ _ _ st h => wpAny_pyIter_rangeiter st h
end L2

namespace L2
open PySem PySem.Spec PyProof.Rows
section
variable {X : Cx} {tg : Expr}
theorem range_it {pins : List (Addr × Obj)} {σ : St} {H : Hp} {s : Shared} {R : It → Hp → Prop} {E : Value → Shared → Prop} {lo hi : Int} {t u v : Tok} {tk : Nat} (I : Inv X pins σ H s) (h1 : -(2 ^ 62) ≤ lo) (h2 : lo < 2 ^ 62) (h3 : -(2 ^ 62) ≤ hi) (h4 : hi < 2 ^ 62)
    (q : R (Itr lo (hi - lo).toNat) H) : wpAny (model X.prog X.w) X.A (pyIter (.ref s.heap.objs.size)) (PIE X pins σ tg R) E { s with heap := s.heap.push { cls := .type "range", data := .fields #[.int lo t, .int hi u, .int 1 v] }, toks := tk } := by
  refine wpAny_pyIter_range (IsRange.new ..) (small_one h1 h2 h3 h4) ?_
  have I1 : Inv X pins σ H { s with heap := s.heap.push { cls := .type "range", data := .fields #[.int lo t, .int hi u, .int 1 v] }, toks := tk } := I.kept fun b o e => Heap.get?_push_of_some _ e
  refine ⟨(s.heap.push { cls := .type "range", data := .fields #[.int lo t, .int hi u, .int 1 v] }).objs.size, [(s.heap.push { cls := .type "range", data := .fields #[.int lo t, .int hi u, .int 1 v] }).objs.size], _, _, H, rfl,
    I1.kept (t' := tk) fun b o e => Heap.get?_push_of_some _ e, turn_range _ lo (hi - lo).toNat, ?_, fun b hb => ?_, q⟩
  · have e1 : lo + ((0 : Nat) : Int) * 1 = lo := by simp
    have e2 : (((hi - lo).toNat : Nat) : Int) - ((0 : Nat) : Int) = Builtin.Range.rangeSize lo hi 1 := by rw [rangeSize_one]; split <;> omega
    show IsRangeIter _ _ (lo + ((0 : Nat) : Int) * 1) ((((hi - lo).toNat : Nat) : Int) - ((0 : Nat) : Int)) 1
    rw [e1, e2]
    exact Heap.get?_push_size _ rfl
  · have e : b = (s.heap.push { cls := .type "range", data := .fields #[.int lo t, .int hi u, .int 1 v] }).objs.size := by simpa using hb
    subst e
    exact I1.fpOk (Nat.le_refl _) (I1.hok.fresh (Nat.le_refl _))
noncomputable def iRng1 (ta : TA) : TI := fun σ H R => ta σ H fun vs H1 => ∃ j : Int, vs = [.int j] ∧ -(2 ^ 62) ≤ j ∧ j < 2 ^ 62 ∧ R (Itr 0 j.toNat) H1
theorem pi_range1 {a : Expr} {ta : TA} {p pos : Pos} (hg : Gl X "range") (hm : X.mg "range" = none) (ha : PA X [a] ta) (hs : starEach [a] X.env = [(false, eval a X.env)] := by rfl) : PI X tg (.Call (.Name "range" p) [a] [] pos) (iRng1 ta) := by
  intro pins s σ H R I h
  refine Call_ (ld_blt I hg hm boot_range (PyProof.Rows.callWith_type1 (thn (ha pos pins s σ H _ I h) fun us s1 ⟨vs, H1, I1, r1, q1⟩ => ?_) hs rfl))
  obtain ⟨j, e, q1, q2, q⟩ := q1
  subst e
  cases r1 with
  | cons r rr =>
    cases rr
    obtain ⟨t, rfl⟩ := r
    exact call_range_1 (range_it I1 (by omega) (by omega) q1 q2 (by simpa using q))
noncomputable def tFor (wi : TI) (g : TG) (tb : TS) : TS := fun D σ H => wi σ H fun J H1 => ∃ W : Nat → Nat → St → Hp → Prop, (∃ m, W 0 m σ H1) ∧ ∀ i m σ H, W i m σ H →
  (J.stop i H ∧ D.nx σ H) ∨ (J.go i H ∧ ∃ N : St → Hp → Prop, (∀ σ' H', N σ' H' → ∃ m', m' < m ∧ W (i + 1) m' σ' H') ∧ ∀ x H', J.yld i H x H' → g x σ H' fun σ2 H2 => tb { D with nx := N, ct := N, bk := D.nx } σ2 H2)
noncomputable def pinsAt (fp : List Addr) (h : Heap) : List (Addr × Obj) := fp.filterMap fun b => (h.get? b).map fun o => (b, o)
theorem mem_pinsAt {fp : List Addr} {h : Heap} {b : Addr} {o : Obj} (hb : b ∈ fp) (e : h.get? b = some o) : (b, o) ∈ pinsAt fp h := List.mem_filterMap.mpr ⟨b, hb, by rw [e]; rfl⟩
theorem of_pinsAt {fp : List Addr} {h : Heap} {p : Addr × Obj} (hp : p ∈ pinsAt fp h) : p.1 ∈ fp ∧ h.get? p.1 = some p.2 := by
  obtain ⟨b, hb, e⟩ := List.mem_filterMap.mp hp
  cases q : h.get? b with
  | none => rw [q] at e; cases e
  | some o =>
    rw [q] at e
    have e' : (b, o) = p := Option.some.inj e
    subst e'
    exact ⟨hb, q⟩
theorem Inv.pinned {pins : List (Addr × Obj)} {σ : St} {H : Hp} {s : Shared} {fp : List Addr} (I : Inv X pins σ H s) (hf : ∀ b ∈ fp, FpOk X pins H b) (ho : ∀ b ∈ fp, ∃ o, s.heap.get? b = some o ∧ ∀ v, o.data ≠ .cell v) : Inv X (pins ++ pinsAt fp s.heap) σ H s :=
  I.pins_of fun p hp => (List.mem_append.mp hp).elim (fun z => I.pin p (List.mem_append_right _ z)) fun z => by
    obtain ⟨hb, e⟩ := of_pinsAt z
    obtain ⟨f0, f1, f2, _⟩ := hf p.1 hb
    obtain ⟨o, e', d⟩ := ho p.1 hb
    rw [e] at e'; cases e'
    exact ⟨e, f0, f1, f2, d⟩
theorem Inv.unpinned {pins pl : List (Addr × Obj)} {σ : St} {H : Hp} {s : Shared} (I : Inv X (pins ++ pl) σ H s) : Inv X pins σ H s := I.pins_of fun p hp => I.pin p (List.mem_append_right _ (List.mem_append_left _ hp))
theorem ps_for {iter : Expr} {body : List Stmt} {wi : TI} {g : TG} {tb : TS} {pos : Pos} (hp : PassesOwn (model X.prog X.w) X.A X.env X.xe) (hc : X.calm = true) (hi : PI X tg iter wi) (hg : PG X tg g) (hb : PSs X body tb)
    (hs : ∀ x, foldedSetIterable iter X.env x = pure x := by intro _; rfl) : PS X (.For tg iter body [] pos) (tFor wi g tb) := by
  intro pins s σ H D I h
  refine wpAny_For (thn (hi pins s σ H _ I h) fun v s1 h1 => thn h1 fun itv s2 h2 => ?_) hs
  obtain ⟨it, fp, tn, J, H2, e, I2, T, st2, f2, W, ⟨m0, w0⟩, turn⟩ := h2
  subst e
  -- what stays true of the iterator's objects through the loop
  have stat : ∀ {H' : Hp}, (∀ b ∈ fp, H' b = none) → ∀ b ∈ fp, FpOk X pins H' b := fun hn b hb => ⟨hn b hb, (f2 b hb).2⟩
  refine codeAny_forLoop_any (fun n s' => ∃ i σ' H', Inv X pins σ' H' s' ∧ tn i s'.heap ∧ (∀ b ∈ fp, H' b = none) ∧ W i n σ' H') ?_ m0 ⟨0, σ, H2, I2, st2, fun b hb => (f2 b hb).1, w0⟩
  rintro n s3 ⟨i, σ3, H3, I3, st3, fr3, w3⟩
  rcases turn i n σ3 H3 w3 with ⟨stop, qn⟩ | ⟨go, N, hN, step⟩
  · refine wpAny_passesOwn hp (thn (T.done X rfl rfl rfl hc i pins s3 σ3 H3 X.xe I3 (stat fr3) st3 stop) fun r s4 zz => ?_)
    obtain ⟨hr, I4⟩ := zz
    subst hr
    exact wpAny_execs_nil ⟨σ3, H3, I4, qn⟩
  · refine wpAny_passesOwn hp (thn (T.item X rfl rfl rfl hc i pins s3 σ3 H3 X.xe I3 (stat fr3) st3 go) fun r s4 zz => ?_)
    obtain ⟨u, hr, h4⟩ := zz
    subst hr
    refine wpAny_passesOwn hp (thn h4 fun _ s5 zz => ?_)
    obtain ⟨x, H5, I5, r5, y5, st5, fr5⟩ := zz
    have I5' := I5.pinned (stat fr5) (T.obj _ _ st5)
    refine wpAny_passesOwn hp (thn (hg _ s5 σ3 H5 x u _ I5' r5 (step x H5 y5)) fun _ s6 zz => ?_)
    obtain ⟨σ6, H6, I6, q6⟩ := zz
    refine wpAny_passesOwn hp (thn (hb _ s6 σ6 H6 _ I6 q6) fun f s7 q7 => ?_)
    have again : ∀ {σ7 : St} {H7 : Hp}, Inv X (pins ++ pinsAt fp s5.heap) σ7 H7 s7 → N σ7 H7 → ∃ m, m < n ∧ ∃ i σ' H', Inv X pins σ' H' s7 ∧ tn i s7.heap ∧ (∀ b ∈ fp, H' b = none) ∧ W i m σ' H' := fun {σ7 H7} I7 n7 => by
      obtain ⟨m', hm, w7⟩ := hN σ7 H7 n7
      refine ⟨m', hm, i + 1, σ7, H7, I7.unpinned, T.keep _ _ _ st5 fun b hb o e => (I7.pin (b, o) (List.mem_append_right _ (List.mem_append_right _ (mem_pinsAt hb e)))).1, fun b hb => ?_, w7⟩
      obtain ⟨o, e, d⟩ := T.obj _ _ st5 b hb
      exact (I7.pin (b, o) (List.mem_append_right _ (List.mem_append_right _ (mem_pinsAt hb e)))).2.1
    cases f with
    | next => obtain ⟨σ7, H7, I7, n7⟩ := q7; exact again I7 n7
    | cont => obtain ⟨σ7, H7, I7, n7⟩ := q7; exact again I7 n7
    | brk => obtain ⟨σ7, H7, I7, q7⟩ := q7; exact ⟨σ7, H7, I7.unpinned, q7⟩
    | ret v => obtain ⟨x7, σ7, H7, I7, r7, q7⟩ := q7; exact ⟨x7, σ7, H7, I7.unpinned, r7, q7⟩
end

end L2

namespace L2
open PySem PySem.Spec PyProof.Rows

noncomputable abbrev R2 := V → V → Hp → VK → Prop
noncomputable def OpR (X : Cx) (f : Value → Value → Sem Value) (r : R2) : Prop :=
  ∀ (pins : List (Addr × Obj)) (s : Shared) (σ : St) (H : Hp) (x y : V) (v u : Value) (Q : VK), Inv X pins σ H s → RelV x v → RelV y u → r x y H Q →
    wpAny (model X.prog X.w) X.A (f v u) (EP X pins σ Q) X.xe s
noncomputable def UnR (X : Cx) (f : Value → Sem Value) (r : V → Hp → VK → Prop) : Prop :=
  ∀ (pins : List (Addr × Obj)) (s : Shared) (σ : St) (H : Hp) (x : V) (v : Value) (Q : VK), Inv X pins σ H s → RelV x v → r x H Q →
    wpAny (model X.prog X.w) X.A (f v) (EP X pins σ Q) X.xe s
noncomputable def CallR (X : Cx) (f : Value) (r : List V → Hp → VK → Prop) : Prop :=
  ∀ (pins : List (Addr × Obj)) (s : Shared) (σ : St) (H : Hp) (xs : List V) (us : List Value) (Q : VK), Inv X pins σ H s → Vals xs us → r xs H Q →
    wpAny (model X.prog X.w) X.A (call f us) (EP X pins σ Q) X.xe s
noncomputable def tOp (r : R2) (ta tb : TE) : TE := fun σ H Q => ta σ H fun x H1 => tb σ H1 fun y H2 => r x y H2 Q
noncomputable def tUn (r : V → Hp → VK → Prop) (ta : TE) : TE := fun σ H Q => ta σ H fun x H1 => r x H1 Q
noncomputable def rI (C : Int → Int → Prop) (g : Int → Int → V) : R2 := fun x y H Q => ∃ i j, x = .int i ∧ y = .int j ∧ C i j ∧ Q (g i j) H
noncomputable def rI0 (g : Int → Int → V) : R2 := fun x y H Q => ∃ i j, x = .int i ∧ y = .int j ∧ Q (g i j) H
noncomputable def rU (g : Int → V) : V → Hp → VK → Prop := fun x H Q => ∃ i, x = .int i ∧ Q (g i) H

section
variable {X : Cx} {a b c : Expr} {ta tb tc : TE} {pos : Pos}

theorem binT (ha : PE X a ta) (hb : PE X b tb) {pins : List (Addr × Obj)} {s : Shared} {σ : St} {H : Hp} {R : V → V → Hp → Prop} (I : Inv X pins σ H s)
    (h : ta σ H fun x H1 => tb σ H1 fun y H2 => R x y H2) {Q : Value → Shared → Prop} {f : Value → Value → Sem Value}
    (hf : ∀ v u s2 x y H2, Inv X pins σ H2 s2 → RelV x v → RelV y u → R x y H2 → wpAny (model X.prog X.w) X.A (f v u) Q X.xe s2) :
    wpAny (model X.prog X.w) X.A (eval a X.env) (fun v s₁ => wpAny (model X.prog X.w) X.A (eval b X.env) (fun u s₂ => wpAny (model X.prog X.w) X.A (f v u) Q X.xe s₂) X.xe s₁) X.xe s := by
  refine thn (ha pins s σ H _ I h) fun v s1 zz => ?_
  obtain ⟨x, H1, I1, r1, q1⟩ := zz
  refine thn (hb pins s1 σ H1 _ I1 q1) fun u s2 zz => ?_
  obtain ⟨y, H2, I2, r2, q2⟩ := zz
  exact hf v u s2 x y H2 I2 r1 r2 q2

theorem pe_op {op : Operator} {r : R2} (ho : OpR X (binaryOp op) r) (ha : PE X a ta) (hb : PE X b tb) : PE X (.BinOp a op b pos) (tOp r ta tb) := by
  intro pins s σ H Q I h
  exact wpAny_BinOp (binT ha hb I h fun v u s2 x y H2 I2 rx ry q => ho pins s2 σ H2 x y v u Q I2 rx ry q)
theorem pe_un {op : UnaryOp} {r : V → Hp → VK → Prop} (ho : UnR X (unaryOp op) r) (ha : PE X a ta) : PE X (.UnaryOp op a pos) (tUn r ta) := by
  intro pins s σ H Q I h
  exact UnaryOp_ (thn (ha pins s σ H _ I h) fun v s1 ⟨x, H1, I1, r1, q1⟩ => ho pins s1 σ H1 x v Q I1 r1 q1)
theorem opI {f : Value → Value → Sem Value} {C : Int → Int → Prop} {g : Int → Int → Int}
    (rule : ∀ (i j : Int) (t u : Tok) (s : Shared) (Q : Value → Shared → Prop) (E : Value → Shared → Prop), C i j → Q (.int (g i j) s.toks) { s with toks := s.toks + 1 } → wpAny (model X.prog X.w) X.A (f (.int i t) (.int j u)) Q E s) :
    OpR X f (rI C fun i j => .int (g i j)) := by
  intro pins s σ H x y v u Q I rx ry h
  obtain ⟨i, j, rfl, rfl, hc, q⟩ := h
  obtain ⟨t, rfl⟩ := rx
  obtain ⟨t', rfl⟩ := ry
  exact rule i j t t' s _ _ hc ⟨.int (g i j), H, I.tok _, ⟨_, rfl⟩, q⟩
theorem opI0 {f : Value → Value → Sem Value} {g : Int → Int → Int}
    (rule : ∀ (i j : Int) (t u : Tok) (s : Shared) (Q : Value → Shared → Prop) (E : Value → Shared → Prop), Q (.int (g i j) s.toks) { s with toks := s.toks + 1 } → wpAny (model X.prog X.w) X.A (f (.int i t) (.int j u)) Q E s) :
    OpR X f (rI0 fun i j => .int (g i j)) := by
  intro pins s σ H x y v u Q I rx ry h
  obtain ⟨i, j, rfl, rfl, q⟩ := h
  obtain ⟨t, rfl⟩ := rx
  obtain ⟨t', rfl⟩ := ry
  exact rule i j t t' s _ _ ⟨.int (g i j), H, I.tok _, ⟨_, rfl⟩, q⟩
theorem opB0 {f : Value → Value → Sem Value} {g : Int → Int → Bool}
    (rule : ∀ (i j : Int) (t u : Tok) (s : Shared) (Q : Value → Shared → Prop) (E : Value → Shared → Prop), Q (.bool (g i j)) s → wpAny (model X.prog X.w) X.A (f (.int i t) (.int j u)) Q E s) :
    OpR X f (rI0 fun i j => .bl (g i j)) := by
  intro pins s σ H x y v u Q I rx ry h
  obtain ⟨i, j, rfl, rfl, q⟩ := h
  obtain ⟨t, rfl⟩ := rx
  obtain ⟨t', rfl⟩ := ry
  exact rule i j t t' s _ _ ⟨.bl (g i j), H, I, rfl, q⟩

noncomputable def CPow (i j : Int) : Prop := 0 ≤ j ∧ j ≤ 1000000 ∧ i.natAbs < 2 ^ 64
theorem op_add : OpR X (binaryOp .Add) (rI0 fun i j => .int (i + j)) := opI0 fun _ _ _ _ _ _ _ q => add_int q
theorem op_sub : OpR X (binaryOp .Sub) (rI0 fun i j => .int (i - j)) := opI0 fun _ _ _ _ _ _ _ q => sub_int q
theorem op_mod : OpR X (binaryOp .Mod) (rI (fun _ j => 0 < j) fun i j => .int (i % j)) := opI fun i j _ _ _ _ _ hc q => by
  have h1 : (0 : Int) < j := hc
  exact mod_int' (by omega) (by rw [Int.fmod_eq_emod_of_nonneg i (by omega)]; exact q)
theorem op_pow : OpR X (binaryOp .Pow) (rI CPow fun i j => .int (i ^ j.toNat)) := opI fun _ _ _ _ _ _ _ hc q => pow_int_small hc.1 hc.2.1 hc.2.2 q
theorem unI {f : Value → Sem Value} {g : Int → Int}
    (rule : ∀ (i : Int) (t : Tok) (s : Shared) (Q : Value → Shared → Prop) (E : Value → Shared → Prop), Q (.int (g i) s.toks) { s with toks := s.toks + 1 } → wpAny (model X.prog X.w) X.A (f (.int i t)) Q E s) :
    UnR X f (rU fun i => .int (g i)) := by
  intro pins s σ H x v Q I rx h
  obtain ⟨i, rfl, q⟩ := h
  obtain ⟨t, rfl⟩ := rx
  exact rule i t s _ _ ⟨.int (g i), H, I.tok _, ⟨_, rfl⟩, q⟩
theorem un_neg : UnR X (unaryOp .USub) (rU fun i => .int (-i)) := unI fun _ _ _ _ _ q => neg_int q
end

noncomputable def scal : V → V → Bool
  | .non, .non => true | .non, .int _ => true | .int _, .non => true | .non, .bl _ => true | .bl _, .non => true | .non, .str _ => true | .str _, .non => true
  | .int _, .int _ => true | .bl _, .bl _ => true | .str _, .str _ => true | .byt _, .byt _ => true
  | .int _, .str _ => true | .str _, .int _ => true | .bl _, .str _ => true | .str _, .bl _ => true
  | _, _ => false
noncomputable def rEq : R2 := fun x y H Q => scal x y = true ∧ Q (.bl (decide (x = y))) H
noncomputable def rNe : R2 := fun x y H Q => scal x y = true ∧ Q (.bl (!decide (x = y))) H

theorem dec_int {i j : Int} : decide (V.int i = V.int j) = (i == j) := by
  rw [Bool.eq_iff_iff]
  simp
theorem dec_bl {i j : Bool} : decide (V.bl i = V.bl j) = (i == j) := by
  rw [Bool.eq_iff_iff]
  simp
theorem dec_str {i j : Str} : decide (V.str i = V.str j) = (i == j) := by
  rw [Bool.eq_iff_iff]
  simp
theorem dec_byt {i j : Array UInt8} : decide (V.byt i = V.byt j) = (i.toList == j.toList) := by
  rw [Bool.eq_iff_iff]
  cases i
  cases j
  simp

section
variable {X : Cx} {a b c : Expr} {ta tb tc : TE} {pos : Pos}
theorem fin_bl {pins : List (Addr × Obj)} {σ : St} {H : Hp} {s : Shared} {Q : VK} {k k' : Bool} (I : Inv X pins σ H s) (q : Q (.bl k) H) (e : k = k') : EP X pins σ Q (.bool k') s := by
  subst e
  exact ⟨.bl k, H, I, rfl, q⟩
theorem op_eq : OpR X (compareOp .Eq) rEq := by
  intro pins s σ H x y v u Q I rx ry h
  obtain ⟨hs, q⟩ := h
  cases x with
  | non =>
    cases rx
    cases y with
    | non => cases ry; exact PySem.EqNone.eq_none_none (fin_bl I q (by simp))
    | bl j => cases ry; exact PySem.EqNone.eq_none_bool (fin_bl I q (by simp))
    | int j => obtain ⟨t', rfl⟩ := ry; exact PySem.EqNone.eq_none_int (fin_bl I q (by simp))
    | str j => obtain ⟨t', rfl⟩ := ry; exact PySem.EqNone.eq_none_str (fin_bl I q (by simp))
    | _ => exact absurd (show false = true from hs) Bool.false_ne_true
  | bl i =>
    cases rx
    cases y with
    | non => cases ry; exact PySem.EqNone.eq_bool_none (fin_bl I q (by simp))
    | bl j => cases ry; exact eq_bool (fin_bl I q dec_bl)
    | str j => obtain ⟨t', rfl⟩ := ry; exact PySem.EqMixed.eq_bool_str (fin_bl I q (by simp))
    | _ => exact absurd (show false = true from hs) Bool.false_ne_true
  | int i =>
    obtain ⟨t, rfl⟩ := rx
    cases y with
    | non => cases ry; exact PySem.EqNone.eq_int_none (fin_bl I q (by simp))
    | int j => obtain ⟨t', rfl⟩ := ry; exact eq_int (fin_bl I q dec_int)
    | str j => obtain ⟨t', rfl⟩ := ry; exact PySem.EqMixed.eq_int_str (fin_bl I q (by simp))
    | _ => exact absurd (show false = true from hs) Bool.false_ne_true
  | str i =>
    obtain ⟨t, rfl⟩ := rx
    cases y with
    | non => cases ry; exact PySem.EqNone.eq_str_none (fin_bl I q (by simp))
    | bl j => cases ry; exact PySem.EqMixed.eq_str_bool (fin_bl I q (by simp))
    | int j => obtain ⟨t', rfl⟩ := ry; exact PySem.EqMixed.eq_str_int (fin_bl I q (by simp))
    | str j => obtain ⟨t', rfl⟩ := ry; exact eq_str (fin_bl I q dec_str)
    | _ => exact absurd (show false = true from hs) Bool.false_ne_true
  | byt i =>
    obtain ⟨t, rfl⟩ := rx
    cases y with
    | byt j => obtain ⟨t', rfl⟩ := ry; exact PySem.W.eq_bytes (fin_bl I q dec_byt)
    | _ => exact absurd (show false = true from hs) Bool.false_ne_true
  | _ => cases y <;> exact absurd (show false = true from hs) Bool.false_ne_true
theorem op_ne : OpR X (compareOp .NotEq) rNe := by
  intro pins s σ H x y v u Q I rx ry h
  obtain ⟨hs, q⟩ := h
  cases x with
  | non =>
    cases rx
    cases y with
    | non => cases ry; exact PySem.EqNone.ne_none_none (fin_bl I q (by simp))
    | bl j => cases ry; exact PySem.EqNone.ne_none_bool (fin_bl I q (by simp))
    | int j => obtain ⟨t', rfl⟩ := ry; exact PySem.EqNone.ne_none_int (fin_bl I q (by simp))
    | str j => obtain ⟨t', rfl⟩ := ry; exact PySem.EqNone.ne_none_str (fin_bl I q (by simp))
    | _ => exact absurd (show false = true from hs) Bool.false_ne_true
  | bl i =>
    cases rx
    cases y with
    | non => cases ry; exact PySem.EqNone.ne_bool_none (fin_bl I q (by simp))
    | bl j => cases ry; exact ne_bool (fin_bl I q (congrArg not dec_bl))
    | str j => obtain ⟨t', rfl⟩ := ry; exact PySem.EqMixed.ne_bool_str (fin_bl I q (by simp))
    | _ => exact absurd (show false = true from hs) Bool.false_ne_true
  | int i =>
    obtain ⟨t, rfl⟩ := rx
    cases y with
    | non => cases ry; exact PySem.EqNone.ne_int_none (fin_bl I q (by simp))
    | int j => obtain ⟨t', rfl⟩ := ry; exact ne_int (fin_bl I q (congrArg not dec_int))
    | str j => obtain ⟨t', rfl⟩ := ry; exact PySem.EqMixed.ne_int_str (fin_bl I q (by simp))
    | _ => exact absurd (show false = true from hs) Bool.false_ne_true
  | str i =>
    obtain ⟨t, rfl⟩ := rx
    cases y with
    | non => cases ry; exact PySem.EqNone.ne_str_none (fin_bl I q (by simp))
    | bl j => cases ry; exact PySem.EqMixed.ne_str_bool (fin_bl I q (by simp))
    | int j => obtain ⟨t', rfl⟩ := ry; exact PySem.EqMixed.ne_str_int (fin_bl I q (by simp))
    | str j => obtain ⟨t', rfl⟩ := ry; exact ne_str (fin_bl I q (congrArg not dec_str))
    | _ => exact absurd (show false = true from hs) Bool.false_ne_true
  | byt i =>
    obtain ⟨t, rfl⟩ := rx
    cases y with
    | byt j => obtain ⟨t', rfl⟩ := ry; exact PySem.W.ne_bytes (fin_bl I q (congrArg not dec_byt))
    | _ => exact absurd (show false = true from hs) Bool.false_ne_true
  | _ => cases y <;> exact absurd (show false = true from hs) Bool.false_ne_true

theorem op_lt : OpR X (compareOp .Lt) (rI0 fun i j => .bl (decide (i < j))) := opB0 fun _ _ _ _ _ _ _ q => lt_int q
theorem op_gt : OpR X (compareOp .Gt) (rI0 fun i j => .bl (decide (j < i))) := opB0 fun _ _ _ _ _ _ _ q => gt_int q
theorem OpR.or {f : Value → Value → Sem Value} {r r' : R2} (h : OpR X f r) (h' : OpR X f r') : OpR X f (fun x y H Q => r x y H Q ∨ r' x y H Q) := by
  intro pins s σ H x y v u Q I rx ry q
  rcases q with q | q
  · exact h pins s σ H x y v u Q I rx ry q
  · exact h' pins s σ H x y v u Q I rx ry q

theorem nomark (b : Expr) {op : CmpOp} (h : op ≠ .In := by decide) (h2 : op ≠ .NotIn := by decide) : behindInMarks op b = false := by
  have e1 : (op == CmpOp.In) = false := by cases op <;> first | rfl | exact absurd rfl h
  have e2 : (op == CmpOp.NotIn) = false := by cases op <;> first | rfl | exact absurd rfl h2
  cases b <;> simp [behindInMarks, e1, e2]
theorem pe_cmpR {op : CmpOp} {r : R2} (ho : OpR X (compareOp op) r) (ha : PE X a ta) (hb : PE X b tb) (hm : behindInMarks op b = false) : PE X (.Compare a [op] [b] pos) (tOp r ta tb) := by
  intro pins s σ H Q I h
  exact wpAny_Compare1 (binT ha hb I h fun v u s2 x y H2 I2 rx ry q => ho pins s2 σ H2 x y v u Q I2 rx ry q) hm
noncomputable def tTest (t : TE) : TT := fun σ H Q => t σ H fun x H' => ∃ k, x = .bl k ∧ Q k H'
theorem pt_cmpR {op : CmpOp} {r : R2} (ho : OpR X (compareOp op) r) (ha : PE X a ta) (hb : PE X b tb) (hm : behindInMarks op b = false) : PT X (.Compare a [op] [b] pos) (tTest (tOp r ta tb)) := by
  intro pins s σ H Q I h
  refine wpAny_isTrue_Compare1 (thn (ha pins s σ H _ I h) fun v s1 ⟨x, H1, I1, r1, q1⟩ => thn (hb pins s1 σ H1 _ I1 q1) fun u s2 ⟨y, H2, I2, r2, q2⟩ =>
    thn (ho pins s2 σ H2 x y v u _ I2 r1 r2 q2) fun c s3 ⟨z, H3, I3, r3, k, e, q3⟩ => ?_) hm
  subst e
  cases r3
  exact wpAny_truthy_bool ⟨H3, I3, q3⟩
noncomputable def tChain (r r' : R2) (ta tb tc : TE) : TE := fun σ H Q => ta σ H fun x H1 => tb σ H1 fun y H2 => r x y H2 fun z H3 => ∃ k, z = .bl k ∧
  (if k = true then tc σ H3 fun w' H4 => r' y w' H4 Q else Q (.bl false) H3)
theorem pt_chain {op op' : CmpOp} {r r' : R2} (ho : OpR X (compareOp op) r) (ho' : OpR X (compareOp op') r') (ha : PE X a ta) (hb : PE X b tb) (hc : PE X c tc)
    (hm : lastMarks [op, op'] [b, c] = false := by with_unfolding_all rfl) : PT X (.Compare a [op, op'] [b, c] pos) (tTest (tChain r r' ta tb tc)) := by
  intro pins s σ H Q I h
  refine isTrue_chain (thn (ha pins s σ H _ I h) fun v s1 ⟨x, H1, I1, r1, q1⟩ => test_link (thn (hb pins s1 σ H1 _ I1 q1) fun u s2 ⟨y, H2, I2, r2, q2⟩ =>
    thn (ho pins s2 σ H2 x y v u _ I2 r1 r2 q2) fun d s3 ⟨z, H3, I3, r3, k, e, q3⟩ => ?_)) hm
  subst e
  cases r3
  refine wpAny_truthy_bool ?_
  cases k with
  | false =>
    obtain ⟨k', e', q'⟩ := q3
    cases e'
    exact ite_ff ⟨H3, I3, q'⟩
  | true =>
    refine ite_tt (test_last (thn (hc pins s3 σ H3 _ I3 q3) fun w' s4 ⟨z', H4, I4, r4, q4⟩ => thn (ho' pins s4 σ H4 y z' u w' _ I4 r2 r4 q4) fun d' s5 zz => ?_))
    obtain ⟨z2, H5, I5, r5, k2, e2, q5⟩ := zz
    subst e2
    cases r5
    exact wpAny_truthy_bool ⟨H5, I5, q5⟩

theorem line63 : (sizeLine : Nat) < 2 ^ 63 := by rw [sizeLine_eq]; decide
theorem vals1 {x : V} {us : List Value} (r : Vals [x] us) : ∃ u, us = [u] ∧ RelV x u := by
  cases r with
  | cons r1 r2 => cases r2; exact ⟨_, rfl, r1⟩
theorem vals2 {x y : V} {us : List Value} (r : Vals [x, y] us) : ∃ u w', us = [u, w'] ∧ RelV x u ∧ RelV y w' := by
  cases r with
  | cons r1 r2 =>
    cases r2 with
    | cons r3 r4 => cases r4; exact ⟨_, _, rfl, r1, r3⟩
theorem call_abs : CallR X (.builtin "abs") (fun xs H Q => ∃ i, xs = [.int i] ∧ Q (.int (if i < 0 then -i else i)) H) := by
  intro pins s σ H xs us Q I r h
  obtain ⟨i, rfl, q⟩ := h
  obtain ⟨u, rfl, t, rfl⟩ := vals1 r
  exact call_abs_int fun u tk => ⟨.int (if i < 0 then -i else i), H, I.tok _, ⟨_, rfl⟩, q⟩
theorem call_max2 (hc : X.calm = true) : CallR X (.builtin "max") (fun xs H Q => ∃ i j, xs = [.int i, .int j] ∧ Q (.int (if j > i then j else i)) H) := by
  intro pins s σ H xs us Q I r h
  obtain ⟨i, j, rfl, q⟩ := h
  obtain ⟨u, w', rfl, ⟨t, rfl⟩, ⟨t', rfl⟩⟩ := vals2 r
  refine max_two_ints (I.ok.hd hc) fun h' tk k => ⟨_, H, I.kept k, ?_, q⟩
  by_cases hj : j > i
  · rw [if_pos hj, if_pos hj]; exact ⟨_, rfl⟩
  · rw [if_neg hj, if_neg hj]; exact ⟨_, rfl⟩
end
end L2

namespace L2
open PySem PySem.Spec PyProof.Rows

structure ObjM (h : Heap) (x dx C : Addr) (mA : Str → Option Value) : Prop where
  obj : h.get? x = some (PySem.W.instObj C dx)
  ns : h.Ns1 dx mA
  ne : dx ≠ x

theorem lookIn_ns {h : Heap} {dx : Addr} {mA : Str → Option Value} (n : h.Ns1 dx mA) : ∃ od, h.get? dx = some od ∧ ∀ name, PySem.W.lookIn name od = some (mA name) := by
  obtain ⟨o, es, ep, ho, hd, hk, _, hm⟩ := n
  refine ⟨o, ho, fun name => ?_⟩
  have e := hm name
  unfold nsFind findBy at e
  rw [← Array.find?_toList] at e
  unfold PySem.W.lookIn
  rw [hd]
  dsimp only
  split
  · rename_i y q
    rw [q] at e
    exact congrArg some e
  · rename_i q
    rw [q] at e
    have a : es.toList.any (·.refKey) = false := by
      rw [List.any_eq_false]
      intro y hy
      obtain ⟨z, t, hkey⟩ := hk y (Array.mem_toList_iff.mp hy)
      simp [DictEntry.refKey, hkey]
    have a' : ¬ es.toList.any (·.refKey) = true := by rw [a]; exact Bool.false_ne_true
    rw [if_neg a']
    exact congrArg some e

theorem ObjM.look {h : Heap} {x dx C : Addr} {mA : Str → Option Value} (I : ObjM h x dx C mA) : ∃ od, PySem.W.InstAt h x (PySem.W.instObj C dx) C (some od) ∧ ∀ name, PySem.W.lookIn name od = some (mA name) :=
  let ⟨od, ho, hl⟩ := lookIn_ns I.ns
  ⟨od, ⟨I.obj, rfl, rfl, ho⟩, hl⟩

section
variable {prog : Program} {w : World} {A : Around} {E : Value → Shared → Prop} {s : Shared} {K : PySem.W.Frag} {x dx C f : Addr} {mA : Str → Option Value} {name : Str} {v : Value}

end

section
variable {P : Program} {w : World} {H H' : Hp} {h h' : Heap} {a C dx : Addr} {fs fs' : List (Str × V)}
theorem ins_get (hok : HOk P w H h) (e : H a = some (.ins C dx fs)) : ∃ mA, ObjM h a dx C mA ∧ (∀ f, RelO (fs.lookup f) (mA f)) ∧ PySem.Within mA (fs.map (·.1)) ∧ fs.length ≤ 1000 ∧ H dx = some (.own a) := by
  obtain ⟨d, z, ne, ob, mA, n, r, q⟩ := (show ObjOk P w H h a (.ins C dx fs) from hok a _ e)
  exact ⟨mA, ⟨ob, n, ne⟩, r, q, z, d⟩
end

structure Cls (K : PySem.W.Frag) (C : Addr) : Prop where
  pg : PySem.W.plainGet K C Str.empty = true
  hd : PySem.W.hasDictIn K C = true
  po : PySem.W.plainOver K C = true
  sa : PySem.W.findIn K (.ref C) "__setattr__" = some (some (.builtin "object.__setattr__"))
theorem Cls.get {K : PySem.W.Frag} {C : Addr} (c : Cls K C) (f : Str) : PySem.W.plainGet K C f = true := c.pg
section
variable {X : Cx} {pins : List (Addr × Obj)} {σ : St} {H : Hp} {s : Shared} {a C dx : Addr} {fs : List (Str × V)} {f : Str} {v : V} {A : Around} {E : Value → Shared → Prop}

end

section
variable {X : Cx} {o e value : Expr} {f : Str} {pos pos' tpos : Pos} {ta tv : TE}
end

section
variable {X : Cx} {pins : List (Addr × Obj)} {σ : St} {H : Hp} {s : Shared} {A : Around} {E : Value → Shared → Prop} {Q : Value → Shared → Prop} {c : Value} {b : Bool}
inductive TyOf (K : PySem.W.Frag) (H : Hp) : V → Value → Prop where
  | non : TyOf K H .non (.type "NoneType")
  | bl (x : Bool) : TyOf K H (.bl x) (.type "bool")
  | int (i : Int) : TyOf K H (.int i) (.type "int")
  | str (x : Str) : TyOf K H (.str x) (.type "str")
  | flt (x : UInt64) : TyOf K H (.flt x) (.type "float")
  | lst {a : Addr} {xs : List V} (e : H a = some (.lst xs)) : TyOf K H (.ref a) (.type "list")
  | frz {a : Addr} {o : Obj} {xs : List V} (e : H a = some (.frz o (.lst xs))) : TyOf K H (.ref a) (.type "list")
  | tup {a : Addr} {xs : List V} (e : H a = some (.tup xs)) : TyOf K H (.ref a) (.type "tuple")
  | dK {a : Addr} {kvs : List (Key × V)} (e : H a = some (.dK kvs)) : TyOf K H (.ref a) (.type "dict")
  | dT {a : Addr} {kvs : List (List Key × V)} (e : H a = some (.dT kvs)) : TyOf K H (.ref a) (.type "dict")
  | ins {a C dx : Addr} {fs : List (Str × V)} (e : H a = some (.ins C dx fs)) (cl : Cls K C) (ha : PySem.W.findIn K (.ref C) "__class__" = some (some (.builtin "object.__class__")))
      (hn : PySem.W.specialIn K (.builtin "object.__class__") "__get__" = some (some (.builtin "getset_descriptor.__get__"))) (htk : PySem.W.takesIn K (.builtin "object.__class__") = some true)
      (hm : PySem.W.mroIn K C (.type "object") = some true) : TyOf K H (.ref a) (.ref C)
theorem isinst_ok {x : V} {u t : Value} (I : Inv X pins σ H s) (rx : RelV x u) (ty : TyOf X.K H x t) (e : PySem.W.kitOne X.K t c = some b) (h : ∀ tk, Q (.bool b) { s with toks := tk }) :
    wpAny (model X.prog X.w) A (call (.builtin "isinstance") [u, c]) Q E s := by
  cases ty with
  | non => cases (show u = Value.none from rx); exact PySem.W.kia_one PySem.W.kitx_none I.kIn True.intro e (fun z => nomatch z) h
  | bl y => cases (show u = Value.bool y from rx); exact PySem.W.kia_one PySem.W.kitx_bool I.kIn True.intro e (fun z => nomatch z) h
  | int i => obtain ⟨t, q⟩ := (show ∃ t, u = Value.int i t from rx); cases q; exact PySem.W.kia_one PySem.W.kitx_int I.kIn True.intro e (fun z => nomatch z) h
  | str y => obtain ⟨t, q⟩ := (show ∃ t, u = Value.str y t from rx); cases q; exact PySem.W.kia_one PySem.W.kitx_str I.kIn True.intro e (fun z => nomatch z) h
  | flt y => obtain ⟨t, q⟩ := (show ∃ t, u = Value.float y t from rx); cases q; exact PySem.W.kia_one PySem.W.kitx_float I.kIn True.intro e (fun z => nomatch z) h
  | @lst a xs ea =>
    cases (show u = Value.ref a from rx)
    obtain ⟨_, _, n, _, h1⟩ := (show ObjOk X.prog X.w H s.heap a (.lst xs) from I.hok a _ ea)
    exact PySem.W.kia_one PySem.W.kitx_list I.kIn ⟨_, h1, rfl⟩ e (fun z => nomatch z) h
  | @frz a ob xs ea =>
    cases (show u = Value.ref a from rx)
    obtain ⟨_, _, _, n, _, h1⟩ := (show ObjOk X.prog X.w H s.heap a (.frz ob (.lst xs)) from I.hok a _ ea)
    exact PySem.W.kia_one PySem.W.kitx_list I.kIn ⟨_, h1, rfl⟩ e (fun z => nomatch z) h
  | @tup a xs ea =>
    cases (show u = Value.ref a from rx)
    obtain ⟨_, _, _, p⟩ := (show ObjOk X.prog X.w H s.heap a (.tup xs) from I.hok a _ ea)
    obtain ⟨o, h1, h2, _⟩ := p
    exact PySem.W.kia_one PySem.W.kitx_tuple I.kIn ⟨o, h1, h2⟩ e (fun z => nomatch z) h
  | @dK a kvs ea =>
    cases (show u = Value.ref a from rx)
    obtain ⟨_, _, vs, _, p⟩ := (show ObjOk X.prog X.w H s.heap a (.dK kvs) from I.hok a _ ea)
    obtain ⟨o, es, ep, h1, h2, _⟩ := p
    exact PySem.W.kia_one PySem.W.kitx_dict I.kIn ⟨o, h1, h2.1⟩ e (fun z => nomatch z) h
  | @dT a kvs ea =>
    cases (show u = Value.ref a from rx)
    obtain ⟨_, _, xs, _, o, es, ep, h1, h2, _⟩ := (show ObjOk X.prog X.w H s.heap a (.dT kvs) from I.hok a _ ea)
    exact PySem.W.kia_one PySem.W.kitx_dict I.kIn ⟨o, h1, h2.1⟩ e (fun z => nomatch z) h
  | @ins a C dx fs ea cl ha hn htk hm =>
    cases (show u = Value.ref a from rx)
    obtain ⟨mA, O, _⟩ := ins_get I.hok ea
    obtain ⟨od, J, _⟩ := O.look
    exact PySem.W.kia_one (PySem.W.kitx_own (cl.get _) cl.hd ha hn htk hm) I.kIn J e (fun z => nomatch z) h
end
end L2

namespace L2
open PySem PySem.Spec PyProof.Rows

structure Room (k : Nat) (A : Around) : Prop where
  hd : A.handled = none
  dp : A.depth + 3 * k + 5 < recursionLimit
  un : A.units + 16 * k + 200 < cLine
theorem Room.mono {j k : Nat} {A : Around} (r : Room k A) (h : j ≤ k) : Room j A := ⟨r.hd, by have := r.dp; omega, by have := r.un; omega⟩
theorem Room.deeper {k : Nat} {A : Around} (r : Room (k + 1) A) (env : Env) : Room k (A.deeper env) :=
  ⟨r.hd, by have := r.dp; show A.depth + 1 + 3 * k + 5 < _; omega, by have := r.un; show A.units + 3 + 16 * k + 200 < _; omega⟩
theorem Room.in1 {k : Nat} {A : Around} (r : Room (k + 1) A) : Room k A.in1 :=
  ⟨r.hd, by have := r.dp; show A.depth + 3 * k + 5 < _; omega, by have := r.un; show A.units + 1 + 16 * k + 200 < _; omega⟩
theorem Room.depth {k : Nat} {A : Around} (r : Room k A) : A.depth < recursionLimit := by have := r.dp; omega
theorem Room.units {k : Nat} {A : Around} (r : Room k A) : A.units + 64 < cLine := by have := r.un; omega
noncomputable def tNil : TA := fun _ H Q => Q [] H
noncomputable def tCons (ta : TE) (tr : TA) : TA := fun σ H Q => ta σ H fun x H1 => tr σ H1 fun xs H2 => Q (x :: xs) H2
section
variable {X : Cx} {e : Expr} {es : List Expr} {te : TE} {t : TA} {pos : Pos}
theorem pa_nil : PA X [] tNil := fun _ _ _ _ H Q I h => Calls.spliced_nil ⟨[], H, I, .nil, h⟩
theorem pa_cons (ha : PE X e te) (hr : PA X es t) (hs : starEach (e :: es) X.env = (false, eval e X.env) :: starEach es X.env := by rfl) : PA X (e :: es) (tCons te t) := by
  intro pos pins s σ H Q I h
  rw [hs]
  show wpAny _ _ (spliced ((false, eval e X.env) :: backTo pos (starEach es X.env))) _ _ s
  refine Calls.spliced_cons (thn (ha pins s σ H _ I h) fun u s1 zz => ?_)
  obtain ⟨x, H1, I1, r1, q1⟩ := zz
  exact thn (hr pos pins s1 σ H1 _ I1 q1) fun us s2 ⟨xs, H2, I2, r2, q2⟩ => ⟨x :: xs, H2, I2, .cons r1 r2, q2⟩

noncomputable def tTup (t : TA) : TE := fun σ H Q => t σ H fun xs H1 => xs.length ≤ sizeLine ∧ ∀ p, H1 p = none → Q (.ref p) (upd H1 p (.tup xs))
noncomputable def tLst (t : TA) : TE := fun σ H Q => t σ H fun xs H1 => xs.length ≤ sizeLine ∧ ∀ p, H1 p = none → Q (.ref p) (upd H1 p (.lst xs))
theorem pe_tup {x1} (h : PA X es t) : PE X (.Tuple es x1 pos) (tTup t) := by
  intro pins s σ H Q I hq
  refine wpAny_Tuple_spliced (thn (h pos pins s σ H _ I hq) fun us s1 ⟨xs, H1, I1, r, z, q⟩ => ⟨by rw [← r.length]; exact z, ?_⟩)
  have hf : H1 s1.heap.objs.size = none := I1.hok.fresh (Nat.le_refl _)
  refine ⟨.ref s1.heap.objs.size, upd H1 s1.heap.objs.size (.tup xs), I1.laid (t' := s1.toks) (fun b u e => Heap.get?_push_of_some _ e) (Nat.le_refl _) ?_, rfl, q _ hf⟩
  exact ⟨z, us, r, ⟨_, Heap.get?_push_size _ rfl, rfl, _, rfl⟩⟩
theorem pe_lst (h : PA X es t) : PE X (.List es pos) (tLst t) := by
  intro pins s σ H Q I hq
  refine wpAny_List_spliced (thn (h pos pins s σ H _ I hq) fun us s1 ⟨xs, H1, I1, r, z, q⟩ => ⟨by rw [← r.length]; exact z, ?_⟩)
  have hf : H1 s1.heap.objs.size = none := I1.hok.fresh (Nat.le_refl _)
  refine ⟨.ref s1.heap.objs.size, upd H1 s1.heap.objs.size (.lst xs), I1.laid (t' := s1.toks) (fun b u e => Heap.get?_push_of_some _ e) (Nat.le_refl _) ?_, rfl, q _ hf⟩
  exact ⟨z, us, 0, r, Heap.get?_push_size _ rfl⟩
end

noncomputable abbrev Sp := List V → Hp → VK → XK → Prop
noncomputable abbrev CXT := List Env → Hp → Shared → XK → Value → Shared → Prop

structure Env0 (P : Program) (w : World) (K : PySem.W.Frag) (mg : Str → Option Value) (base : Heap) (A : Around) (outer : List Env) (s : Shared) (H : Hp) : Prop where
  frames : A.frames = some outer
  mod : Mod K mg base
  bs : ∀ b o, base.get? b = some o → s.heap.get? b = some o ∧ H b = none
  bsz : base.objs.size ≤ s.heap.objs.size
  funs : s.heap.FunFrames base outer
  frf : ∀ b ∈ frs outer, H b = none
  hok : HOk P w H s.heap
  bare : AllBare s.gens
noncomputable def CE (outer : List Env) (P : Program) (w : World) (H : Hp) (s : Shared) (Q : VK) (u : Value) (s' : Shared) : Prop :=
  ∃ v H', s'.os = s.os ∧ AllBare s'.gens ∧ Un (frs outer) [] H H' s.heap s'.heap ∧ HOk P w H' s'.heap ∧ RelV v u ∧ Q v H'
noncomputable def CR (CX : CXT) (outer : List Env) (P : Program) (w : World) (H : Hp) (s : Shared) (Q : VK) (E : XK) (r : Result) (s' : Shared) : Prop :=
  match r with
  | .ok (.ret u) => CE outer P w H s Q u s'
  | .ok _ => False
  | .error e => CX outer H s E e s'
structure FnOk (P : Program) (w : World) (K : PySem.W.Frag) (mg : Str → Option Value) (base : Heap) (CX : CXT) (k : Nat) (f : Addr) (fd : FuncData) (ps : List Str) (sp : Sp) : Prop where
  len : ∀ vs H Q E, sp vs H Q E → vs.length = ps.length
  run : ∀ (A : Around) (outer : List Env) (s : Shared) (H : Hp) (args : Args) (us : List Value) (vs : List V) (Q : VK) (E : XK), Room k A → Env0 P w K mg base A outer s H → BindsTo s fd args (ps.zip us) → Vals vs us → sp vs H Q E →
    codeAny (model P w) A (.call (.ref f) args) (CR CX outer P w H s Q E) s
theorem FnOk.mono {P : Program} {w : World} {K : PySem.W.Frag} {mg : Str → Option Value} {base : Heap} {CX : CXT} {j k : Nat} {f : Addr} {fd : FuncData} {ps : List Str} {sp : Sp} (F : FnOk P w K mg base CX j f fd ps sp) (h : j ≤ k) :
    FnOk P w K mg base CX k f fd ps sp := ⟨F.len, fun A outer s H args us vs Q E hr => F.run A outer s H args us vs Q E (hr.mono h)⟩
theorem FnOk.imp {P : Program} {w : World} {K : PySem.W.Frag} {mg : Str → Option Value} {base : Heap} {CX : CXT} {k : Nat} {f : Addr} {fd : FuncData} {ps : List Str} {sp sp' : Sp} (F : FnOk P w K mg base CX k f fd ps sp)
    (h : ∀ vs H Q E, sp' vs H Q E → sp vs H Q E) : FnOk P w K mg base CX k f fd ps sp' :=
  ⟨fun vs H Q E q => F.len vs H Q E (h _ _ _ _ q), fun A outer s H args us vs Q E hr he hb hv hs => F.run A outer s H args us vs Q E hr he hb hv (h _ _ _ _ hs)⟩

theorem Env0.in1 {P : Program} {w : World} {K : PySem.W.Frag} {mg : Str → Option Value} {base : Heap} {A : Around} {outer : List Env} {s : Shared} {H : Hp} (e : Env0 P w K mg base A outer s H) :
    Env0 P w K mg base A.in1 outer s H := ⟨e.frames, e.mod, e.bs, e.bsz, e.funs, e.frf, e.hok, e.bare⟩

section
variable {X : Cx} {pins : List (Addr × Obj)} {σ : St} {H : Hp} {s s' : Shared}
theorem Inv.env0 (I : Inv X pins σ H s) : Env0 X.prog X.w X.K X.mg X.base X.A X.stack s H :=
  ⟨I.ok.frames, I.ok.mod, I.bs, Nat.le_trans I.ok.bsz I.sz, I.stack, I.stkFree, I.hok, I.bare⟩
theorem Inv.after {Q : VK} {u : Value} (I : Inv X pins σ H s) (h : CE X.stack X.prog X.w H s Q u s') : EP X pins σ Q u s' := by
  obtain ⟨v, H', os, bare, un, hok, r, q⟩ := h
  obtain ⟨hh, g, d, t, os'⟩ := s'
  obtain rfl : os' = s.os := os
  exact ⟨v, H', I.call (h' := hh) (g' := g) (d' := d) (t' := t) (ch := []) un hok bare (fun b z => absurd z (by simp)), r, q⟩
end

noncomputable def tCall (sp : Sp) (dvs : List V) (E : XK) (t : TA) : TE := fun σ H Q => t σ H fun vs H1 => sp (vs ++ dvs) H1 Q E
noncomputable def Binds (K : PySem.W.Frag) (fd : FuncData) (ps : List Str) (ds : List Value) : Prop :=
  ∀ (s : Shared) (us : List Value), K.In s.heap → (us ++ ds).length = ps.length → BindsTo s fd ⟨us, []⟩ (ps.zip (us ++ ds))
theorem Binds.all {K : PySem.W.Frag} {fd : FuncData} {ps : List Str} (h : ∀ us : List Value, us.length = ps.length → bindArgs fd ⟨us, []⟩ = pure (ps.zip us)) : Binds K fd ps [] := fun s us _ hl => by
  rw [List.append_nil] at hl ⊢
  exact .of_eq (h us hl)

noncomputable def Passes (CX : CXT) (X : Cx) (E : XK) : Prop := ∀ (pins : List (Addr × Obj)) (σ : St) (H : Hp) (s : Shared) (e : Value) (s' : Shared), Inv X pins σ H s → CX X.stack H s E e s' → X.xe e s'

section
variable {X : Cx} {CX : CXT} {k : Nat} {f C : Addr} {fd : FuncData} {ps : List Str} {sp : Sp} {dvs : List V} {ds : List Value} {E : XK} {x m : Str} {p pos apos : Pos} {e o : Expr} {es : List Expr} {ta : TE} {t : TA}

theorem run_fn {pins : List (Addr × Obj)} {σ : St} {H : Hp} {s : Shared} {Q : VK} {us : List Value} {vs : List V} (F : FnOk X.prog X.w X.K X.mg X.base CX k f fd ps sp) (hr : Room k X.A) (hb : Binds X.K fd ps ds) (hd : Vals dvs ds) (hx : Passes CX X E)
    (I : Inv X pins σ H s) (r : Vals vs us) (h : sp (vs ++ dvs) H Q E) : wpAny (model X.prog X.w) X.A (call (.ref f) us) (EP X pins σ Q) X.xe s := by
  have r2 : Vals (vs ++ dvs) (us ++ ds) := r.append hd
  have hl : (us ++ ds).length = ps.length := by rw [← r2.length]; exact F.len _ _ _ _ h
  refine wpAny_call (codeAny_mono (F.run X.A X.stack s H ⟨us, []⟩ (us ++ ds) (vs ++ dvs) Q E hr I.env0 (hb s us I.kIn hl) r2 h) fun r s' hq => ?_)
  cases r with
  | error e => exact hx pins σ H s e s' I hq
  | ok fl =>
    cases fl with
    | ret u => exact I.after hq
    | next => exact False.elim hq
    | brk => exact False.elim hq
    | cont => exact False.elim hq

theorem pe_call (F : FnOk X.prog X.w X.K X.mg X.base CX k f fd ps sp) (hr : Room k X.A) (hg : Gl X x) (hm : X.mg x = some (.ref f)) (hk : PySem.W.keepIn X.K (.ref f) = true) (hb : Binds X.K fd ps ds) (hd : Vals dvs ds) (hx : Passes CX X E)
    (ha : PA X (e :: es) t) (hdb : (x == ("__debug__" : Str)) = false := by decide) (he : starEach (e :: es) X.env = (false, eval e X.env) :: starEach es X.env := by rfl) (hpl : (backTo pos (starEach es X.env)).any (·.1) = false := by rfl) :
    PE X (.Call (.Name x p) (e :: es) [] pos) (tCall sp dvs E t) := by
  intro pins s σ H Q I h
  refine wpAny_Call_Name_kw (ld_glob I hg hm ?_ hdb)
  refine PySem.W.callWith_K (h₀ := X.base) I.ok.mod.kin hk (thn (ha pos pins s σ H _ I h) fun us s1 ⟨vs, H1, I1, r, q⟩ => ⟨I1.kIn, ?_⟩) he hpl
  exact run_fn F hr hb hd hx I1 r q
end

section
variable {X : Cx} {CX : CXT} {k : Nat} {f C : Addr} {fd : FuncData} {ps ks : List Str} {sp : Sp} {E : XK} {x m : Str} {p pos apos kpos : Pos} {e o : Expr} {es : List Expr} {kws : List Keyword} {te ta : TE} {t tk : TA} {nm : Option Str}
variable {g : List Value → List Value → List Value} {gV : List V → List V → List V}
end

structure FnScope (N P : List Str) (sc : Scope) : Prop where
  kind : sc.kind = .function
  co : sc.isCoroutine = false
  gen : sc.isGenerator = false
  nd : N.Nodup
  pre : N.take P.length = P
  par : ∀ x ∈ P, sc.names.lookup x = some .local ∨ sc.names.lookup x = some .cell
  nofree : ∀ y ∈ sc.names, y.2 ≠ .free

theorem bindL_out {kindOf : Str → Option NameKind} {x : Str} : ∀ {binds : List (Str × Value)} {m : Str → Option Value}, (∀ v, (x, v) ∉ binds) → bindL kindOf binds m x = m x
  | [], _, _ => rfl
  | (n, v) :: r, m, h => by
    unfold bindL
    rw [bindL_out fun w hw => h w (List.mem_cons_of_mem _ hw)]
    split
    · have : x ≠ n := by rintro rfl; exact h v List.mem_cons_self
      simp [this]
    · rfl
theorem bindC_out {kindOf : Str → Option NameKind} {x : Str} : ∀ {binds : List (Str × Value)} {m : Str → Option Value}, (∀ v, (x, v) ∉ binds) → bindC kindOf binds m x = m x
  | [], _, _ => rfl
  | (n, v) :: r, m, h => by
    unfold bindC
    rw [bindC_out fun w hw => h w (List.mem_cons_of_mem _ hw)]
    split
    · rfl
    · have : x ≠ n := by rintro rfl; exact h v List.mem_cons_self
      simp [this]
theorem bindL_get {kindOf : Str → Option NameKind} {x : Str} {v : Value} : ∀ {P : List Str} {vs : List Value} {i : Nat} {m : Str → Option Value}, P.Nodup → P[i]? = some x → vs[i]? = some v → kindOf x = some .local →
    bindL kindOf (P.zip vs) m x = some v
  | [], _, _, _, _, h, _, _ => by simp at h
  | _ :: _, [], _, _, _, _, h, _ => by simp at h
  | p :: P, w :: vs, 0, m, nd, h1, h2, hk => by
    simp at h1 h2; subst h1; subst h2
    show bindL kindOf ((p, w) :: P.zip vs) m p = _
    unfold bindL
    rw [bindL_out fun v hv => (List.nodup_cons.mp nd).1 (List.of_mem_zip hv).1, if_pos hk]
    simp
  | p :: P, w :: vs, i + 1, m, nd, h1, h2, hk => by
    show bindL kindOf ((p, w) :: P.zip vs) m x = _
    unfold bindL
    exact bindL_get (i := i) (List.nodup_cons.mp nd).2 (by simpa using h1) (by simpa using h2) hk
theorem bindC_get {kindOf : Str → Option NameKind} {x : Str} {v : Value} : ∀ {P : List Str} {vs : List Value} {i : Nat} {m : Str → Option Value}, P.Nodup → P[i]? = some x → vs[i]? = some v → kindOf x ≠ some .local →
    bindC kindOf (P.zip vs) m x = some v
  | [], _, _, _, _, h, _, _ => by simp at h
  | _ :: _, [], _, _, _, _, h, _ => by simp at h
  | p :: P, w :: vs, 0, m, nd, h1, h2, hk => by
    simp at h1 h2; subst h1; subst h2
    show bindC kindOf ((p, w) :: P.zip vs) m p = _
    unfold bindC
    rw [bindC_out fun v hv => (List.nodup_cons.mp nd).1 (List.of_mem_zip hv).1, if_neg hk]
    simp
  | p :: P, w :: vs, i + 1, m, nd, h1, h2, hk => by
    show bindC kindOf ((p, w) :: P.zip vs) m x = _
    unfold bindC
    exact bindC_get (i := i) (List.nodup_cons.mp nd).2 (by simpa using h1) (by simpa using h2) hk

noncomputable def start (N : List Str) (vs : List V) : St := vs.map some ++ List.replicate (N.length - vs.length) none

noncomputable def cxOf (CX : CXT) (P : Program) (w : World) (K : PySem.W.Frag) (mg : Str → Option Value) (base : Heap) (N : List Str) (qual : Str) (scope : Scope) (f : Addr) (cd : Value) (A : Around) (outer : List Env) (s : Shared) (H : Hp) (E : XK) : Cx where
  prog := P
  w := w
  K := K
  mg := mg
  base := base
  A := A.deeper (envOfC qual scope s.heap.objs.size f cd)
  N := N
  s₀ := s
  H₀ := H
  env := envOfC qual scope s.heap.objs.size f cd
  outer := outer
  stack := envOfC qual scope s.heap.objs.size f cd :: outer
  ex := []
  calm := true
  fn := fun _ => true
  pn := []
  xe := fun e s' => wpAny (model P w) (A.deeper (envOfC qual scope s.heap.objs.size f cd)) (leaving (envOfC qual scope s.heap.objs.size f cd) e) (fun _ s'' => CX outer H s E e s'') (fun e' s'' => CX outer H s E e' s'') s'

theorem cell_has {sc : Scope} {n : Nat} {x : Str} (h : sc.names.lookup x = some .cell) : ∃ c, (cellsFrom n sc.names []).lookup x = some c := by
  have q := PySem.W.cellsFrom_some sc.names n [] (.inl h)
  exact Option.isSome_iff_exists.mp q

theorem inv_start {CX : CXT} {P : Program} {w : World} {K : PySem.W.Frag} {mg : Str → Option Value} {base : Heap} {N ps : List Str} {qual : Str} {scope : Scope} {f : Addr} {cd : Value} {A : Around} {outer : List Env} {s s1 : Shared} {H : Hp} {E : XK} {us : List Value} {vs : List V}
    (S : FnScope N ps scope) (hd : A.handled = none) (e0 : Env0 P w K mg base A outer s H) (hl : vs.length = ps.length) (r : Vals vs us)
    (x : InCallC s s.heap.objs.size (bindL (envOfC qual scope s.heap.objs.size f cd).kindOf (ps.zip us) fun _ => none) (cellsFrom (s.heap.objs.size + 1) scope.names []) (bindC (envOfC qual scope s.heap.objs.size f cd).kindOf (ps.zip us) fun _ => none) s1) :
    Inv (cxOf CX P w K mg base N qual scope f cd A outer s H E) [] (start N vs) H s1 := by
  have hpl : ps.length ≤ N.length := by have := congrArg List.length S.pre; rw [List.length_take] at this; omega
  obtain ⟨h1, tk, rfl, hk⟩ := x.done
  have noA : ∀ b : Addr, b ∉ (cxOf CX P w K mg base N qual scope f cd A outer s H E).ex := fun b z => absurd (show b ∈ ([] : List Addr) from z) (by simp)
  refine ⟨⟨e0.mod, S.kind, rfl, rfl, Nat.le_refl _, fun y z c h1 h2 => ?_, fun y hy => ?_, fun y c _ h => ?_, fun _ => hd, Around.frames_deeper e0.frames, .inr ⟨rfl, rfl⟩, fun b z => absurd z (noA b), e0.bs, e0.bsz, fun b _ _ => noA b, fun b z => absurd z (noA b), e0.funs, e0.frf⟩,
    rfl, e0.bare, Un.kept hk, ⟨_, x.toInCall.ns, fun i y v h1 h2 h3 => ?_⟩, fun y c h => ⟨_, x.cell y c h⟩, e0.hok.fresh (Nat.le_refl _), fun y c h => ?_, fun p hp => absurd (show p ∈ ([] : List (Addr × Obj)) from hp) (by simp), e0.hok.kept hk, ?_⟩
  · exact name_of_addr x.apart (PySem.mem_of_lookup h1) (PySem.mem_of_lookup h2)
  · have hy : scope.names.lookup y = some .cell ∨ scope.names.lookup y = some .free := hy
    rcases hy with hy | hy
    · exact cell_has hy
    · exact absurd rfl (S.nofree _ (PySem.mem_of_lookup hy))
  · exact Nat.le_of_lt (x.above y c (PySem.mem_of_lookup h))
  · have hi : i < vs.length := by
      unfold start at h2
      by_cases hi : i < vs.length
      · exact hi
      · rw [List.getElem?_append_right (by simpa using hi)] at h2
        rw [List.getElem?_replicate] at h2
        split at h2 <;> cases h2
    have ha : vs[i]? = some v := by
      unfold start at h2
      rw [List.getElem?_append_left (by simpa using hi), List.getElem?_map] at h2
      cases e : vs[i]? with
      | none => rw [e] at h2; cases h2
      | some a => rw [e] at h2; cases h2; rfl
    obtain ⟨u, hu, rv⟩ := r.get ha
    have hp : ps[i]? = some y := by
      rw [← S.pre, List.getElem?_take_of_lt (by omega)]; exact h1
    have ndP : ps.Nodup := by rw [← S.pre]; exact S.nd.sublist (List.take_sublist _ _)
    refine ⟨u, rv, ?_⟩
    rcases S.par y (List.mem_of_getElem? hp) with k | k
    · exact .inl ⟨k, bindL_get ndP hp hu k⟩
    · obtain ⟨c, e⟩ := cell_has (n := s.heap.objs.size + 1) k
      refine .inr ⟨.inl k, c, e, ?_⟩
      have q := x.cell y c e
      rw [bindC_get ndP hp hu (by show scope.names.lookup y ≠ _; rw [k]; decide)] at q
      exact q
  · exact e0.hok.fresh (Nat.le_of_lt (x.above y c (PySem.mem_of_lookup h)))
  · unfold start
    show _ = N.length
    rw [List.length_append, List.length_map, List.length_replicate]
    omega

theorem fn_of {CX : CXT} {P : Program} {w : World} {K : PySem.W.Frag} {mg : Str → Option Value} {base : Heap} {k : Nat} {f : Addr} {name qual : Str} {params : Arguments} {body : List Stmt} {scope : Scope} {dV kV doc pm cdv ct oc : Value} {an od : Option Addr}
    {osl : Array (Option Value)} {N ps : List Str} {sp : Sp} (lk : K.lookup f = some ⟨oc, od, .func (PySem.W.fnOf name qual params body scope dV kV doc pm an cdv ct), osl⟩) (hcd : PySem.W.codeIn K cdv qual = true) (S : FnScope N ps scope)
    (len : ∀ vs H Q E, sp vs H Q E → vs.length = ps.length)
    (hbody : ∀ (A : Around) (outer : List Env) (s : Shared) (H : Hp) (vs : List V) (Q : VK) (E : XK), Room k (A.deeper (envOfC qual scope s.heap.objs.size f cdv)) → sp vs H Q E →
      ∃ t, PSs (cxOf CX P w K mg base N qual scope f cdv A outer s H E) body t ∧ t { nx := fun _ H' => Q .non H', rt := Q } (start N vs) H) :
    FnOk P w K mg base CX (k + 1) f (PySem.W.fnOf name qual params body scope dV kV doc pm an cdv ct) ps sp := by
  refine ⟨len, fun A outer s H args us vs Q E hr e0 hb r hsp => ?_⟩
  have hl := len _ _ _ _ hsp
  have KX : K.In s.heap := e0.mod.kin.keeps fun b o e => (e0.bs b o e).1
  have lim : s.heap.NoLimit := e0.mod.nolimit.keeps fun b o e => (e0.bs b o e).1
  have hkind : ∀ y ∈ ps.zip us, scope.names.lookup y.1 = some .local ∨ (scope.names.lookup y.1 = some .cell ∧ ((cellsFrom (s.heap.objs.size + 1) scope.names []).lookup y.1).isSome = true) := fun ⟨n, v⟩ hy => by
    rcases S.par n (List.of_mem_zip hy).1 with q | q
    · exact .inl q
    · exact .inr ⟨q, PySem.W.cellsFrom_some _ _ _ (.inl q)⟩
  refine codeAny_call_function hr.depth (KX _ _ lk) rfl S.co S.gen rfl (PySem.W.codeRec_of KX hcd) (hb _ _ _ _ ?_)
  refine wpAny_newFunctionEnv_cells S.kind hkind fun env he s1 x => ?_
  subst he
  refine ⟨lim.keeps x.toInCall.keep, codeAny_func ?_⟩
  obtain ⟨t, ht, hq⟩ := hbody A outer s H vs Q E (hr.deeper _) hsp
  have I : Inv (cxOf CX P w K mg base N qual scope f cdv A outer s H E) [] (start N vs) H s1 := inv_start S hr.hd e0 hl r x
  refine wpAny_mono (ht [] s1 (start N vs) H _ I hq) (fun fl s' hs => ?_) fun e s' hs => hs
  have fin : ∀ {σ' : St} {H' : Hp} {v : V} {u : Value}, Inv (cxOf CX P w K mg base N qual scope f cdv A outer s H E) [] σ' H' s' → RelV v u → Q v H' → CE outer P w H s Q u s' :=
    fun {σ' H' v u} J rv q => ⟨v, H', J.os, J.bare, J.base, J.hok, rv, q⟩
  cases fl with
  | ret u =>
    obtain ⟨v, σ', H', J, rv, q⟩ := hs
    exact fin J rv q
  | next =>
    obtain ⟨σ', H', J, q⟩ := hs
    exact fin (v := V.non) (u := Value.none) J rfl q
  | brk =>
    obtain ⟨_, _, _, q⟩ := hs
    exact False.elim q
  | cont =>
    obtain ⟨_, _, _, q⟩ := hs
    exact False.elim q
end L2

namespace L2
open PySem PySem.Spec PyProof.Rows
section
variable {X : Cx} {x : Str} {p pos : Pos} {e : Expr} {es : List Expr} {t : TA} {id T : String} {r : List V → Hp → VK → Prop}

noncomputable def tCB (r : List V → Hp → VK → Prop) (t : TA) : TE := fun σ H Q => t σ H fun vs H1 => r vs H1 Q
theorem pe_callB (hc : CallR X (.builtin id) r) (hg : Gl X x) (hm : X.mg x = none) (hv : bootBuiltins x = some (.builtin id)) (ha : PA X (e :: es) t) (hn : x ≠ "__name__" := by decide) (hdb : (x == ("__debug__" : Str)) = false := by decide)
    (he : starEach (e :: es) X.env = (false, eval e X.env) :: starEach es X.env := by rfl) (hpl : (backTo pos (starEach es X.env)).any (·.1) = false := by rfl) : PE X (.Call (.Name x p) (e :: es) [] pos) (tCB r t) := by
  intro pins s σ H Q I h
  refine wpAny_Call_Name_kw (ld_blt I hg hm hv ?_ hn hdb)
  exact PyProof.Rows.callWith_builtin1 (thn (ha pos pins s σ H _ I h) fun us s1 ⟨vs, H1, I1, r1, q1⟩ => hc pins s1 σ H1 vs us Q I1 r1 q1) he hpl
theorem pe_callTy (hc : CallR X (.type T) r) (hg : Gl X x) (hm : X.mg x = none) (hv : bootBuiltins x = some (.type T)) (ha : PA X (e :: es) t) (hn : x ≠ "__name__" := by decide) (hdb : (x == ("__debug__" : Str)) = false := by decide)
    (he : starEach (e :: es) X.env = (false, eval e X.env) :: starEach es X.env := by rfl) (hpl : (backTo pos (starEach es X.env)).any (·.1) = false := by rfl) : PE X (.Call (.Name x p) (e :: es) [] pos) (tCB r t) := by
  intro pins s σ H Q I h
  refine wpAny_Call_Name_kw (ld_blt I hg hm hv ?_ hn hdb)
  exact PyProof.Rows.callWith_type1 (thn (ha pos pins s σ H _ I h) fun us s1 ⟨vs, H1, I1, r1, q1⟩ => hc pins s1 σ H1 vs us Q I1 r1 q1) he hpl
end
end L2

namespace HT
open PySem PyProof.Rows

section
open PySem.SeqAt
open PySem.AutoSeq1 (wpAny_loadPart')
open PySem.MeetsSeq PySem.MeetsSeq2 PySem.MeetsSeq3

end

section
variable {prog : Program} {w : World} {A : Around} {E : Value → Shared → Prop} {s : Shared}

noncomputable def sIx (n d : Nat) : Option Int → Nat
  | none => d
  | some v => if v < 0 then (v + (n : Int)).toNat else min v.toNat n
theorem sIx_le (n d : Nat) (hd : d ≤ n) (o : Option Int) : sIx n d o ≤ n := by
  cases o with
  | none => exact hd
  | some v =>
    show (if v < 0 then (v + (n : Int)).toNat else min v.toNat n) ≤ n
    by_cases hv : v < 0
    · rw [if_pos hv]; omega
    · rw [if_neg hv]; exact Nat.min_le_right _ _
theorem clip_eq (v : Int) (n d : Nat) : (if v < 0 then max (v + (n : Int)) 0 else min v (n : Int)) = ((sIx n d (some v) : Nat) : Int) := by
  show (if v < 0 then max (v + (n : Int)) 0 else min v (n : Int)) = (((if v < 0 then (v + (n : Int)).toNat else min v.toNat n) : Nat) : Int)
  by_cases hv : v < 0
  · simp only [if_pos hv]; omega
  · simp only [if_neg hv]; omega
theorem adjust_gen (lo hi : Option Int) (n : Nat) : Builtin.Slice.sliceAdjust lo hi 1 (n : Int) = (((sIx n 0 lo : Nat) : Int), ((sIx n n hi : Nat) : Int)) := by
  have h1 : ¬ ((1 : Int) < 0) := by omega
  unfold Builtin.Slice.sliceAdjust
  simp only [h1, if_false]
  refine Prod.ext ?_ ?_
  · cases lo with
    | none => rfl
    | some v => exact clip_eq v n 0
  · cases hi with
    | none => rfl
    | some v => exact clip_eq v n n
theorem places_gen (i j : Nat) : Builtin.Slice.slicePlaces (i : Int) (j : Int) 1 = j - i := by
  unfold Builtin.Slice.slicePlaces
  have h1 : (1 : Int) > 0 := by omega
  simp only [h1, if_true, Int.ediv_one]
  split <;> omega
theorem slicePart_ {v : Value} {o : Option Int} {Q : Option Int → Shared → Prop} (p : IsPart v o) (h : Q o s) : wpAny (model prog w) A (Builtin.Slice.slicePartIndex v) Q E s := by
  cases p with
  | none => exact slicePart_none h
  | int i t => exact slicePart_int h
theorem sliceApplied_gen {sl : Addr} {vl vu : Value} {lo hi : Option Int} {n : Nat} {Q : Int × Int × Nat → Shared → Prop} (hs : s.heap.IsSliceOf sl vl vu .none) (pl : IsPart vl lo) (pu : IsPart vu hi)
    (h : Q (((sIx n 0 lo : Nat) : Int), 1, sIx n n hi - sIx n 0 lo) s) : wpAny (model prog w) A (Builtin.Slice.sliceApplied (.ref sl) (pure (n : Int))) Q E s := by
  obtain ⟨os, hos, hcs, hds⟩ := id hs
  unfold Builtin.Slice.sliceApplied Builtin.Slice.sliceFields
  refine wpAny_bind (wpAny_bind (wpAny_field hos hds (x := vl) rfl (wpAny_bind (wpAny_field hos hds (x := vu) rfl (wpAny_bind (wpAny_field hos hds (x := .none) rfl (wpAny_pure ?_)))))))
  refine wpAny_bind (slicePart_none ?_)
  show wpAny _ _ (if ((1 : Int) == 0) = true then _ else _) _ _ s
  rw [if_neg (by decide)]
  refine wpAny_bind (slicePart_ pl (wpAny_bind (slicePart_ pu (wpAny_bind (wpAny_pure ?_)))))
  show wpAny _ _ (match Builtin.Slice.sliceAdjust lo hi 1 (n : Int) with | (lo, hi) => pure (lo, (1 : Int), Builtin.Slice.slicePlaces lo hi 1)) _ _ s
  rw [adjust_gen lo hi n]
  show wpAny _ _ (pure (((sIx n 0 lo : Nat) : Int), (1 : Int), Builtin.Slice.slicePlaces ((sIx n 0 lo : Nat) : Int) ((sIx n n hi : Nat) : Int) 1)) _ _ s
  rw [places_gen]
  exact wpAny_pure h
theorem pick_gen (xs : Array Value) (i k : Nat) : ((List.range k).filterMap fun (m : Nat) => xs[((i : Int) + (m : Int) * 1).toNat]?).toArray = ((xs.toList.drop i).take k).toArray := by
  have e : (fun (m : Nat) => xs[((i : Int) + (m : Int) * 1).toNat]?) = fun m => xs[i + m]? := by
    funext m
    have : ((i : Int) + (m : Int) * 1).toNat = i + m := by omega
    rw [this]
  rw [e]
  have := pick_run xs i k
  rw [List.filterMap_map] at this
  have e2 : ((fun x => xs[x]?) ∘ fun x => i + x) = fun m => xs[i + m]? := rfl
  rw [e2] at this
  rw [this]

theorem getItem_tuple_cut {t sl : Addr} {items : Array Value} {vl vu : Value} {lo hi : Option Int} {Q : Value → Shared → Prop} (ht : IsTup s.heap t items) (hs : s.heap.IsSliceOf sl vl vu .none) (pl : IsPart vl lo) (pu : IsPart vu hi)
    (hw : ¬ (sIx items.size 0 lo = 0 ∧ sIx items.size items.size hi = items.size))
    (h : Q (.ref s.heap.objs.size) { s with heap := s.heap.push { cls := .type "tuple", data := .seq ((items.toList.drop (sIx items.size 0 lo)).take (sIx items.size items.size hi - sIx items.size 0 lo)).toArray } })
    (hsz : items.size ≤ sizeLine) : wpAny (model prog w) A (getItem (.ref t) (.ref sl)) Q E s := by
  have htake : sizeOk (.seq ((items.toList.drop (sIx items.size 0 lo)).take (sIx items.size items.size hi - sIx items.size 0 lo)).toArray) := by
    show ((items.toList.drop (sIx items.size 0 lo)).take (sIx items.size items.size hi - sIx items.size 0 lo)).toArray.size ≤ sizeLine
    rw [List.size_toArray, List.length_take, List.length_drop, Array.length_toList]
    omega
  have hj : sIx items.size items.size hi ≤ items.size := sIx_le _ _ (Nat.le_refl _) hi
  obtain ⟨os, hos, hcs, hds⟩ := id hs
  have hTs : s.TypeIs (.ref sl) "slice" := ⟨os, hos, hcs⟩
  unfold getItem
  try with_reducible refine wpAny_holding ?_
  first | refine wpAny_bind (wpAny_pure ?_) | skip
  refine wpAny_bind (wpAny_sequenceKey ht.typeIs (by decide) ?_)
  refine wpAny_bind (wpAny_callSpecial?_slot (name := Str.ofString "__getitem__") ht.typeIs PyProof.Rows.slot_tuple_getitem
    (wpAny_call_entry PyProof.Rows.slot_tuple_getitem ht.typeIs entry_tuple_getitem ?_ (args_tuple_getitem _ _)))
  show wpAny _ _ (Builtin.Tuple.tupleItemsOf (.ref t) >>= _) _ _ s
  refine wpAny_bind (tupleItemsOf_ ht ?_)
  refine wpAny_bind (wpAny_typeOf hTs ?_)
  rw [if_pos (by decide)]
  refine wpAny_bind (sliceApplied_gen hs pl pu ?_)
  have hno : ¬ ((((sIx items.size 0 lo : Nat) : Int) == 0 && (1 : Int) == 1 && (sIx items.size items.size hi - sIx items.size 0 lo) == items.size) = true) := by
    intro q
    rw [Bool.and_eq_true, Bool.and_eq_true] at q
    have q1 : ((sIx items.size 0 lo : Nat) : Int) = 0 := eq_of_beq q.1.1
    have q2 : sIx items.size items.size hi - sIx items.size 0 lo = items.size := eq_of_beq q.2
    exact hw ⟨by omega, by omega⟩
  show wpAny _ _ (if (((sIx items.size 0 lo : Nat) : Int) == 0 && (1 : Int) == 1 && (sIx items.size items.size hi - sIx items.size 0 lo) == items.size) = true then _ else _) _ _ s
  rw [if_neg hno, pick_gen]
  first
    | exact wpAny_bind (m := Builtin.Tuple.tupleExact _) (wpAny_newObj_type (wpAny_pure ⟨_, rfl, wpAny_pure h⟩) htake)
    | exact wpAny_bind (m := Builtin.Tuple.tupleExact _) (wpAny_newObj_type (wpAny_bind (wpAny_pure (wpAny_pure ⟨_, rfl, wpAny_pure h⟩))) htake)
    | exact wpAny_bind (wpAny_bind (m := Builtin.Tuple.tupleExact _) (wpAny_newObj_type (wpAny_pure (wpAny_pure ⟨_, rfl, wpAny_pure h⟩)) htake))
    | exact wpAny_bind (wpAny_bind (m := Builtin.Tuple.tupleExact _) (wpAny_newObj_type (wpAny_pure ⟨_, rfl, wpAny_pure h⟩) htake))
end
end HT

namespace L2
open PySem PySem.Spec PyProof.Rows

noncomputable abbrev TO := St → Hp → (Option Int → Hp → Prop) → Prop
noncomputable def PO (X : Cx) (e : Option Expr) (t : TO) : Prop :=
  ∀ (pins : List (Addr × Obj)) (s : Shared) (σ : St) (H : Hp) (Q : Option Int → Hp → Prop), Inv X pins σ H s → t σ H Q →
    wpAny (model X.prog X.w) X.A (evalPart e X.env) (fun u s' => ∃ o H', Inv X pins σ H' s' ∧ IsPart u o ∧ Q o H') X.xe s
noncomputable def tNoPart : TO := fun _ H Q => Q none H
noncomputable def tPart (t : TE) : TO := fun σ H Q => t σ H fun x H1 => ∃ i, x = .int i ∧ Q (some i) H1

section
variable {X : Cx} {e : Expr} {te : TE} {lo hi : Option Expr} {tl th : TO} {pos p2 : Pos}

theorem po_none : PO X none tNoPart := by
  intro pins s σ H Q I h
  rw [evalPart_none]
  exact wpAny_pure ⟨none, H, I, .none, h⟩
theorem po_some (h : PE X e te) : PO X (some e) (tPart te) := by
  intro pins s σ H Q I hw
  rw [evalPart_some]
  refine thn (h pins s σ H _ I hw) fun u s1 zz => ?_
  obtain ⟨x, H1, I1, r1, q1⟩ := zz
  obtain ⟨i, rfl, q⟩ := q1
  obtain ⟨t, rfl⟩ := r1
  exact ⟨some i, H1, I1, .int i t, q⟩

noncomputable def SlR (X : Cx) (r : V → Option Int → Option Int → Hp → VK → Prop) : Prop :=
  ∀ (pins : List (Addr × Obj)) (s : Shared) (σ : St) (H : Hp) (x : V) (v vl vu : Value) (lo hi : Option Int) (sl : Addr) (Q : VK), Inv X pins σ H s → RelV x v → s.heap.IsSliceOf sl vl vu .none → IsPart vl lo → IsPart vu hi → r x lo hi H Q →
    ∃ T id, typeLookup (.type T) "__getitem__" = pure (some (.builtin id)) ∧ s.TypeIs v T ∧ wpAny (model X.prog X.w) X.A (getItem v (.ref sl)) (EP X pins σ Q) X.xe s
theorem SlR.or {r r' : V → Option Int → Option Int → Hp → VK → Prop} (h : SlR X r) (h' : SlR X r') : SlR X (fun x lo hi H Q => r x lo hi H Q ∨ r' x lo hi H Q) := by
  intro pins s σ H x v vl vu lo hi sl Q I rx hs pl pu q
  rcases q with q | q
  · exact h pins s σ H x v vl vu lo hi sl Q I rx hs pl pu q
  · exact h' pins s σ H x v vl vu lo hi sl Q I rx hs pl pu q
noncomputable def tSl (r : V → Option Int → Option Int → Hp → VK → Prop) (te : TE) (tl th : TO) : TE := fun σ H Q => te σ H fun x H1 => tl σ H1 fun l H2 => th σ H2 fun u H3 => r x l u H3 Q
theorem pe_slice {r : V → Option Int → Option Int → Hp → VK → Prop} (hr : SlR X r) (he : PE X e te) (hl : PO X lo tl) (hu : PO X hi th) : PE X (.Subscript e (.Slice lo hi none p2) pos) (tSl r te tl th) := by
  intro pins s σ H Q I h
  refine Subscript_ (thn (he pins s σ H _ I h) fun v s1 zz => ?_)
  obtain ⟨x, H1, I1, r1, q1⟩ := zz
  refine wpAny_Slice (thn (hl pins s1 σ H1 _ I1 q1) fun vl s2 ⟨l, H2, I2, pl, q2⟩ => thn (hu pins s2 σ H2 _ I2 q2) fun vu s3 zz => ?_)
  obtain ⟨u, H3, I3, pu, q3⟩ := zz
  rw [evalPart_none]
  refine wpAny_pure ?_
  have I4 : Inv X pins σ H3 { s3 with heap := s3.heap.push { cls := .type "slice", data := .fields #[vl, vu, .none] } } := I3.kept (t' := s3.toks) fun b ob q => Heap.get?_push_of_some _ q
  obtain ⟨T, id, hT, ht, hg⟩ := hr pins { s3 with heap := s3.heap.push { cls := .type "slice", data := .fields #[vl, vu, .none] } } σ H3 x v vl vu l u s3.heap.objs.size Q I4 r1 (Heap.IsSliceOf.new ..) pl pu q3
  show wpAny (model X.prog X.w) X.A (subscriptTail e (.Slice lo hi none p2) v (.ref s3.heap.objs.size)) (EP X pins σ Q) X.xe { s3 with heap := s3.heap.push { cls := .type "slice", data := .fields #[vl, vu, .none] } }
  exact tail_any (ops := [.ref s3.heap.objs.size, v]) ht hT hg (by with_unfolding_all rfl)

noncomputable def cutV (xs : List V) (lo hi : Option Int) : List V := (xs.drop (HT.sIx xs.length 0 lo)).take (HT.sIx xs.length xs.length hi - HT.sIx xs.length 0 lo)
theorem cutV_length (xs : List V) (lo hi : Option Int) : (cutV xs lo hi).length ≤ xs.length := by
  unfold cutV
  rw [List.length_take, List.length_drop]
  omega
noncomputable def rSlT (K : PySem.W.Frag) : V → Option Int → Option Int → Hp → VK → Prop := fun x lo hi H Q => ∃ a xs, x = .ref a ∧ SqT K H a xs ∧
  ¬ (HT.sIx xs.length 0 lo = 0 ∧ HT.sIx xs.length xs.length hi = xs.length) ∧ ∀ p, H p = none → Q (.ref p) (upd H p (.tup (cutV xs lo hi)))
theorem sl_tup : SlR X (rSlT X.K) := by
  intro pins s σ H x v vl vu lo hi sl Q I rx hs pl pu h
  obtain ⟨a, xs, rfl, hx, hw, q⟩ := h
  cases rx
  obtain ⟨its, r, ht, hz⟩ := I.tuple hx
  have hlen : its.toArray.size = xs.length := by rw [List.size_toArray]; exact r.length.symm
  refine ⟨"tuple", _, PyProof.Rows.slot_tuple_getitem.lookup, ht.typeIs, ?_⟩
  refine HT.getItem_tuple_cut ht hs pl pu (by rw [hlen]; exact hw) ?_ (by rw [hlen]; exact hz)
  rw [hlen]
  refine ⟨.ref s.heap.objs.size, _, I.laid (t' := s.toks) (o := .tup (cutV xs lo hi)) (fun b ob q => Heap.get?_push_of_some _ q) (Nat.le_refl _) ?_, rfl, q _ (I.hok.fresh (Nat.le_refl _))⟩
  exact ⟨Nat.le_trans (cutV_length xs lo hi) hz, _, (r.drop (HT.sIx xs.length 0 lo)).take (HT.sIx xs.length xs.length hi - HT.sIx xs.length 0 lo), IsTup.new _ _⟩

end
end L2

namespace L2
open PySem PySem.Spec PyProof.Rows

noncomputable def ixN (n : Nat) (i : Int) : Option Nat := if 0 ≤ i then (if i < n then some i.toNat else none) else if -(n : Int) ≤ i then some (i + n).toNat else none
noncomputable def atI {α : Type} (xs : List α) (i : Int) : Option α := (ixN xs.length i).bind fun j => xs[j]?
theorem ixN_seq {n : Nat} {i : Int} {j : Nat} (h : ixN n i = some j) : seqIndex? i n = some j ∧ j < n ∧ -(n : Int) ≤ i ∧ i < n := by
  unfold ixN at h
  by_cases h0 : 0 ≤ i
  · rw [if_pos h0] at h
    by_cases h1 : i < n
    · rw [if_pos h1] at h
      have e : i.toNat = j := Option.some.inj h
      exact ⟨by rw [seqIndex_of h0 h1, e], by omega, by omega, h1⟩
    · rw [if_neg h1] at h; cases h
  · rw [if_neg h0] at h
    by_cases h1 : -(n : Int) ≤ i
    · rw [if_pos h1] at h
      have e : (i + n).toNat = j := Option.some.inj h
      exact ⟨by rw [seqIndex_neg (by omega) h1, e], by omega, h1, by omega⟩
    · rw [if_neg h1] at h; cases h
theorem atI_get {α : Type} {xs : List α} {i : Int} {v : α} (h : atI xs i = some v) : ∃ j, seqIndex? i xs.length = some j ∧ xs[j]? = some v ∧ j < xs.length ∧ -(xs.length : Int) ≤ i ∧ i < xs.length := by
  unfold atI at h
  cases e : ixN xs.length i with
  | none => rw [e] at h; cases h
  | some j =>
    rw [e] at h
    obtain ⟨h1, h2, h3, h4⟩ := ixN_seq e
    exact ⟨j, h1, h, h2, h3, h4⟩
theorem atI_last {α : Type} (xs : List α) (v : α) : atI (xs ++ [v]) (-1) = some v := by
  have hl : (xs ++ [v]).length = xs.length + 1 := by simp
  have e : ixN (xs ++ [v]).length (-1) = some xs.length := by
    unfold ixN
    rw [hl, if_neg (by decide), if_pos (by omega)]
    congr 1
    omega
  unfold atI
  rw [e]
  show (xs ++ [v])[xs.length]? = some v
  simp

noncomputable def PlainIx (b : Expr) : Prop := ∀ o i, subscripted b false o i = operate [o, i] (getItem o i)
noncomputable def IxR (X : Cx) (r : R2) : Prop :=
  ∀ (value slice : Expr) (pins : List (Addr × Obj)) (s : Shared) (σ : St) (H : Hp) (x y : V) (v u : Value) (Q : VK), Inv X pins σ H s → RelV x v → RelV y u → r x y H Q →
    subscripted slice false v u = operate [v, u] (getItem v u) → wpAny (model X.prog X.w) X.A (subscriptTail value slice v u) (EP X pins σ Q) X.xe s
noncomputable def MtR (X : Cx) (id : String) (r : V → List V → Hp → VK → Prop) : Prop :=
  ∀ (pins : List (Addr × Obj)) (s : Shared) (σ : St) (H : Hp) (x : V) (xs : List V) (v : Value) (us : List Value) (Q : VK), Inv X pins σ H s → RelV x v → Vals xs us → r x xs H Q →
    wpAny (model X.prog X.w) X.A (call (.builtin id) (v :: us)) (EP X pins σ Q) X.xe s
section
variable {X : Cx} {a b : Expr} {ta tb : TE} {pos : Pos}
theorem IxR.or {r r' : R2} (h : IxR X r) (h' : IxR X r') : IxR X (fun x y H Q => r x y H Q ∨ r' x y H Q) := by
  intro value slice pins s σ H x y v u Q I rx ry q hs
  rcases q with q | q
  · exact h value slice pins s σ H x y v u Q I rx ry q hs
  · exact h' value slice pins s σ H x y v u Q I rx ry q hs
theorem MtR.or {id : String} {r r' : V → List V → Hp → VK → Prop} (h : MtR X id r) (h' : MtR X id r') : MtR X id (fun x xs H Q => r x xs H Q ∨ r' x xs H Q) := by
  intro pins s σ H x xs v us Q I rx rs q
  rcases q with q | q
  · exact h pins s σ H x xs v us Q I rx rs q
  · exact h' pins s σ H x xs v us Q I rx rs q
theorem pe_ix {r : R2} (hr : IxR X r) (ha : PE X a ta) (hb : PE X b tb) (hs : PlainIx b) : PE X (.Subscript a b pos) (tOp r ta tb) := by
  intro pins s σ H Q I h
  exact Subscript_ (binT ha hb I h fun v u s2 x y H2 I2 rx ry q => hr a b pins s2 σ H2 x y v u Q I2 rx ry q (hs _ _))

noncomputable def rIxL (K : PySem.W.Frag) : R2 := fun x y H Q => ∃ p xs i v, x = .ref p ∧ y = .int i ∧ SqL K H p xs ∧ atI xs i = some v ∧ Q v H
noncomputable def rIxT (K : PySem.W.Frag) : R2 := fun x y H Q => ∃ p xs i v, x = .ref p ∧ y = .int i ∧ SqT K H p xs ∧ atI xs i = some v ∧ Q v H
theorem ix_list : IxR X (rIxL X.K) := by
  intro value slice pins s σ H x y v u Q I rx ry h hs
  obtain ⟨p, xs, i, z, rfl, rfl, hq, he, q⟩ := h
  cases rx
  obtain ⟨t, rfl⟩ := ry
  obtain ⟨its, r, pl, hz⟩ := I.list hq
  obtain ⟨j, h1, h2, h3, h4, h5⟩ := atI_get he
  obtain ⟨w, ew, rw'⟩ := r.get h2
  have hl := r.length
  have hn := line63
  have fin : EP X pins σ Q w s := ⟨z, H, I, rw', q⟩
  by_cases h0 : 0 ≤ i
  · have hj : i.toNat = j := by
      rw [seqIndex_of h0 h5] at h1
      exact Option.some.inj h1
    exact item_listR pl.isList h0 (by omega) (by rw [hj]; simpa using ew) fin hs
  · have hj : (i + (its.toArray.size : Int)).toNat = j := by
      rw [seqIndex_neg (by omega) h4] at h1
      rw [List.size_toArray, ← hl]
      exact Option.some.inj h1
    exact subscriptTail_builtinR (x := w) pl.isList.typeIs slot_list_getitem.lookup
      (wpAny_getItem_list_neg (Q := fun r s' => r = w ∧ EP X pins σ Q r s') pl.isList (by omega) (by rw [List.size_toArray] <;> omega) (by omega) (by rw [hj]; simpa using ew) ⟨rfl, fin⟩) hs
theorem ix_tup : IxR X (rIxT X.K) := by
  intro value slice pins s σ H x y v u Q I rx ry h hs
  obtain ⟨p, xs, i, z, rfl, rfl, hq, he, q⟩ := h
  cases rx
  obtain ⟨t, rfl⟩ := ry
  obtain ⟨its, r, pl, hz⟩ := I.tuple hq
  obtain ⟨j, h1, h2, h3, h4, h5⟩ := atI_get he
  obtain ⟨w, ew, rw'⟩ := r.get h2
  have hl := r.length
  have hn := line63
  have fin : EP X pins σ Q w s := ⟨z, H, I, rw', q⟩
  exact subscriptTail_builtinR (x := w) pl.typeIs slot_tuple_getitem.lookup
    (getItem_tuple (j := j) (Q := fun r s' => r = w ∧ EP X pins σ Q r s') pl (by omega) (by omega) (by rw [List.size_toArray, ← hl]; exact h1) (by simpa using ew) ⟨rfl, fin⟩) hs
theorem mapSeq_set (its : List Value) (n j : Nat) (u : Value) : Obj.mapSeq (·.setIfInBounds j u) { cls := .type "list", data := .seq its.toArray n } = { cls := .type "list", data := .seq (its.set j u).toArray n } := by
  simp [Obj.mapSeq]
theorem Inv.lst {pins : List (Addr × Obj)} {σ : St} {H : Hp} {s : Shared} {p : Addr} {xs : List V} (I : Inv X pins σ H s) (h : H p = some (.lst xs)) :
    ∃ (its : List Value) (n : Nat), Vals xs its ∧ s.heap.get? p = some { cls := .type "list", data := .seq its.toArray n } ∧ xs.length ≤ sizeLine := by
  obtain ⟨z, its, n, r, e⟩ := I.hok p _ h
  exact ⟨its, n, r, e, z⟩
theorem Inv.lstUpd {pins : List (Addr × Obj)} {σ : St} {H : Hp} {s : Shared} {p : Addr} {xs ys : List V} {its its' : List Value} {n n' : Nat} {f : Obj → Obj} (I : Inv X pins σ H s) (h : H p = some (.lst xs))
    (ho : s.heap.get? p = some { cls := .type "list", data := .seq its.toArray n }) (hf : f { cls := .type "list", data := .seq its.toArray n } = { cls := .type "list", data := .seq its'.toArray n' }) (r : Vals ys its') (hz : ys.length ≤ sizeLine) (t : Nat) :
    Inv X pins σ (upd H p (.lst ys)) { s with heap := s.heap.update p f, toks := t } := by
  have e : (s.heap.update p f).get? p = some { cls := .type "list", data := .seq its'.toArray n' } := by
    rw [Heap.get?_update_self f ho (by rw [hf] <;> rfl), hf]
  refine I.write (x := p) (e := p) (by rw [h]; trivial) (.inl rfl) (fun b u hb q => (Heap.get?_update_other _ _ (Ne.symm hb)).trans q) ⟨_, e⟩ ?_
  exact ⟨hz, its', n', r, e⟩
noncomputable def rSetL : V → V → V → Hp → (Hp → Prop) → Prop := fun o i v H Q => ∃ p xs k j, o = .ref p ∧ i = .int k ∧ H p = some (.lst xs) ∧ ixN xs.length k = some j ∧ Q (upd H p (.lst (xs.set j v)))
theorem set_list : PSet X rSetL := by
  intro pins s σ H o i v ov iv u Q I ro ri rv h
  obtain ⟨p, xs, k, j, rfl, rfl, hp, hj, q⟩ := h
  cases ro
  obtain ⟨t, rfl⟩ := ri
  obtain ⟨its, n, r, ho, hz⟩ := I.lst hp
  obtain ⟨h1, h2, h3, h4⟩ := ixN_seq hj
  have hl := r.length
  have hn := line63
  have I' : Inv X pins σ (upd H p (.lst (xs.set j v))) { s with heap := s.heap.update p (Obj.mapSeq (·.setIfInBounds j u)) } :=
    I.lstUpd hp ho (mapSeq_set its n j u) (r.set rv j) (by rw [List.length_set]; exact hz) s.toks
  by_cases h0 : 0 ≤ k
  · have hk : k.toNat = j := by
      rw [seqIndex_of h0 h4] at h1
      exact Option.some.inj h1
    exact PySem.W.ki_setAt ho h0 (by omega) (by rw [List.size_toArray, ← hl]; exact h4) (by rw [hk]; exact ⟨_, I', q⟩)
  · have hk : (k + (its.toArray.size : Int)).toNat = j := by
      rw [seqIndex_neg (by omega) h3] at h1
      rw [List.size_toArray, ← hl]
      exact Option.some.inj h1
    exact PySem.W.ki_setBack ho (by omega) (by rw [List.size_toArray, ← hl]; exact h3) (by omega) (by rw [hk]; exact ⟨_, I', q⟩)

theorem slice_bounds (lo hi : Option Int) (n : Nat) : (sliceBounds lo hi none n).1 = ((HT.sIx n 0 lo : Nat) : Int) ∧ (sliceBounds lo hi none n).2.1 = ((HT.sIx n n hi : Nat) : Int) ∧ (sliceBounds lo hi none n).2.2 = 1 := by
  refine ⟨?_, ?_, rfl⟩
  · cases lo with
    | none => simp [sliceBounds, HT.sIx]
    | some i =>
      simp only [sliceBounds, HT.sIx, Option.getD_none, show (1 : Int) > 0 by decide, if_true]
      by_cases h : i < 0
      · simp only [h, if_true] <;> omega
      · simp only [h, if_false] <;> omega
  · cases hi with
    | none => simp [sliceBounds, HT.sIx]
    | some i =>
      simp only [sliceBounds, HT.sIx, Option.getD_none, show (1 : Int) > 0 by decide, if_true]
      by_cases h : i < 0
      · simp only [h, if_true] <;> omega
      · simp only [h, if_false] <;> omega
theorem slicePick_cut (its : List Value) (lo hi : Option Int) : slicePick its.toArray lo hi none = ((its.drop (HT.sIx its.length 0 lo)).take (HT.sIx its.length its.length hi - HT.sIx its.length 0 lo)).toArray := by
  obtain ⟨h1, h2, h3⟩ := slice_bounds lo hi its.toArray.size
  unfold slicePick
  rw [h1, h2, h3]
  simp only [sliceRange_one, pick_run, List.size_toArray] <;> rfl
noncomputable def rSlL (K : PySem.W.Frag) : V → Option Int → Option Int → Hp → VK → Prop := fun x lo hi H Q => ∃ a xs, x = .ref a ∧ SqL K H a xs ∧ ∀ p, H p = none → Q (.ref p) (upd H p (.lst (cutV xs lo hi)))
theorem sl_list : SlR X (rSlL X.K) := by
  intro pins s σ H x v vl vu lo hi sl Q I rx hs pl pu h
  obtain ⟨a, xs, rfl, hx, q⟩ := h
  cases rx
  obtain ⟨its, r, ht, hz⟩ := I.list hx
  have hlen := r.length
  refine ⟨"list", _, slot_list_getitem.lookup, ht.isList.typeIs, ?_⟩
  refine wpAny_getItem_list_slice ht.isList hs pl pu .none (by simp) ?_ (by rw [List.size_toArray] <;> omega)
  rw [slicePick_cut, ← hlen]
  refine ⟨.ref s.heap.objs.size, _, I.laid (t' := s.toks) (o := .lst (cutV xs lo hi)) (fun b ob q => Heap.get?_push_of_some _ q) (Nat.le_refl _) ?_, rfl, q _ (I.hok.fresh (Nat.le_refl _))⟩
  exact ⟨Nat.le_trans (cutV_length xs lo hi) hz, _, 0, (r.drop (HT.sIx xs.length 0 lo)).take (HT.sIx xs.length xs.length hi - HT.sIx xs.length 0 lo), Heap.get?_push_size _ rfl⟩

theorem call_len_seq : CallR X (.builtin "len") (fun xs H Q => ∃ p ys, xs = [.ref p] ∧ (SqL X.K H p ys ∨ SqT X.K H p ys) ∧ Q (.int ys.length) H) := by
  intro pins s σ H xs us Q I r h
  obtain ⟨p, ys, rfl, hq, q⟩ := h
  obtain ⟨u, rfl, rx⟩ := vals1 r
  cases rx
  have hn := line63
  rcases hq with hq | hq
  · obtain ⟨its, r', pl, hz⟩ := I.list hq
    have hlen := r'.length
    exact Calls.call_len_list pl.isList (by simp only [List.size_toArray] <;> omega) ⟨.int ys.length, H, I.tok _, ⟨s.toks + 1, by rw [List.size_toArray, hlen]⟩, q⟩
  · obtain ⟨its, r', pl, hz⟩ := I.tuple hq
    have hlen := r'.length
    exact len_tuple pl (by simp only [List.size_toArray] <;> omega) ⟨.int ys.length, H, I.tok _, ⟨s.toks + 1, by rw [List.size_toArray, hlen]⟩, q⟩
theorem CallR.or {f : Value} {r r' : List V → Hp → VK → Prop} (h : CallR X f r) (h' : CallR X f r') : CallR X f (fun xs H Q => r xs H Q ∨ r' xs H Q) := by
  intro pins s σ H xs us Q I rs q
  rcases q with q | q
  · exact h pins s σ H xs us Q I rs q
  · exact h' pins s σ H xs us Q I rs q
theorem call_list_of : CallR X (.type "list") (fun xs H Q => ∃ p ys, xs = [.ref p] ∧ (SqL X.K H p ys ∨ SqT X.K H p ys) ∧ ∀ l, H l = none → Q (.ref l) (upd H l (.lst ys))) := by
  intro pins s σ H xs us Q I r h
  obtain ⟨p, ys, rfl, hq, q⟩ := h
  obtain ⟨u, rfl, rx⟩ := vals1 r
  cases rx
  have fin : ∀ (its : List Value), Vals ys its → ys.length ≤ sizeLine → ∀ (h' : Heap) (c' : Nat), (∀ b o', s.heap.get? b = some o' → h'.get? b = some o') →
      h'.get? s.heap.objs.size = some { cls := .type "list", dict := none, data := .seq its.toArray c', slots := #[] } → EP X pins σ Q (.ref s.heap.objs.size) { s with heap := h' } := fun its r' hz h' c' kp e =>
    ⟨.ref s.heap.objs.size, _, I.laid (t' := s.toks) kp (Nat.le_refl _) (show ObjOk X.prog X.w _ h' _ (.lst ys) from ⟨hz, its, c', r', e⟩), rfl, q _ (I.hok.fresh (Nat.le_refl _))⟩
  rcases hq with hq | hq
  · obtain ⟨its, r', pl, hz⟩ := I.list hq
    have hlen := r'.length
    obtain ⟨o, ho, hc, n, hd⟩ := pl.isList
    exact call_list_seq p (.inl rfl) ho hc hd (fun h' c' kp e => fin its r' hz h' c' kp e) (by simp only [List.size_toArray] <;> omega)
  · obtain ⟨its, r', pl, hz⟩ := I.tuple hq
    have hlen := r'.length
    obtain ⟨o, ho, hc, n, hd⟩ := pl
    exact call_list_seq p (.inr rfl) ho hc hd (fun h' c' kp e => fin its r' hz h' c' kp e) (by simp only [List.size_toArray] <;> omega)
theorem call_tuple_of : CallR X (.type "tuple") (fun xs H Q => ∃ p ys, xs = [.ref p] ∧ ((SqL X.K H p ys ∧ ∀ l, H l = none → Q (.ref l) (upd H l (.tup ys))) ∨ (SqT X.K H p ys ∧ Q (.ref p) H))) := by
  intro pins s σ H xs us Q I r h
  obtain ⟨p, ys, rfl, h⟩ := h
  obtain ⟨u, rfl, rx⟩ := vals1 r
  cases rx
  rcases h with ⟨hq, q⟩ | ⟨hq, q⟩
  · obtain ⟨its, r', pl, hz⟩ := I.list hq
    have hlen := r'.length
    refine call_tuple_list pl.isList (fun h' kp => ?_) (by simp only [List.size_toArray] <;> omega)
    have I1 : Inv X pins σ H { s with heap := h' } := I.kept (t' := s.toks) kp
    have I2 : Inv X pins σ (upd H h'.objs.size (.tup ys)) { s with heap := h'.push { cls := .type "tuple", data := .seq its.toArray } } :=
      I1.laid (t' := s.toks) (fun b o e => Heap.get?_push_of_some _ e) (Nat.le_refl _) (show ObjOk X.prog X.w _ _ _ (.tup ys) from ⟨hz, its, r', IsTup.new _ _⟩)
    exact ⟨.ref h'.objs.size, _, I2, rfl, q _ (I1.hok.fresh (Nat.le_refl _))⟩
  · obtain ⟨its, r', pl, hz⟩ := I.tuple hq
    exact call_tuple_same pl ⟨.ref p, H, I, rfl, q⟩

noncomputable def tyV (K : PySem.W.Frag) (T : String) (x : V) (H : Hp) : Prop := match x with
  | .str _ => T = "str"
  | .int _ => T = "int"
  | .ref p => (T = "list" ∧ ∃ xs, SqL K H p xs) ∨ (T = "tuple" ∧ ∃ o, K.lookup p = some o ∧ o.cls = .type "tuple" ∧ o.dict = none) ∨
      (T = "dict" ∧ ((∃ kvs, H p = some (.dK kvs)) ∨ ∃ kvs, H p = some (.dT kvs))) ∨ (T = "set" ∧ ∃ S n, H p = some (.set S n))
  | _ => False
theorem tyV_is {pins : List (Addr × Obj)} {σ : St} {H : Hp} {s : Shared} {T : String} {x : V} {v : Value} (I : Inv X pins σ H s) (r : RelV x v) (ty : tyV X.K T x H) :
    s.TypeIs v T ∧ ∀ a, v = .ref a → ∃ ob, s.heap.get? a = some ob ∧ ob.dict = none := by
  cases x with
  | str z =>
    obtain ⟨t, rfl⟩ := r
    cases (show T = "str" from ty)
    exact ⟨typeIs_str s z t, fun _ e => nomatch e⟩
  | int i =>
    obtain ⟨t, rfl⟩ := r
    cases (show T = "int" from ty)
    exact ⟨typeIs_int s i t, fun _ e => nomatch e⟩
  | ref p =>
    cases r
    rcases ty with ⟨rfl, xs, hq⟩ | ⟨rfl, o, hk, hc, hd⟩ | ⟨rfl, hk⟩ | ⟨rfl, S, n, hk⟩
    · obtain ⟨its, _, pl, _⟩ := I.list hq
      refine ⟨pl.isList.typeIs, fun a e => ?_⟩
      cases e
      obtain ⟨o, n, e, c, hd, _⟩ := pl
      exact ⟨o, e, hd⟩
    · refine ⟨⟨o, I.kIn p o hk, hc⟩, fun a e => ?_⟩
      cases e
      exact ⟨o, I.kIn _ o hk, hd⟩
    · have z : ∃ o, s.heap.get? p = some o ∧ o.ExactDict := by
        rcases hk with ⟨kvs, hk⟩ | ⟨kvs, hk⟩
        · obtain ⟨_, _, _, _, o, _, _, e, ex, _⟩ := I.hok p _ hk
          exact ⟨o, e, ex⟩
        · obtain ⟨_, _, _, _, o, _, _, e, ex, _⟩ := I.hok p _ hk
          exact ⟨o, e, ex⟩
      obtain ⟨o, e, ex⟩ := z
      refine ⟨⟨o, e, ex.1⟩, fun a e2 => ?_⟩
      cases e2
      exact ⟨o, e, ex.2.1⟩
    · obtain ⟨o, _, _, _, e, ex, _⟩ := I.hok p _ hk
      refine ⟨⟨o, e, ex.1⟩, fun a e2 => ?_⟩
      cases e2
      exact ⟨o, e, ex.2.1⟩
  | _ => exact False.elim ty
noncomputable def tBM0 (K : PySem.W.Frag) (T : String) (r : V → List V → Hp → VK → Prop) (to : TE) : TE := fun σ H Q => to σ H fun x H1 => tyV K T x H1 ∧ r x [] H1 Q
noncomputable def tBM (K : PySem.W.Frag) (T : String) (r : V → List V → Hp → VK → Prop) (to : TE) (t : TA) : TE := fun σ H Q => to σ H fun x H1 => tyV K T x H1 ∧ t σ H1 fun xs H2 => r x xs H2 Q
variable {o e : Expr} {es : List Expr} {to : TE} {t : TA} {name : Str} {apos cpos : Pos} {T id : String} {r : V → List V → Hp → VK → Prop}
theorem pe_bm0 (pa : PlainAttrs T) (slot : Slot T name id) (hty : typeOf (.builtin id) = pure (.type "method_descriptor")) (hm : MtR X id r) (ho : PE X o to)
    (hbase : attributeBase o name X.env (eval o X.env) = eval o X.env := by rfl) (hline : (apos.endLine == cpos.line) = true := by rfl) : PE X (.Call (.Attribute o name apos) [] [] cpos) (tBM0 X.K T r to) := by
  intro pins s σ H Q I h
  refine wpAny_Call_method0_late hbase hline (thn (ho pins s σ H _ I h) fun v s1 zz => ?_)
  obtain ⟨x, H1, I1, r1, ty, q1⟩ := zz
  obtain ⟨h1, h2⟩ := tyV_is I1 r1 ty
  exact ⟨T, id, pa, slot, hty, h1, h2, Calls.callWith_builtin rfl (PySem.evalArgs_none (hm pins s1 σ H1 x [] v [] Q I1 r1 .nil q1))⟩
theorem pe_bm (pa : PlainAttrs T) (slot : Slot T name id) (hty : typeOf (.builtin id) = pure (.type "method_descriptor")) (hm : MtR X id r) (ho : PE X o to) (ha : PA X (e :: es) t)
    (hbase : attributeBase o name X.env (eval o X.env) = eval o X.env := by rfl)
    (hfew : ((backTo cpos (starEach (e :: es) X.env)).all (fun x => !x.1) && (backToKw cpos (keywordEach [] X.env)).all (fun x => x.1.isSome)
      && decide ((e :: es).length + ([] : List Keyword).length + (if ([] : List Keyword).isEmpty then 0 else 1) < 30)) = true := by rfl)
    (hline : (apos.endLine == cpos.line) = true := by rfl) (hs : starEach (e :: es) X.env = (false, eval e X.env) :: starEach es X.env := by rfl) (hplain : (backTo cpos (starEach es X.env)).any (·.1) = false := by rfl) :
    PE X (.Call (.Attribute o name apos) (e :: es) [] cpos) (tBM X.K T r to t) := by
  intro pins s σ H Q I h
  refine wpAny_Call_method_late hbase hfew hline rfl (thn (ho pins s σ H _ I h) fun v s1 zz => ?_)
  obtain ⟨x, H1, I1, r1, ty, q1⟩ := zz
  obtain ⟨h1, h2⟩ := tyV_is I1 r1 ty
  refine ⟨T, id, pa, slot, hty, h1, h2, ?_⟩
  have hA := ha cpos pins s1 σ H1 _ I1 q1
  rw [hs] at hA ⊢
  refine Calls.callWith_builtin (by show (false || (backTo cpos (starEach es X.env)).any (·.1)) = false; rw [hplain] <;> rfl) (Calls.evalArgs_plain ?_)
  exact thn hA fun us s2 ⟨vs, H2, I2, r2, q2⟩ => hm pins s2 σ H2 x vs v us Q I2 r1 r2 q2
/- xs.append(e), list.index on a module's tuple .. are MtR facts of 06m -/
end
end L2

namespace L2
open PySem PySem.Spec PyProof.Rows

noncomputable def MtM (X : Cx) (id : String) (r : V → List V → Hp → VK → Prop) : Prop :=
  ∀ (pins : List (Addr × Obj)) (s : Shared) (σ : St) (H : Hp) (x : V) (xs : List V) (v : Value) (us : List Value) (Q : VK), Inv X pins σ H s → RelV x v → Vals xs us → r x xs H Q →
    wpAny (model X.prog X.w) X.A (call (.builtin id) (v :: us)) (EP X pins σ Q) X.xe s

theorem Vals.one {x : V} {us : List Value} (h : Vals [x] us) : ∃ u, us = [u] ∧ RelV x u := by
  cases h with | cons r t => cases t; exact ⟨_, rfl, r⟩
theorem Vals.two {x y : V} {us : List Value} (h : Vals [x, y] us) : ∃ u v, us = [u, v] ∧ RelV x u ∧ RelV y v := by
  cases h with | cons r t => cases t with | cons q t2 => cases t2; exact ⟨_, _, rfl, r, q⟩
theorem Vals.zero : ∀ {us : List Value}, Vals [] us → us = []
  | _, .nil => rfl
theorem Vals.dropLast {xs : List V} {us : List Value} (h : Vals xs us) : Vals xs.dropLast us.dropLast := by
  induction h with
  | nil => exact .nil
  | cons r t ih =>
    cases t with
    | nil => exact .nil
    | cons q t' => exact .cons r ih
theorem Vals.eraseIdx : ∀ {xs : List V} {us : List Value} (i : Nat), Vals xs us → Vals (xs.eraseIdx i) (us.eraseIdx i)
  | _, _, _, .nil => .nil
  | _, _, 0, .cons _ t => t
  | _, _, i + 1, .cons r t => .cons r (Vals.eraseIdx i t)
theorem Vals.reverse {xs : List V} {us : List Value} (h : Vals xs us) : Vals xs.reverse us.reverse := by
  induction h with
  | nil => exact .nil
  | cons r t ih => rw [List.reverse_cons, List.reverse_cons]; exact Vals.append ih (.cons r .nil)
theorem erase_last {α : Type} (l : List α) : l.eraseIdx (l.length - 1) = l.dropLast := by
  induction l with
  | nil => rfl
  | cons a r ih =>
    cases r with
    | nil => rfl
    | cons b r =>
      have e : (a :: b :: r).length - 1 = ((b :: r).length - 1) + 1 := by
        have h1 : (a :: b :: r).length = r.length + 2 := rfl
        have h2 : (b :: r).length = r.length + 1 := rfl
        omega
      rw [e, List.eraseIdx_cons_succ, ih]
      all_goals rfl
section
variable {X : Cx} {pins : List (Addr × Obj)} {σ : St} {H : Hp} {s : Shared} {l b : Addr} {xs ys zs : List V}

theorem Inv.lset {its its' : List Value} {n : Nat} {f : Array Value → Array Value} {t' : Nat} (I : Inv X pins σ H s) (hH : H l = some (.lst xs))
    (e : s.heap.get? l = some { cls := .type "list", data := .seq its.toArray n }) (hf : f its.toArray = its'.toArray) (hv : Vals ys its') (hz : ys.length ≤ sizeLine) :
    Inv X pins σ (upd H l (.lst ys)) { s with heap := s.heap.update l (Obj.mapSeq f), toks := t' } := by
  have q := PySem.IsL.update e f
  rw [hf] at q
  refine I.write (x := l) (e := l) (by rw [hH]; exact trivial) (.inl rfl) (fun b' u hb hu => (Heap.get?_update_other s.heap (Obj.mapSeq f) (Ne.symm hb)).trans hu) ⟨_, q⟩ ?_
  exact ⟨hz, its', _, hv, q⟩
theorem Inv.lnew {its : List Value} {t' : Nat} (I : Inv X pins σ H s) (hv : Vals ys its) (hz : ys.length ≤ sizeLine) :
    Inv X pins σ (upd H s.heap.objs.size (.lst ys)) { s with heap := s.heap.push { cls := .type "list", data := .seq its.toArray }, toks := t' } :=
  I.laid (fun _ _ q => Heap.get?_push_of_some _ q) (Nat.le_refl _) ⟨hz, its, 0, hv, Heap.get?_push_size _ rfl⟩
theorem Inv.fresh (I : Inv X pins σ H s) : H s.heap.objs.size = none := I.hok.fresh (Nat.le_refl _)
theorem Inv.lstM (I : Inv X pins σ H s) (hH : H l = some (.lst xs)) : xs.length ≤ sizeLine ∧ ∃ (its : List Value) (n : Nat), Vals xs its ∧ xs.length = its.length ∧ s.heap.get? l = some { cls := .type "list", data := .seq its.toArray n } := by
  obtain ⟨z, its, n, r, e⟩ := I.hok l _ hH
  exact ⟨z, its, n, r, r.length, e⟩

end

section
variable {X : Cx}

noncomputable def rAppend : V → List V → Hp → VK → Prop := fun x vs H Q => ∃ l xs y, x = .ref l ∧ vs = [y] ∧ H l = some (.lst xs) ∧ xs.length < sizeLine ∧ Q .non (upd H l (.lst (xs ++ [y])))
theorem mt_append : MtM X "list.append" rAppend := by
  intro pins s σ H x vs v us Q I rx rv h
  obtain ⟨l, xs, y, rfl, rfl, hH, hz, q⟩ := h
  cases rx
  obtain ⟨u, rfl, ru⟩ := rv.one
  obtain ⟨z, its, n, r, hl, e⟩ := I.lstM hH
  refine call_meets F.slot_list_append ⟨_, e, rfl⟩ F.entry_list_append (F.args_list_append_2 _ _) (PySem.list_append l its.toArray n u (by rw [List.size_toArray]; omega)) ⟨e, ?_⟩
  refine ⟨.non, _, I.lset (its' := its ++ [u]) hH e (by simp) (r.append (.cons ru .nil)) ?_, rfl, q⟩
  rw [List.length_append, List.length_singleton]
  omega

noncomputable def rPop : V → List V → Hp → VK → Prop := fun x vs H Q => ∃ l xs y, x = .ref l ∧ vs = [] ∧ H l = some (.lst xs) ∧ xs[xs.length - 1]? = some y ∧ Q y (upd H l (.lst xs.dropLast))
theorem mt_pop : MtM X "list.pop" rPop := by
  intro pins s σ H x vs v us Q I rx rv h
  obtain ⟨l, xs, y, rfl, rfl, hH, hy, q⟩ := h
  cases rx
  have hus := rv.zero
  subst hus
  obtain ⟨z, its, n, r, hl, e⟩ := I.lstM hH
  obtain ⟨u, hu, ru⟩ := r.get hy
  have hy' : its.toArray[its.toArray.size - 1]? = some u := by
    show its.toArray[its.length - 1]? = some u
    rw [← Array.getElem?_toList, ← hl]
    exact hu
  refine call_meets F.slot_list_pop ⟨_, e, rfl⟩ F.entry_list_pop (F.args_list_pop_1 _) (MeetsSeq.list_pop_last l its.toArray n u hy' (by rw [List.size_toArray]; omega)) ⟨e, ?_⟩
  refine ⟨y, _, I.lset (its' := its.dropLast) hH e ?_ r.dropLast ?_, ru, q⟩
  · show its.toArray.eraseIdxIfInBounds (its.toArray.size - 1) = its.dropLast.toArray
    rw [List.size_toArray, List.eraseIdxIfInBounds_toArray, erase_last]
  · rw [List.length_dropLast]
    omega

end

section
variable {prog : Program} {w : World} {A : Around} {E : Value → Shared → Prop} {s : Shared}
end

section
variable {X : Cx}
end
end L2

namespace Att
open PySem PySem.W PySem.Calls PyProof.Rows

theorem ints_of_wellAll {P : Params} {h : Heap} : ∀ (ns : List Int) (vs : List Value), WellAll P h vs (ns.map WData.int) → IntsAre vs ns := by
  intro ns
  induction ns with
  | nil =>
    intro vs w
    rw [List.map_nil] at w
    cases w
    exact .nil
  | cons n ns ih =>
    intro vs w
    rw [List.map_cons] at w
    cases w with
    | cons a b =>
      cases a
      exact .cons _ _ (ih _ b)

theorem script_of {l : OpenLaw} {n : Nat} (hn : l.most = some n) {P : Params} {h : Heap} {args : List WData} {vals : List Value}
    (hpre : l.row.toRowW.claim.pre args = true) (hwl : WellAll P h vals args) :
    ∃ a vs ns, vals = [Value.ref a] ∧ args = [WData.list (ns.map WData.int)] ∧ h.get? a = some { cls := .type "list", data := .seq vs.toArray } ∧ IntsAre vs ns ∧ ns.length ≤ n := by
  have hsh : WShape.hasAll [] args [.list .int] = true := (pre_splitW hpre).1
  have hc : l.pre.holds [] { args := args } = true := (pre_splitW hpre).2
  obtain ⟨d, r, rfl, h1, h2⟩ := hasAllW_cons hsh
  obtain rfl := hasAllW_nil h2
  obtain ⟨xs, rfl, h3⟩ := hasW_list h1
  obtain ⟨ns, rfl⟩ := items_int h3
  have hlen : ns.length ≤ n := by
    unfold OpenLaw.pre at hc
    have h4 : (WTm.not (.lt (.lit (.int (n : Int))) (.len (.arg 0)))).holds [] { args := [.list (ns.map .int)] } = true := by
      have h4 := (holds_andW hc).1
      rw [hn] at h4
      exact h4
    have h5 := condW_of h4 (w_not (w_lt w_lit (w_len_list (w_arg rfl))))
    rw [List.length_map] at h5
    refine Nat.le_of_not_lt fun q => ?_
    have q' : (n : Int) < ((ns.length : Nat) : Int) := by omega
    first
      | (rw [decide_eq_true q'] at h5; exact absurd h5 (by decide))
      | (simp at h5; omega)
  cases hwl with
  | cons w1 w2 =>
    cases w2
    cases w1 with
    | list ho hall => exact ⟨_, _, ns, rfl, rfl, ho, ints_of_wellAll ns _ hall, hlen⟩

theorem post_true (l : OpenLaw) (args : List WData) : l.row.toRowW.claim.post args (.bool true) args = true :=
  postW_of (r := l.row.toRowW) (X := (true == true))
    (show WShape.has [] (.bool true) .bool = true by first | rfl | decide | simp [WShape.has, WShape.arms, WShape.armsAll])
    (show (WTm.eq .res (.lit (.bool true))).value [] { args := args, res := some (.bool true), after := args } = some (.bool (true == true)) from w_eq_bool (w_res rfl) w_lit) rfl

theorem attach_call {l : OpenLaw} {n : Nat} {q : Program} {loose : List Str} {XP : (Str → Option Value) → Heap → Prop} {YP : World → Heap → Prop} {d : DefRec}
    (hn : l.most = some n) (hdf : d.params.defaults = [])
    (call : ∀ (w : World) (s₀ s₁ : Shared) (mg mb : Str → Option Value) (fa : Addr) (o : Obj) (pm cd doc : Value) (a : Addr) (vs : List Value) (ns : List Int),
      Ground q loose [] XP w s₀ mg mb s₁.heap → YP w s₁.heap →
      s₁.heap.get? fa = some o → o.data = .func (docDef d.name d.params d.body d.scope pm cd doc) → s₁.heap.CodeRec cd d.name → mg d.name = some (.ref fa) →
      s₁.heap.get? a = some { cls := .type "list", data := .seq vs.toArray } → IntsAre vs ns → ns.length ≤ n → s₁.gens = #[] →
      codeAny (model l.prog w) callerA (.call (.ref fa) ⟨[.ref a], []⟩) (fun r s' => r = .ok (.ret (.bool true)) ∧ OldK s₁.heap s'.heap ∧ s'.os = s₁.os ∧ AllBare s'.gens) s₁) :
    WalkO q loose XP YP l.row.toRowW d [] (fun f vs => PySem.call f vs) := by
  intro w s₀ s₁ mg mb G Y fa o pm cd doc dV kV ho hd hcd hD hmg hg args vals as hpre hlay hrd hwl hlo
  obtain rfl : dV = .none := Dflts.none hD hdf
  obtain rfl : kV = .none := Dflts.noKw hD
  obtain ⟨a, vs, ns, rfl, rfl, hobj, hints, hlen⟩ := script_of hn hpre hwl
  refine enter_call (codeAny_mono (call w s₀ s₁ mg mb fa o pm cd doc a vs ns G Y ho (fd_plain hd) hcd hmg hobj hints hlen hg) fun r s' hq => ?_)
  obtain ⟨rfl, h2, h3, h4⟩ := hq
  exact ⟨.inl ⟨.bool true, .bool true, [], rfl, fun _ => rfl, .bool true, post_true l _, fun _ => ⟨List.Pairwise.nil, fun _ hm => (nomatch hm)⟩⟩, h2, h3, h4⟩

section
variable {prog : Program} {w : World} {A : Around} {E : Value → Shared → Prop} {s : Shared} {K : Frag}

end
end Att

namespace L2
open PySem PySem.Spec PyProof.Rows

theorem vals_ints : ∀ {vs : List Value} {ns : List Int}, IntsAre vs ns → Vals (ns.map V.int) vs
  | _, _, .nil => .nil
  | _, _, .cons n t h => .cons ⟨t, rfl⟩ (vals_ints h)

noncomputable def Only (H : Hp) : Prop := ∀ b, H b = none ∨ ∃ o xs, H b = some (.frz o (.lst xs))

theorem law_call {P : Program} {w : World} {K : PySem.W.Frag} {mg mb : Str → Option Value} {CX : CXT} {k : Nat} {fa a : Addr} {fd : FuncData} {x : Str} {sp : Sp} {s₁ : Shared} {vs : List Value} {ns : List Int}
    (KX : K.In s₁.heap) (hns : s₁.heap.Ns mainGlobals mg) (hb : s₁.heap.Ns builtinsNs mb) (hbb : ∀ x : Str, x ≠ "__name__" → mb x = bootBuiltins x) (hlim : s₁.heap.NoLimit) (hg : s₁.gens = #[])
    (ha : s₁.heap.get? a = some { cls := .type "list", data := .seq vs.toArray }) (hi : IntsAre vs ns) (hl : ns.length ≤ sizeLine) (hr : Room k callerA)
    (F : ∀ base : Heap, K.In base → base.Ns mainGlobals mg → FnOk P w K mg base CX k fa fd [x] sp) (hbind : ∀ (s : Shared) (u : Value), BindsTo s fd ⟨[u], []⟩ [(x, u)])
    (hsp : ∀ H : Hp, Only H → SqL K H a (ns.map V.int) → sp [.ref a] H (fun v _ => v = .bl true) fun _ _ _ => False)
    (hCX : ∀ H e s', CX [] H s₁ (fun _ _ _ => False) e s' → False) :
    codeAny (model P w) callerA (.call (.ref fa) ⟨[.ref a], []⟩) (fun r s' => r = .ok (.ret (.bool true)) ∧ OldK s₁.heap s'.heap ∧ s'.os = s₁.os ∧ AllBare s'.gens) s₁ := by
  have rv := vals_ints hi
  have lenV := hi.length
  -- from an abstract heap in which nothing but the script may be tracked
  have core : ∀ H : Hp, Only H → SqL K H a (ns.map V.int) → HOk P w H s₁.heap → (∀ b, H b ≠ none → b = a) → (H a ≠ none → K.lookup a = none) →
      codeAny (model P w) callerA (.call (.ref fa) ⟨[.ref a], []⟩) (fun r s' => r = .ok (.ret (.bool true)) ∧ OldK s₁.heap s'.heap ∧ s'.os = s₁.os ∧ AllBare s'.gens) s₁ := by
    intro H hO hS hok hA hK
    have base_of : ∀ {b : Addr} {o : Obj}, s₁.heap.get? b = some o → H b = none → (hidT s₁.heap H).get? b = some o := fun e n => hidT_get e n
    have noA : ∀ {b : Addr} {o : Obj} {es : Array DictEntry} {ep : Nat}, s₁.heap.get? b = some o → o.data = .dict es ep → H b = none := fun {b o es ep} e d => by
      cases q : H b with
      | none => rfl
      | some u =>
        have e' : b = a := hA b (by rw [q]; simp)
        subst e'
        rw [ha] at e; cases e
        have d' : Data.seq vs.toArray _ = Data.dict es ep := d
        cases d'
    have nsK : ∀ {b : Addr} {m : Str → Option Value}, s₁.heap.Ns b m → (hidT s₁.heap H).Ns b m := fun {b m} ⟨o, es, ep, e, d, r⟩ => ⟨o, es, ep, base_of e (noA e d), d, r⟩
    have hKb : K.In (hidT s₁.heap H) := fun b o e => base_of (KX b o e) (by
      cases q : H b with
      | none => rfl
      | some u =>
        have e' : b = a := hA b (by rw [q]; simp)
        subst e'
        rw [hK (by rw [q]; simp)] at e; cases e)
    have hM : Mod K mg (hidT s₁.heap H) := ⟨hKb, nsK hns, ⟨mb, nsK hb, hbb⟩, let ⟨mc, h1, h2⟩ := hlim; ⟨mc, nsK h1, h2⟩⟩
    have e0 : Env0 P w K mg (hidT s₁.heap H) callerA [] s₁ H := ⟨rfl, hM, fun b o e => of_hidT e, Nat.le_of_eq (hidT_size _ _), trivial, fun b hb => absurd (show b ∈ ([] : List Addr) from hb) (by simp), hok, .of_eq hg⟩
    refine codeAny_mono ((F _ hKb (nsK hns)).run callerA [] s₁ H ⟨[.ref a], []⟩ [.ref a] [.ref a] _ _ hr e0 (hbind s₁ (.ref a)) (.cons rfl .nil) (hsp H hO hS)) fun r s' h => ?_
    cases r with
    | error e => exact (hCX H e s' h).elim
    | ok fl =>
      cases fl with
      | next => exact False.elim h
      | brk => exact False.elim h
      | cont => exact False.elim h
      | ret u =>
        obtain ⟨v, H', os, bare, un, hok', r', q⟩ := h
        have q' : v = .bl true := q
        subst q'
        obtain rfl : u = Value.bool true := r'
        refine ⟨rfl, OldK.of_keep fun b o e => ?_, os, bare⟩
        cases q : H b with
        | none => exact un.keep b o e q (by intro z; exact absurd (show b ∈ ([] : List Addr) from z) (by simp)) (by simp)
        | some u =>
          rcases hO b with z | ⟨ob, xs, z⟩
          · rw [q] at z; cases z
          · have z2 := un.frzs b ob _ z
            obtain ⟨e1, _⟩ := hok b _ z
            obtain ⟨e2, _⟩ := hok' b _ z2
            rw [e] at e1; cases e1
            exact e2
  cases hk : K.lookup a with
  | some o =>
    -- the script is one of the module's own objects
    have e := KX a o hk
    rw [ha] at e
    cases e
    refine core (fun _ => none) (fun _ => .inl rfl) (.inr ⟨_, vs.toArray, _, hk, rfl, rfl, rfl, by rw [List.size_toArray, lenV]; exact hl, by simpa using rv⟩) (fun b u z => by have z' : (none : Option HO) = some u := z; cases z') (fun b z => absurd rfl z) fun z => absurd rfl z
  | none =>
    refine core (fun b => if b = a then some (.frz { cls := .type "list", data := .seq vs.toArray } (.lst (ns.map V.int))) else none) (fun b => ?_) (.inl (.inr ⟨{ cls := .type "list", data := .seq vs.toArray }, if_pos rfl⟩)) (fun b u z => ?_) (fun b z => ?_) fun _ => hk
    · by_cases hb : b = a
      · exact .inr ⟨_, _, if_pos hb⟩
      · exact .inl (if_neg hb)
    · by_cases hb : b = a
      · have z' := (if_pos hb).symm.trans z
        cases z'
        subst hb
        exact ⟨ha, by rw [List.length_map]; exact hl, vs, _, rv, ha⟩
      · have z' := (if_neg hb).symm.trans z
        cases z'
    · by_cases hb : b = a
      · exact hb
      · exact absurd (if_neg hb) z
end L2

namespace L2
open PySem PySem.Spec PyProof.Rows

theorem walk_of {l : PySem.W.OpenLaw} {n k : Nat} {q : Program} {loose : List Str} {XP : (Str → Option Value) → Heap → Prop} {YP : World → Heap → Prop} {d : DefRec} {K : Params → PySem.W.Frag} {CX : World → CXT} {sp : World → Sp} {x : Str}
    (hn : l.most = some n) (hn2 : n ≤ sizeLine) (hdf : d.params.defaults = []) (hr : Room k callerA)
    (hY : ∀ (w : World) (h : Heap), YP w h → (K w.params).In h)
    (F : ∀ (w : World) (mg : Str → Option Value) (fa : Addr) (h : Heap), (K w.params).In h → h.Ns mainGlobals mg → mg d.name = some (.ref fa) →
      ∃ fd : FuncData, (∀ (s : Shared) (u : Value), BindsTo s fd ⟨[u], []⟩ [(x, u)]) ∧
        ∀ base : Heap, (K w.params).In base → base.Ns mainGlobals mg → FnOk l.prog w (K w.params) mg base (CX w) k fa fd [x] (sp w))
    (hsp : ∀ (w : World) (H : Hp) (a : Addr) (ns : List Int), ns.length ≤ n → Only H → SqL (K w.params) H a (ns.map V.int) → sp w [.ref a] H (fun v _ => v = .bl true) fun _ _ _ => False)
    (hCX : ∀ (w : World) (H : Hp) (s : Shared) (e : Value) (s' : Shared), CX w [] H s (fun _ _ _ => False) e s' → False) :
    PySem.W.WalkO q loose XP YP l.row.toRowW d [] (fun f vs => PySem.call f vs) := by
  refine Att.attach_call hn hdf fun w s₀ s₁ mg mb fa o pm cd doc a vs ns G Y ho hd hcd hmg hobj hints hlen hg => ?_
  have KX := hY w _ Y
  obtain ⟨fd, hb, hF⟩ := F w mg fa _ KX G.T.g hmg
  exact law_call KX G.T.g G.T.b G.T.builtins G.T.nolimit hg hobj hints (Nat.le_trans hlen hn2) hr hF hb (fun H hO hS => hsp w H a ns hlen hO hS) fun H e s' => hCX w H s₁ e s'
theorem walk_ofK {l : PySem.W.OpenLaw} {n k : Nat} {q : Program} {loose : List Str} {XP : (Str → Option Value) → Heap → Prop} {YP : World → Heap → Prop} {d : DefRec} {K : Params → PySem.W.Frag} {CX : CXT} {sp : PySem.W.Frag → Sp} {x : Str}
    (hn : l.most = some n) (hn2 : n ≤ sizeLine) (hdf : d.params.defaults = []) (hr : Room k callerA)
    (hY : ∀ (w : World) (h : Heap), YP w h → (K w.params).In h)
    (F : ∀ (w : World) (mg : Str → Option Value) (fa : Addr) (h : Heap), (K w.params).In h → h.Ns mainGlobals mg → mg d.name = some (.ref fa) →
      ∃ fd : FuncData, (∀ (s : Shared) (u : Value), BindsTo s fd ⟨[u], []⟩ [(x, u)]) ∧
        ∀ base : Heap, (K w.params).In base → base.Ns mainGlobals mg → FnOk l.prog w (K w.params) mg base CX k fa fd [x] (sp (K w.params)))
    (hsp : ∀ (K : PySem.W.Frag) (H : Hp) (a : Addr) (ns : List Int), ns.length ≤ n → Only H → SqL K H a (ns.map V.int) → sp K [.ref a] H (fun v _ => v = .bl true) fun _ _ _ => False)
    (hCX : ∀ (H : Hp) (s : Shared) (e : Value) (s' : Shared), CX [] H s (fun _ _ _ => False) e s' → False) :
    PySem.W.WalkO q loose XP YP l.row.toRowW d [] (fun f vs => PySem.call f vs) :=
  walk_of (K := K) (CX := fun _ => CX) (sp := fun w => sp (K w.params)) hn hn2 hdf hr hY F (fun w H a ns h1 h2 h3 => hsp (K w.params) H a ns h1 h2 h3) fun _ H s e s' => hCX H s e s'
end L2


namespace L2
open PySem PySem.Spec PyProof.Rows

noncomputable def defArgs (s : Stmt) : Arguments := match s with
  | .FunctionDef _ a _ _ _ _ _ _ _ _ => a
  | _ => { posonlyargs := [], args := [], vararg := none, kwonlyargs := [], kw_defaults := [], kwarg := none, defaults := [] }
noncomputable def defBody (s : Stmt) : List Stmt := match s with
  | .FunctionDef _ _ b _ _ _ _ _ _ _ => b
  | _ => []
noncomputable def defScope (s : Stmt) : Scope := match s with
  | .FunctionDef _ _ _ _ _ _ sc _ _ _ => sc
  | _ => { kind := .function, names := [], isGenerator := false, isCoroutine := false }

noncomputable abbrev CX0 : CXT := fun _ _ _ _ _ _ => False
noncomputable abbrev E0 : XK := fun _ _ _ => False
theorem pass0 {X : Cx} : Passes CX0 X E0 := fun _ _ _ _ _ _ _ h => h.elim

section
variable {P : Program} {w : World} {K : PySem.W.Frag} {mg : Str → Option Value} {base : Heap}
end
section
variable {X : Cx}
end

theorem iteF {A B : Prop} (h : B) : if false = true then A else B := by
  rw [if_neg Bool.false_ne_true]
  exact h
theorem iteT {A B : Prop} (h : A) : if true = true then A else B := by
  rw [if_pos rfl]
  exact h
end L2

end
namespace RM
open Rat
noncomputable def bl (n : Nat) : Nat := n.log2 + 1
theorem lt_bl (n : Nat) : n < 2 ^ bl n := Nat.lt_log2_self
theorem bl_le {n k : Nat} (h : n < 2 ^ k) (hk : 0 < k) : bl n ≤ k := by
  unfold bl
  rcases Nat.eq_zero_or_pos n with h0 | h0
  · subst h0; rw [Nat.log2_zero]; omega
  · have := (Nat.log2_lt (Nat.pos_iff_ne_zero.mp h0)).mpr h
    omega
theorem bl_pos (n : Nat) : 0 < bl n := Nat.succ_pos _
theorem bl_mono {m n : Nat} (h : m ≤ n) : bl m ≤ bl n := bl_le (Nat.lt_of_le_of_lt h (lt_bl n)) (bl_pos n)
theorem bl_mul (m n : Nat) : bl (m * n) ≤ bl m + bl n := by
  refine bl_le ?_ (Nat.add_pos_left (bl_pos m) _)
  rw [Nat.pow_add]
  exact Nat.mul_lt_mul'' (lt_bl m) (lt_bl n)
theorem bl_add (m n : Nat) : bl (m + n) ≤ max (bl m) (bl n) + 1 := by
  refine bl_le ?_ (Nat.succ_pos _)
  have h1 := lt_bl m
  have h2 := lt_bl n
  have e1 : 2 ^ bl m ≤ 2 ^ max (bl m) (bl n) := Nat.pow_le_pow_right (by decide) (Nat.le_max_left _ _)
  have e2 : 2 ^ bl n ≤ 2 ^ max (bl m) (bl n) := Nat.pow_le_pow_right (by decide) (Nat.le_max_right _ _)
  rw [Nat.pow_succ]
  omega
noncomputable def sz (q : Rat) : Nat := max (bl q.num.natAbs) (bl q.den)
theorem sz_num (q : Rat) : bl q.num.natAbs ≤ sz q := Nat.le_max_left _ _
theorem sz_den (q : Rat) : bl q.den ≤ sz q := Nat.le_max_right _ _
theorem sz_le {q : Rat} {n : Nat} (h1 : bl q.num.natAbs ≤ n) (h2 : bl q.den ≤ n) : sz q ≤ n := Nat.max_le.mpr ⟨h1, h2⟩
theorem num_le (a b : Int) : (divInt a b).num.natAbs ≤ a.natAbs := by
  rw [num_divInt]
  rcases Int.lt_trichotomy b 0 with h | h | h
  · rw [Int.sign_eq_neg_one_of_neg h]
    refine Nat.le_trans (Int.natAbs_ediv_le_natAbs _ _) ?_
    simp
  · subst h; simp
  · rw [Int.sign_eq_one_of_pos h, Int.one_mul]
    exact Int.natAbs_ediv_le_natAbs _ _
theorem den_le (a b : Int) (hb : b ≠ 0) : (divInt a b).den ≤ b.natAbs := by
  rw [den_divInt, if_neg hb]
  exact Nat.div_le_self _ _
theorem sz_divInt (a b : Int) (hb : b ≠ 0) : sz (divInt a b) ≤ max (bl a.natAbs) (bl b.natAbs) :=
  sz_le (Nat.le_trans (bl_mono (num_le a b)) (Nat.le_max_left _ _)) (Nat.le_trans (bl_mono (den_le a b hb)) (Nat.le_max_right _ _))
theorem den_ne (q : Rat) : (q.den : Int) ≠ 0 := by have := q.den_nz; omega
theorem add_eq (q r : Rat) : q + r = divInt (q.num * r.den + r.num * q.den) (q.den * r.den) := by
  conv => lhs; rw [← num_divInt_den q, ← num_divInt_den r]
  rw [divInt_add_divInt _ _ (den_ne q) (den_ne r)]
theorem mul_eq (q r : Rat) : q * r = divInt (q.num * r.num) (q.den * r.den) := by
  conv => lhs; rw [← num_divInt_den q, ← num_divInt_den r]
  rw [divInt_mul_divInt]
theorem div_eq (q r : Rat) : q / r = divInt (q.num * r.den) (q.den * r.num) := by
  rw [div_def]
  conv => lhs; rw [← num_divInt_den q, ← num_divInt_den r]
  rw [inv_divInt, divInt_mul_divInt]
theorem natAbs_add_le' (a b : Int) : (a + b).natAbs ≤ a.natAbs + b.natAbs := Int.natAbs_add_le a b
theorem sz_add (q r : Rat) : sz (q + r) ≤ sz q + sz r + 1 := by
  rw [add_eq]
  have hb : ((q.den : Int) * (r.den : Int)) ≠ 0 := Int.mul_ne_zero (den_ne q) (den_ne r)
  refine Nat.le_trans (sz_divInt _ _ hb) (Nat.max_le.mpr ⟨?_, ?_⟩)
  · refine Nat.le_trans (bl_mono (natAbs_add_le' _ _)) (Nat.le_trans (bl_add _ _) ?_)
    rw [Int.natAbs_mul, Int.natAbs_mul]
    have h1 := bl_mul q.num.natAbs (r.den : Int).natAbs
    have h2 := bl_mul r.num.natAbs (q.den : Int).natAbs
    have a1 := sz_num q
    have a2 := sz_num r
    have a3 := sz_den q
    have a4 := sz_den r
    simp only [Int.natAbs_natCast] at h1 h2 ⊢
    omega
  · rw [Int.natAbs_mul]
    have h1 := bl_mul (q.den : Int).natAbs (r.den : Int).natAbs
    have a3 := sz_den q
    have a4 := sz_den r
    simp only [Int.natAbs_natCast] at h1 ⊢
    omega
theorem sz_mul (q r : Rat) : sz (q * r) ≤ sz q + sz r := by
  rw [mul_eq]
  have hb : ((q.den : Int) * (r.den : Int)) ≠ 0 := Int.mul_ne_zero (den_ne q) (den_ne r)
  refine Nat.le_trans (sz_divInt _ _ hb) (Nat.max_le.mpr ⟨?_, ?_⟩)
  · rw [Int.natAbs_mul]
    have h1 := bl_mul q.num.natAbs r.num.natAbs
    have a1 := sz_num q
    have a2 := sz_num r
    omega
  · rw [Int.natAbs_mul]
    have h1 := bl_mul (q.den : Int).natAbs (r.den : Int).natAbs
    have a3 := sz_den q
    have a4 := sz_den r
    simp only [Int.natAbs_natCast] at h1 ⊢
    omega
theorem sz_neg (q : Rat) : sz (-q) = sz q := by
  unfold sz
  rw [Rat.neg_num, Rat.neg_den, Int.natAbs_neg]
theorem sz_sub (q r : Rat) : sz (q - r) ≤ sz q + sz r + 1 := by
  rw [Rat.sub_eq_add_neg]
  have := sz_add q (-r)
  rw [sz_neg] at this
  exact this
theorem sz_div (q r : Rat) (hr : r ≠ 0) : sz (q / r) ≤ sz q + sz r := by
  rw [div_eq]
  have hn : r.num ≠ 0 := fun h => hr (Rat.num_eq_zero.mp h)
  have hb : ((q.den : Int) * r.num) ≠ 0 := Int.mul_ne_zero (den_ne q) hn
  refine Nat.le_trans (sz_divInt _ _ hb) (Nat.max_le.mpr ⟨?_, ?_⟩)
  · rw [Int.natAbs_mul]
    have h1 := bl_mul q.num.natAbs (r.den : Int).natAbs
    have a1 := sz_num q
    have a4 := sz_den r
    simp only [Int.natAbs_natCast] at h1 ⊢
    omega
  · rw [Int.natAbs_mul]
    have h1 := bl_mul (q.den : Int).natAbs r.num.natAbs
    have a3 := sz_den q
    have a2 := sz_num r
    simp only [Int.natAbs_natCast] at h1 ⊢
    omega
theorem sz_small (q : Rat) {n : Nat} (hn : 0 < n) (h1 : q.num.natAbs < 2 ^ n) (h2 : q.den < 2 ^ n) : sz q ≤ n := sz_le (bl_le h1 hn) (bl_le h2 hn)
theorem sz_zero : sz 0 = 1 := by decide
theorem sz_one : sz 1 = 1 := by decide
theorem gcd_step (a b : Nat) (h : b ≠ 0) : Nat.gcd a b = Nat.gcd b (a % b) := by
  rw [Nat.gcd_comm, Nat.gcd_rec, Nat.gcd_comm]
theorem fdiv_exact {a g : Int} (h : g ∣ a) : a.fdiv g = a / g := by
  obtain ⟨c, rfl⟩ := h
  by_cases hg : g = 0
  · subst hg; simp
  · rw [Int.mul_fdiv_cancel_left _ hg, Int.mul_ediv_cancel_left _ hg]
theorem low_eq (a b : Int) (hb : b ≠ 0) (share : Int) (hs : share = if b < 0 then -((Nat.gcd a.natAbs b.natAbs : Nat) : Int) else ((Nat.gcd a.natAbs b.natAbs : Nat) : Int)) :
    a.fdiv share = (divInt a b).num ∧ b.fdiv share = ((divInt a b).den : Int) := by
  have hg : Nat.gcd a.natAbs b.natAbs = Int.gcd b a := by unfold Int.gcd; exact Nat.gcd_comm _ _
  have da : ((Int.gcd b a : Nat) : Int) ∣ a := Int.gcd_dvd_right b a
  have db : ((Int.gcd b a : Nat) : Int) ∣ b := Int.gcd_dvd_left b a
  rw [hg] at hs
  rw [num_divInt, den_divInt, if_neg hb]
  by_cases h : b < 0
  · rw [if_pos h] at hs
    subst hs
    rw [fdiv_exact (Int.neg_dvd.mpr da), fdiv_exact (Int.neg_dvd.mpr db), Int.sign_eq_neg_one_of_neg h]
    refine ⟨?_, ?_⟩
    · rw [Int.ediv_neg, Int.neg_one_mul, Int.neg_ediv_of_dvd da]
    · rw [Int.ediv_neg, ← Int.neg_ediv_of_dvd db]
      have e : -b = ((b.natAbs : Nat) : Int) := by omega
      rw [e]
      norm_cast
  · rw [if_neg h] at hs
    subst hs
    have hp : 0 < b := by omega
    rw [fdiv_exact da, fdiv_exact db, Int.sign_eq_one_of_pos hp, Int.one_mul]
    refine ⟨rfl, ?_⟩
    have e : b = ((b.natAbs : Nat) : Int) := by omega
    conv => lhs; rw [e]
    norm_cast
theorem lt_eq (q r : Rat) : decide (q.num * (r.den : Int) < r.num * (q.den : Int)) = decide (q < r) := by
  by_cases h : q < r
  · rw [decide_eq_true h, decide_eq_true ((Rat.lt_iff q r).mp h)]
  · rw [decide_eq_false h, decide_eq_false (fun z => h ((Rat.lt_iff q r).mpr z))]
end RM

namespace L2
open PySem PySem.Spec PyProof.Rows
section
variable {prog : Program} {w : World} {A : Around} {R : Result → Shared → Prop} {s : Shared}
noncomputable def testsOf (ifs : List Expr) (env : Env) : Sem Bool := forIn ifs true fun c r => if r = true then do let ok ← isTrue c env (eval c env); pure (ForInStep.yield ok) else pure (ForInStep.yield r)
theorem compLoop_goT {elt target iter : Expr} {ifs : List Expr} {scope : Scope} {pos : Pos} {it acc : Value} {env : Env} (I : Nat → Shared → Prop)
    (turn : ∀ n s, I n s → wpAny (model prog w) A (pyNext it) (fun r s₁ => match r with
      | none => R (.ok .next) s₁
      | some v => wpAny (model prog w) A (letOwnedTupleGo target it v) (fun _ s₁' => wpAny (model prog w) A (assign target env v) (fun _ s₂ => wpAny (model prog w) A (testsOf ifs env) (fun ok s₂' => if ok = true then wpAny (model prog w) A (eval elt env) (fun x s₃ =>
          wpAny (model prog w) A (call (.builtin "list.append") [acc, x]) (fun _ s₄ => ∃ m, m < n ∧ I m s₄) (notedBy (model prog w) A env fun e s' => R (.error e) s') s₃)
          (notedBy (model prog w) A env fun e s' => R (.error e) s') s₂' else ∃ m, m < n ∧ I m s₂') (notedBy (model prog w) A env fun e s' => R (.error e) s') s₂) (notedBy (model prog w) A env fun e s' => R (.error e) s') s₁') (notedBy (model prog w) A env fun e s' => R (.error e) s') s₁) (notedBy (model prog w) A env fun e s' => R (.error e) s') s)
    (n : Nat) (h : I n s) :
    codeAny (model prog w) A (.compLoop (.ListComp elt [⟨target, iter, ifs, 0⟩] scope pos) 0 it acc env) R s := by
  refine codeAny_loop rfl I (fun n s hI => ?_) n h
  show wpAny _ _ ((compTurn (.ListComp elt [⟨target, iter, ifs, 0⟩] scope pos) 0 it acc env).onRaise (fun x => do noteFrame x env; theTreesLotGoes x)) _ _ s
  refine wpAny_noted ?_
  rw [compTurn_list]
  refine wpAny_bind (wpAny_standAt (wpAny_bind (wpAny_mono (turn n s hI) (fun r s₁ h₁ => ?_) fun _ _ h' => h')))
  cases r with
  | none => exact wpAny_pure h₁
  | some v =>
    refine wpAny_bind (wpAny_mono h₁ (fun _ s₁' h₁' => ?_) fun _ _ h' => h')
    refine wpAny_bind (wpAny_mono h₁' (fun _ s₂ h₂ => wpAny_bind (wpAny_mono h₂ (fun ok s₂' h₃ => ?_) fun _ _ h' => h')) fun _ _ h' => h')
    cases ok with
    | true =>
      refine wpAny_bind (wpAny_bind (wpAny_mono h₃ (fun x s₃ h₄ => wpAny_bind (wpAny_mono h₄ (fun _ s₄ h₅ => wpAny_pure (wpAny_pure ⟨rfl, h₅⟩)) fun _ _ h' => h')) fun _ _ h' => h'))
    | false => exact wpAny_bind (wpAny_pure (wpAny_pure ⟨rfl, h₃⟩))
end
noncomputable def PIfs (X : Cx) (ifs : List Expr) (t : TT) : Prop :=
  ∀ (pins : List (Addr × Obj)) (s : Shared) (σ : St) (H : Hp) (Q : Bool → Hp → Prop), Inv X pins σ H s → t σ H Q → wpAny (model X.prog X.w) X.A (testsOf ifs X.env) (TP X pins σ Q) X.xe s
noncomputable def tYes : TT := fun _ H Q => Q true H
theorem pifs_nil {X : Cx} : PIfs X [] tYes := fun pins s σ H Q I q => wpAny_pure ⟨H, I, q⟩
theorem pifs_one {X : Cx} {c : Expr} {t : TT} (h : PT X c t) : PIfs X [c] t := fun pins s σ H Q I q => wpAny_tests_one (h pins s σ H Q I q)
end L2
namespace L2
open PySem PySem.Spec PyProof.Rows
noncomputable def clFor (cells : List (Str × Addr)) : List (Str × NameKind) → List (Str × Addr) → List (Str × Addr)
  | [], acc => acc
  | (n, k) :: r, acc => if k == .free then clFor cells r ((n, (cells.lookup n).getD 0) :: acc) else clFor cells r acc
theorem closure_go {env : Env} : ∀ (names : List (Str × NameKind)) (acc : List (Str × Addr)), (∀ n, (n, NameKind.free) ∈ names → ∃ c, env.cells.lookup n = some c) →
    (forIn names acc (fun (x : Str × NameKind) (cs : List (Str × Addr)) => if (x.2 == NameKind.free) = true then (do let a ← cellOf env x.1; pure (ForInStep.yield ((x.1, a) :: cs))) else pure (ForInStep.yield cs)) : Sem (List (Str × Addr))) = pure (clFor env.cells names acc)
  | [], acc, _ => rfl
  | (n, k) :: r, acc, h => by
    rw [List.forIn_cons]
    unfold clFor
    by_cases hk : (k == NameKind.free) = true
    · have e : k = .free := by cases k <;> first | rfl | (exact absurd hk (by decide))
      subst e
      obtain ⟨c, hc⟩ := h n List.mem_cons_self
      rw [if_pos hk, if_pos hk]
      have e1 : cellOf env n = pure c := by unfold cellOf; rw [hc]
      rw [e1, pure_bind, pure_bind, hc]
      exact closure_go r _ fun m hm => h m (List.mem_cons_of_mem _ hm)
    · rw [if_neg hk, if_neg hk, pure_bind]
      exact closure_go r _ fun m hm => h m (List.mem_cons_of_mem _ hm)
theorem closure_for {scope : Scope} {env : Env} (h : ∀ n, (n, NameKind.free) ∈ scope.names → ∃ c, env.cells.lookup n = some c) : closureFor scope env = pure (clFor env.cells scope.names []) := by
  have := closure_go (env := env) scope.names [] h
  unfold closureFor
  first
    | (simp only [] at this ⊢; rw [← this]; simp only [bind_pure]; rfl)
    | (rw [← this]; rfl)
    | (simp only [bind_pure, pure_bind]; exact this)
theorem clFor_some {cells : List (Str × Addr)} {x : Str} {c : Addr} : ∀ (names : List (Str × NameKind)) (acc : List (Str × Addr)), (∀ n, (n, NameKind.free) ∈ names → ∃ c, cells.lookup n = some c) → (∀ y d, acc.lookup y = some d → cells.lookup y = some d) → (clFor cells names acc).lookup x = some c → cells.lookup x = some c
  | [], acc, _, ha, h => ha x c h
  | (n, k) :: r, acc, hn, ha, h => by
    unfold clFor at h
    by_cases hk : (k == NameKind.free) = true
    · rw [if_pos hk] at h
      have e : k = .free := by cases k <;> first | rfl | (exact absurd hk (by decide))
      subst e
      obtain ⟨d, hd⟩ := hn n List.mem_cons_self
      refine clFor_some r _ (fun m hm => hn m (List.mem_cons_of_mem _ hm)) (fun y e hy => ?_) h
      rw [List.lookup_cons] at hy
      split at hy
      · rename_i hz
        have hz' : y = n := by simpa using hz
        subst hz'
        rw [hd] at hy ⊢
        cases hy; rfl
      · exact ha y e hy
    · rw [if_neg hk] at h
      exact clFor_some r _ (fun m hm => hn m (List.mem_cons_of_mem _ hm)) ha h
theorem clFor_has {cells : List (Str × Addr)} {x : Str} : ∀ (names : List (Str × NameKind)) (acc : List (Str × Addr)), ((x, NameKind.free) ∈ names ∨ ∃ c, acc.lookup x = some c) → ∃ c, (clFor cells names acc).lookup x = some c
  | [], acc, h => by
    rcases h with h | h
    · cases h
    · exact h
  | (n, k) :: r, acc, h => by
    unfold clFor
    by_cases hk : (k == NameKind.free) = true
    · rw [if_pos hk]
      refine clFor_has r _ ?_
      by_cases hx : x = n
      · right; rw [List.lookup_cons]; simp [hx]
      · rcases h with h | ⟨c, h⟩
        · rcases List.mem_cons.mp h with z | z
          · injection z with z1 _; exact absurd z1 hx
          · exact .inl z
        · right
          refine ⟨c, ?_⟩
          rw [List.lookup_cons]
          have : (x == n) = false := by simpa using hx
          rw [this]; exact h
    · rw [if_neg hk]
      refine clFor_has r _ ?_
      rcases h with h | h
      · rcases List.mem_cons.mp h with z | z
        · injection z with _ z2
          subst z2
          exact absurd rfl hk
        · exact .inl z
      · exact .inr h
theorem relabel_mem {scope : Scope} {env : Env} {x : Str} {k : NameKind} (h : (relabel scope env).names.lookup x = some k) (hk : k = .cell ∨ k = .free) (hcell : ∀ y ∈ scope.names, y.2 ≠ .cell) : (x, NameKind.free) ∈ scope.names := by
  have go : ∀ (l : List (Str × NameKind)), (∀ y ∈ l, y.2 ≠ .cell) → (l.map fun (n, k) => if (k == NameKind.free && env.scope.kind == .function && env.kindOf n == some .cell) = true then (n, NameKind.cell) else (n, k)).lookup x = some k → (x, NameKind.free) ∈ l := by
    intro l
    induction l with
    | nil => intro _ h; cases h
    | cons p r ih =>
      intro hl h
      obtain ⟨n, j⟩ := p
      rw [List.map_cons, List.lookup_cons] at h
      by_cases hj : j = .free
      · subst hj
        by_cases hx : x = n
        · subst hx; exact List.mem_cons_self
        · refine List.mem_cons_of_mem _ (ih (fun y hy => hl y (List.mem_cons_of_mem _ hy)) ?_)
          have e : ∀ b : Bool, (x == (if b = true then (n, NameKind.cell) else (n, NameKind.free)).1) = false := fun b => by cases b <;> simpa using hx
          dsimp only at h
          rw [e] at h
          exact h
      · have e : (j == NameKind.free) = false := by simpa using hj
        have hc := hl (n, j) List.mem_cons_self
        dsimp only at h
        rw [e] at h
        simp only [Bool.false_and, Bool.false_eq_true, if_false] at h
        by_cases hx : x = n
        · have : (x == n) = true := by simpa using hx
          rw [this] at h
          have h' : j = k := by simpa using h
          subst h'
          rcases hk with z | z
          · exact absurd z hc
          · exact absurd z hj
        · have : (x == n) = false := by simpa using hx
          rw [this] at h
          exact List.mem_cons_of_mem _ (ih (fun y hy => hl y (List.mem_cons_of_mem _ hy)) h)
  exact go scope.names hcell h
noncomputable def cxF (X : Cx) (scope : Scope) (cl : List (Str × Addr)) (N' : List Str) (s3 : Shared) (H3 : Hp) (C : Addr) (fp : List Addr) (pins : List (Addr × Obj)) : Cx :=
  { X with N := N', s₀ := s3, H₀ := H3, env := compEnvC scope cl C X.env, outer := X.stack, ex := fp, fn := fun _ => false, pn := X.pn ++ pins, xe := fun _ _ => False }
noncomputable def capF (n : Nat) (caps : List Nat) (σ : St) : St := List.replicate n none ++ caps.map fun i => (σ[i]?).getD none
noncomputable def tCompF (n : Nat) (caps : List Nat) (wi : TI) (g : TG) (tc : TT) (te : TE) : TE := fun σ H Q => wi σ H fun J H1 => ∀ D, H1 D = none → ∃ W : Nat → Nat → Hp → Prop, (∃ m, W 0 m (upd H1 D (.lst []))) ∧ ∀ i m H, W i m H →
  (J.stop i H ∧ Q (.ref D) H) ∨ (J.go i H ∧ ∀ x H', J.yld i H x H' → g x (capF n caps σ) H' fun σ2 H2 => tc σ2 H2 fun b H2' => if b = true then te σ2 H2' fun v H3 => ∃ ys, H3 D = some (.lst ys) ∧ ys.length < sizeLine ∧ ∃ m', m' < m ∧ W (i + 1) m' (upd H3 D (.lst (ys ++ [v]))) else ∃ m', m' < m ∧ W (i + 1) m' H2')
section
variable {X : Cx} {elt tg iter : Expr} {scope : Scope} {cl : List (Str × Addr)} {tgs cps : List Str} {caps : List Nat} {wi : TI} {g : TG} {tc : TT} {te : TE} {pos : Pos} {ifs : List Expr}
noncomputable def CapOk (s3 : Shared) (H3 : Hp) (fp : List Addr) (cl : List (Str × Addr)) (x : Str) (v : V) : Prop :=
  ∃ (u : Value) (c : Addr) (o : Obj), RelV v u ∧ cl.lookup x = some c ∧ s3.heap.get? c = some o ∧ o.data = .cell (some u) ∧ H3 c = none ∧ c ∉ fp
theorem Inv.reset {pins pins' : List (Addr × Obj)} {σ0 σ' : St} {H3 H' : Hp} {s3 s' : Shared} {fp : List Addr} {C : Addr} (I : Inv (cxF X scope cl (tgs ++ cps) s3 H3 C fp pins) pins' σ' H' s')
    (hsc : ∀ x ∈ cps, (relabel scope X.env).names.lookup x = some .cell ∨ (relabel scope X.env).names.lookup x = some .free) (hl : caps.length = cps.length)
    (hc : ∀ (j : Nat) (x : Str) (v : V), cps[j]? = some x → (caps.map fun i => (σ0[i]?).getD none)[j]? = some (some v) → CapOk s3 H3 fp cl x v) :
    Inv (cxF X scope cl (tgs ++ cps) s3 H3 C fp pins) pins' (capF tgs.length caps σ0) H' s' := by
  obtain ⟨m, hn, _⟩ := I.loc
  refine ⟨I.ok, I.os, I.bare, I.base, ⟨m, hn, fun i x v e1 e2 e3 => ?_⟩, I.cell, I.free, I.freeC, I.pin, I.hok, by simp [capF, cxF, hl]⟩
  have e1 : (tgs ++ cps)[i]? = some x := e1
  unfold capF at e2
  rw [List.getElem?_append] at e1 e2
  rw [List.length_replicate] at e2
  by_cases hi : i < tgs.length
  · rw [if_pos hi] at e2
    rw [List.getElem?_replicate] at e2
    split at e2 <;> cases e2
  · rw [if_neg hi] at e1 e2
    obtain ⟨u, c, o, r, h1, h2, h3, h4, h5⟩ := hc (i - tgs.length) x v e1 e2
    obtain ⟨sl, k⟩ := I.base.any h2 h4 h5
    refine ⟨u, r, .inr ⟨?_, c, h1, _, k, h3⟩⟩
    rcases hsc x (List.mem_of_getElem? e1) with z | z
    · exact .inl z
    · exact .inr z
theorem compF_block {pins : List (Addr × Obj)} {σ0 : St} {σ : St} {H3 : Hp} {s3 : Shared} {fp : List Addr} {it D C : Addr} {tn : Nat → Heap → Prop} {J : It} {h₁ : Heap} {tk : Nat} {m : Str → Option Value} {R : Result → Shared → Prop} {Qd : Hp → Prop}
    (hc : X.calm = true) (hcell : ∀ x ∈ scope.names, x.2 ≠ .cell) (hkind : scope.kind = .function)
    (hcl : ∀ x c, cl.lookup x = some c → X.env.cells.lookup x = some c) (hhas : ∀ x, (x, NameKind.free) ∈ scope.names → ∃ c, cl.lookup x = some c)
    (hsc : ∀ x ∈ cps, (relabel scope X.env).names.lookup x = some .cell ∨ (relabel scope X.env).names.lookup x = some .free) (hl : caps.length = cps.length)
    (hcap : ∀ (j : Nat) (x : Str) (v : V), cps[j]? = some x → (caps.map fun i => (σ0[i]?).getD none)[j]? = some (some v) → CapOk s3 H3 fp cl x v)
    (hg : ∀ cl s3 H3 C fp pins, PG (cxF X scope cl (tgs ++ cps) s3 H3 C fp pins) tg g) (hq : ∀ cl s3 H3 C fp pins, PIfs (cxF X scope cl (tgs ++ cps) s3 H3 C fp pins) ifs tc) (he : ∀ cl s3 H3 C fp pins, PE (cxF X scope cl (tgs ++ cps) s3 H3 C fp pins) elt te)
    (I3 : Inv X pins σ H3 s3) (T : Turn X.prog X.w X.K tg J fp it tn) (st3 : tn 0 s3.heap) (f3 : ∀ b ∈ fp, FpOk X pins H3 b) (hC : C = s3.heap.objs.size) (hn : h₁.Ns C m) (hk : ∀ b o, s3.heap.get? b = some o → h₁.get? b = some o)
    (W : Nat → Nat → Hp → Prop) (m0 : Nat) (w0 : W 0 m0 H3)
    (turn : ∀ i m H, W i m H → (J.stop i H ∧ Qd H) ∨ (J.go i H ∧ ∀ x H', J.yld i H x H' → g x (capF tgs.length caps σ0) H' fun σ2 H2 => tc σ2 H2 fun b H2' => if b = true then te σ2 H2' fun v H3 => ∃ ys, H3 D = some (.lst ys) ∧ ys.length < sizeLine ∧ ∃ m', m' < m ∧ W (i + 1) m' (upd H3 D (.lst (ys ++ [v]))) else ∃ m', m' < m ∧ W (i + 1) m' H2'))
    (hR : ∀ s' H' σ', Inv (cxF X scope cl (tgs ++ cps) s3 H3 C fp pins) [] σ' H' s' → Qd H' → R (.ok .next) s') :
    codeAny (model X.prog X.w) X.A (.compStart (.ListComp elt [⟨tg, iter, ifs, 0⟩] scope pos) 0 (.ref it) (.ref D) (compEnvC scope cl C X.env)) R { s3 with heap := h₁, toks := tk } := by
  have lt3 : ∀ b ∈ fp, b < s3.heap.objs.size := fun b hb => by
    obtain ⟨o, e, _⟩ := T.obj 0 _ st3 b hb
    exact Heap.lt_size e
  have ok' : (cxF X scope cl (tgs ++ cps) s3 H3 C fp pins).Ok := {
    mod := I3.ok.mod
    kind := hkind
    glob := I3.ok.glob
    blt := I3.ok.blt
    above := Nat.le_of_eq hC.symm
    inj := fun x y c e e' => I3.ok.inj x y c (hcl x c e) (hcl y c e')
    has := fun x h => by
      rcases h with h | h
      · exact hhas x (relabel_mem h (.inl rfl) hcell)
      · exact hhas x (relabel_mem h (.inr rfl) hcell)
    cab := fun x c h => by cases h
    hd := fun _ => I3.ok.hd hc
    frames := I3.ok.frames
    stk := .inl rfl
    exf := fun b hb => ⟨fun z => by
      have z' : b = C := z
      have h1 := lt3 b hb
      rw [z', hC] at h1
      exact Nat.lt_irrefl _ h1, fun x c e => (f3 b hb).2.2.2.2.1 x c (hcl x c e)⟩
    bs := fun b o e => I3.bs b o e
    bsz := Nat.le_trans I3.ok.bsz I3.sz
    noex := fun b o e hb => by
      obtain ⟨_, _, _, q, _⟩ := f3 b hb
      rcases q with q | q
      · exact I3.ok.noex b o e q
      · have h1 := Heap.lt_size e
        exact absurd (Nat.lt_of_lt_of_le (Nat.lt_of_lt_of_le h1 I3.ok.bsz) q) (Nat.lt_irrefl _)
    exfs := fun b hb z => by
      obtain ⟨_, q1, q2, _⟩ := f3 b hb
      rcases List.mem_cons.mp (I3.stkSub b z) with y | y
      · exact q1 y
      · exact q2 y
    funs := I3.stack
    frf := I3.stkFree }
  have J0 : Inv (cxF X scope cl (tgs ++ cps) s3 H3 C fp pins) [] (List.replicate (tgs ++ cps).length none) H3 { s3 with heap := h₁, toks := tk } := {
    ok := ok'
    os := rfl
    bare := I3.bare
    base := Un.kept hk
    loc := ⟨m, hn, fun i x v _ e _ => by
      rw [List.getElem?_replicate] at e
      split at e <;> cases e⟩
    cell := fun x c e => by
      obtain ⟨v, o, ho, hd⟩ := I3.cell x c (hcl x c e)
      exact ⟨v, o, hk c o ho, hd⟩
    free := I3.hok.fresh (Nat.le_of_eq hC.symm)
    freeC := fun x c e => I3.freeC x c (hcl x c e)
    pin := fun p hp => by
      have hp' : p ∈ X.pn ++ pins := by simpa [cxF] using hp
      obtain ⟨a1, a2, a3, a4, a5⟩ := I3.pin p hp'
      refine ⟨hk _ _ a1, a2, fun z => ?_, fun z => ?_, a5⟩
      · have z' : p.1 = C := z
        have h1 := Heap.lt_size a1
        rw [z', hC] at h1
        exact Nat.lt_irrefl _ h1
      · rcases List.mem_cons.mp (I3.stkSub _ z) with y | y
        · exact a3 y
        · exact a4 y
    hok := I3.hok.kept hk
    len := by simp [cxF] }
  have stat : ∀ {H' : Hp}, (∀ b ∈ fp, H' b = none) → ∀ b ∈ fp, FpOk (cxF X scope cl (tgs ++ cps) s3 H3 C fp pins) [] H' b := fun hn b hb => by
    obtain ⟨_, _, _, _, _, q⟩ := f3 b hb
    exact ⟨hn b hb, (ok'.exf b hb).1, ok'.exfs b hb, .inl hb, (ok'.exf b hb).2, fun p hp => q p (by simpa [cxF] using hp)⟩
  have loop : codeAny (model X.prog X.w) X.A (.compLoop (.ListComp elt [⟨tg, iter, ifs, 0⟩] scope pos) 0 (.ref it) (.ref D) (compEnvC scope cl C X.env)) R { s3 with heap := h₁, toks := tk } := by
    refine compLoop_goT (fun n s' => ∃ i σ' H', Inv (cxF X scope cl (tgs ++ cps) s3 H3 C fp pins) [] σ' H' s' ∧ tn i s'.heap ∧ (∀ b ∈ fp, H' b = none) ∧ W i n H') ?_ m0
      ⟨0, _, H3, J0, T.keep _ _ _ st3 fun b hb o e => hk b o e, fun b hb => (f3 b hb).1, w0⟩
    rintro n s4 ⟨i, σ4, H4, I4, st4, fr4, w4⟩
    rcases turn i n H4 w4 with ⟨stop, qn⟩ | ⟨go, step⟩
    · refine thn (T.done (cxF X scope cl (tgs ++ cps) s3 H3 C fp pins) rfl rfl rfl hc i [] s4 σ4 H4 _ I4 (stat fr4) st4 stop) fun r s5 zz => ?_
      obtain ⟨hr, I5⟩ := zz
      subst hr
      exact hR s5 H4 σ4 I5 qn
    · refine thn (T.item (cxF X scope cl (tgs ++ cps) s3 H3 C fp pins) rfl rfl rfl hc i [] s4 σ4 H4 _ I4 (stat fr4) st4 go) fun r s5 zz => ?_
      obtain ⟨u, hr, h5⟩ := zz
      subst hr
      refine thn h5 fun _ s6 zz => ?_
      obtain ⟨x, H6, I6, r6, y6, st6, fr6⟩ := zz
      have I6w := I6.reset hsc hl hcap
      have I6' := I6w.pinned (stat fr6) (T.obj _ _ st6)
      refine wpAny_mono (hg cl s3 H3 C fp pins _ s6 _ H6 x u _ I6' r6 (step x H6 y6)) (fun _ s7 ⟨σ7, H7, I7, q7⟩ => ?_) fun _ _ z => z.elim
      refine wpAny_mono (hq cl s3 H3 C fp pins _ s7 σ7 H7 _ I7 q7) (fun b s7' ⟨H7', I7', q7'⟩ => ?_) fun _ _ z => z.elim
      cases b with
      | false =>
        obtain ⟨m', hm, w8⟩ := q7'
        refine ⟨m', hm, i + 1, σ7, H7', I7'.unpinned, T.keep _ _ _ st6 fun b hb o e => (I7'.pin (b, o) (List.mem_append_right _ (List.mem_append_right _ (mem_pinsAt hb e)))).1, fun b hb => ?_, w8⟩
        obtain ⟨o, e, d⟩ := T.obj _ _ st6 b hb
        exact (I7'.pin (b, o) (List.mem_append_right _ (List.mem_append_right _ (mem_pinsAt hb e)))).2.1
      | true =>
        refine wpAny_mono (he cl s3 H3 C fp pins _ s7' σ7 H7' _ I7' q7') (fun v s8 ⟨y, H8, I8, r8, q8⟩ => ?_) fun _ _ z => z.elim
        obtain ⟨ys, hy, hz, m', hm, w8⟩ := q8
        refine wpAny_mono (mt_append (X := cxF X scope cl (tgs ++ cps) s3 H3 C fp pins) _ s8 σ7 H8 (.ref D) [y] (.ref D) [v] (fun _ H9 => W (i + 1) m' H9) I8 rfl (.cons r8 .nil) ⟨D, ys, y, rfl, rfl, hy, hz, w8⟩) (fun _ s9 ⟨_, H9, I9, _, w9⟩ => ?_) fun _ _ z => z.elim
        refine ⟨m', hm, i + 1, σ7, H9, I9.unpinned, T.keep _ _ _ st6 fun b hb o e => (I9.pin (b, o) (List.mem_append_right _ (List.mem_append_right _ (mem_pinsAt hb e)))).1, fun b hb => ?_, w9⟩
        obtain ⟨o, e, d⟩ := T.obj _ _ st6 b hb
        exact (I9.pin (b, o) (List.mem_append_right _ (List.mem_append_right _ (mem_pinsAt hb e)))).2.1
  exact codeAny_compStart_list loop (T.self _ 0 _ _ _ (T.keep _ _ _ st3 fun b hb o e => hk b o e) loop)
theorem compF_gen (hc : X.calm = true) (hcell : ∀ x ∈ scope.names, x.2 ≠ .cell) (hkind : scope.kind = .function) (hnames : ∀ x ∈ scope.names, x.2 = .local → scope.names.lookup x.1 = some .local)
    (hfr : ∀ x ∈ scope.names, x.2 = .free → x.1 ∈ cps) (hN : caps.map (fun i => X.N[i]?) = cps.map some) (hX : ∀ x ∈ cps, X.env.scope.names.lookup x = some .cell ∧ scope.names.lookup x = some .free)
    (hsc : ∀ x ∈ cps, (relabel scope X.env).names.lookup x = some .cell ∨ (relabel scope X.env).names.lookup x = some .free)
    (hi : PI X tg iter wi) (hg : ∀ cl s3 H3 C fp pins, PG (cxF X scope cl (tgs ++ cps) s3 H3 C fp pins) tg g) (hq : ∀ cl s3 H3 C fp pins, PIfs (cxF X scope cl (tgs ++ cps) s3 H3 C fp pins) ifs tc) (he : ∀ cl s3 H3 C fp pins, PE (cxF X scope cl (tgs ++ cps) s3 H3 C fp pins) elt te)
    (hs : ∀ x, foldedSetIterable iter X.env x = pure x) {use : Option (Value → Sem Unit)} {Qf : Value → Shared → Prop} {pins : List (Addr × Obj)} {s : Shared} {σ : St} {H : Hp} {Q : VK} (I : Inv X pins σ H s) (h : tCompF tgs.length caps wi g tc te σ H Q)
    (hU : ∀ (D C : Addr) (s' : Shared) (H4 : Hp) (m4 : Str → Option Value), s'.heap.Ns C m4 → FpOk X pins H4 C → (∀ h', Heap.SameBut C s'.heap h' → Inv X pins σ H4 { s' with heap := h' }) → Q (.ref D) H4 → compPost (model X.prog X.w) X.A X.xe use Qf (.ref D) C (.ok .next) s') :
    wpAny (model X.prog X.w) X.A (comprehension (.ListComp elt [⟨tg, iter, ifs, 0⟩] scope pos) scope X.env (firstIterPos [⟨tg, iter, ifs, 0⟩] pos) (newList []) false (eval iter X.env) use) Qf X.xe s := by
  have hl : caps.length = cps.length := by
    have := congrArg List.length hN
    simpa using this
  have hcells : ∀ n, (n, NameKind.free) ∈ scope.names → ∃ c, X.env.cells.lookup n = some c := fun n hn => I.ok.has n (.inl (hX n (hfr _ hn rfl)).1)
  refine wpAny_comprehension_free (use := use) rfl hs (closure_for hcells) hkind hnames (thn (hi pins s σ H _ I h) fun v s1 h1 => thn h1 fun itv s2 h2 => ?_)
  obtain ⟨it, fp, tn, J, H', e, I2, T, st2, f2, hW⟩ := h2
  subst e
  refine wpAny_newObj_type (hd := by size_fits) (wpAny_newFunctionEnv hcell (by intro y hy; simp at hy) (fun h₁ hns₁ hsb₁ => ?_) hkind)
  dsimp only at hns₁ hsb₁ ⊢
  have I3 := I2.lnew (ys := []) (its := []) (t' := s2.toks) .nil (Nat.zero_le _)
  obtain ⟨W, ⟨m0, w0⟩, turn⟩ := hW _ I2.fresh
  have st3 : tn 0 (s2.heap.push { cls := .type "list", data := .seq ([] : List Value).toArray }) := T.keep _ _ _ st2 fun b hb o e => Heap.get?_push_of_some _ e
  have f3 : ∀ b ∈ fp, FpOk X pins (upd H' s2.heap.objs.size (.lst [])) b := fun b hb => by
    obtain ⟨q0, q⟩ := f2 b hb
    obtain ⟨o, e, _⟩ := T.obj 0 _ st2 b hb
    exact ⟨by rw [upd_ne (Nat.ne_of_lt (Heap.lt_size e))]; exact q0, q⟩
  have old : ∀ b o, (s2.heap.push { cls := .type "list", data := .seq ([] : List Value).toArray }).get? b = some o → h₁.get? b = some o := fun b o e =>
    hsb₁.extBut b o (Nat.ne_of_lt (Heap.lt_size e)) (Heap.get?_push_of_some _ e)
  have hcap : ∀ (j : Nat) (x : Str) (v : V), cps[j]? = some x → (caps.map fun i => (σ[i]?).getD none)[j]? = some (some v) →
      CapOk { s2 with heap := s2.heap.push { cls := .type "list", data := .seq ([] : List Value).toArray }, toks := s2.toks } (upd H' s2.heap.objs.size (.lst [])) fp (clFor X.env.cells scope.names []) x v := fun j x v ex ev => by
    have hx := hX x (List.mem_of_getElem? ex)
    have hj : (caps.map (fun i => X.N[i]?))[j]? = some (some x) := by rw [hN, List.getElem?_map, ex]; rfl
    rw [List.getElem?_map] at ev hj
    cases hcj : caps[j]? with
    | none => rw [hcj] at ev; cases ev
    | some i =>
      rw [hcj] at ev hj
      have ev' : (σ[i]?).getD none = some v := by simpa using ev
      have hj' : X.N[i]? = some x := by simpa using hj
      have es : σ[i]? = some (some v) := by
        cases q : σ[i]? with
        | none => rw [q] at ev'; cases ev'
        | some w => rw [q] at ev'; rw [show w = some v by simpa using ev']
      obtain ⟨m, hn, hlook⟩ := I3.loc
      obtain ⟨u, ru, lk⟩ := hlook i x v hj' es (.inr (.inl hx.1))
      rcases lk with ⟨k1, _⟩ | ⟨_, c, hc1, o, ho, hd⟩
      · have k1' : X.env.scope.names.lookup x = some .local := k1
        rw [hx.1] at k1'; cases k1'
      · have hmem : (x, NameKind.free) ∈ scope.names := by
          have hlk := hx.2
          have go : ∀ l : List (Str × NameKind), l.lookup x = some .free → (x, NameKind.free) ∈ l := by
            intro l
            induction l with
            | nil => intro z; cases z
            | cons p r ih =>
              intro z
              obtain ⟨n, k⟩ := p
              rw [List.lookup_cons] at z
              split at z
              · rename_i q; have q' : x = n := by simpa using q
                have z' : k = .free := by simpa using z
                rw [q', z']; exact List.mem_cons_self
              · exact List.mem_cons_of_mem _ (ih z)
          exact go _ hlk
        obtain ⟨c', hc'⟩ := clFor_has (cells := X.env.cells) scope.names [] (.inl hmem)
        have := clFor_some scope.names [] hcells (fun y d z => by cases z) hc'
        rw [hc1] at this
        cases this
        refine ⟨u, c, o, ru, hc', ho, hd, I3.freeC x c hc1, fun hb => ?_⟩
        exact (f3 c hb).2.2.2.2.1 x c hc1 rfl
  refine compF_block (s3 := { s2 with heap := s2.heap.push { cls := .type "list", data := .seq ([] : List Value).toArray }, toks := s2.toks }) (Qd := fun H => Q (.ref s2.heap.objs.size) H) (tk := s2.toks + ([] : List (Str × Value)).length) (cl := clFor X.env.cells scope.names [])
    hc hcell hkind (fun x c z => clFor_some scope.names [] hcells (fun y d z => by cases z) z) (fun x z => clFor_has scope.names [] (.inl z)) hsc hl hcap hg hq he I3 T st3 f3 rfl hns₁ old W m0 w0 turn fun s' H4 σ4 I4 q4 => ?_
  obtain ⟨m4, hn4, _⟩ := I4.loc
  have hCfree : H4 _ = none := I4.free
  have nC : ∀ b u, H4 b = some u → b ≠ (s2.heap.push { cls := .type "list", data := .seq ([] : List Value).toArray }).objs.size := fun b u e z => by
    rw [z] at e
    have := e.symm.trans hCfree
    cases this
  have lt : ∀ b o, (s2.heap.push { cls := .type "list", data := .seq ([] : List Value).toArray }).get? b = some o → b ≠ (s2.heap.push { cls := .type "list", data := .seq ([] : List Value).toArray }).objs.size := fun b o e => Nat.ne_of_lt (Heap.lt_size e)
  have ub := I4.base
  have fC : FpOk X pins H4 (s2.heap.push { cls := .type "list", data := .seq ([] : List Value).toArray }).objs.size := I3.fpOk (Nat.le_refl _) hCfree
  refine hU _ _ s' H4 m4 hn4 fC (fun h' hsb => ?_) q4
  have un : Un (frs X.stack) fp (upd H' s2.heap.objs.size (.lst [])) H4 (s2.heap.push { cls := .type "list", data := .seq ([] : List Value).toArray }) h' := {
    keep := fun b o e n x y => (hsb.2 b (lt b o e)).trans (ub.keep b o e n x y)
    slot := fun b o e n x y => let ⟨q, z⟩ := ub.slot b o e n x y; ⟨q, (hsb.2 b (lt b o e)).trans z⟩
    free := ub.free
    there := fun b o e y => let ⟨q, z⟩ := ub.there b o e y; ⟨q, (hsb.2 b (lt b o e)).trans z⟩
    tups := ub.tups
    frzs := ub.frzs
    tbls := ub.tbls }
  refine I3.call' (s' := { s' with heap := h' }) I4.os un (fun b u e => ?_) I4.bare fun b hb => ?_
  · refine (I4.hok b u e).stay (fun c v hcv q => (hsb.2 c ?_).trans q) (fun _ q => q) fun _ _ q => q
    rcases hcv with z | z
    · rw [z]; exact nC b u e
    · exact nC c _ z
  · obtain ⟨q0, q1, q2, q3, q4, q5⟩ := f3 b hb
    exact ⟨q3, q1, q4, q5⟩
theorem pe_compF (hc : X.calm = true) (hcell : ∀ x ∈ scope.names, x.2 ≠ .cell) (hkind : scope.kind = .function) (hnames : ∀ x ∈ scope.names, x.2 = .local → scope.names.lookup x.1 = some .local)
    (hfr : ∀ x ∈ scope.names, x.2 = .free → x.1 ∈ cps) (hN : caps.map (fun i => X.N[i]?) = cps.map some) (hX : ∀ x ∈ cps, X.env.scope.names.lookup x = some .cell ∧ scope.names.lookup x = some .free)
    (hsc : ∀ x ∈ cps, (relabel scope X.env).names.lookup x = some .cell ∨ (relabel scope X.env).names.lookup x = some .free)
    (hi : PI X tg iter wi) (hg : ∀ cl s3 H3 C fp pins, PG (cxF X scope cl (tgs ++ cps) s3 H3 C fp pins) tg g) (hq : ∀ cl s3 H3 C fp pins, PIfs (cxF X scope cl (tgs ++ cps) s3 H3 C fp pins) ifs tc) (he : ∀ cl s3 H3 C fp pins, PE (cxF X scope cl (tgs ++ cps) s3 H3 C fp pins) elt te)
    (hs : ∀ x, foldedSetIterable iter X.env x = pure x := by intro _; rfl) : PE X (.ListComp elt [⟨tg, iter, ifs, 0⟩] scope pos) (tCompF tgs.length caps wi g tc te) := by
  intro pins s σ H Q I h
  rw [eval_ListComp]
  exact compF_gen hc hcell hkind hnames hfr hN hX hsc hi hg hq he hs I h fun D C s' H4 m4 hn4 fC hI q4 => ⟨m4, hn4, fun h' hsb => ⟨.ref D, H4, hI h' hsb, rfl, q4⟩⟩
noncomputable def PU (X : Cx) (i : Nat) (x : Str) (pos' : Pos) (e : Expr) (te : TE) : Prop := ∀ (pins : List (Addr × Obj)) (s : Shared) (σ : St) (H : Hp) (Q : VK), Inv X pins σ H s → te σ H Q →
  wpAny (model X.prog X.w) X.A (evalThenUse e X.env (assign (.Name x pos') X.env)) (fun _ s' => ∃ v H', Inv X pins (σ.set i (some v)) H' s' ∧ Q v H') X.xe s
theorem PU.imp {X : Cx} {i : Nat} {x : Str} {pos' : Pos} {e : Expr} {t t' : TE} (h : PU X i x pos' e t) (f : ∀ σ H Q, t' σ H Q → t σ H Q) : PU X i x pos' e t' := fun pins s σ H Q I q => h pins s σ H Q I (f σ H Q q)
theorem ps_setU {i : Nat} {x : Str} {pos' pos : Pos} {e : Expr} {te : TE} (h : PU X i x pos' e te) (hs : swapsWith e (some (.Name x pos')) pos.line X.env = pure true) : PS X (.Assign [.Name x pos'] e pos) (tAsg te (gName i)) := by
  intro pins s σ H D I q
  rw [exec_Assign_Name_used _ _ _ _ hs]
  refine wpAny_bind (wpAny_standAt (wpAny_bind (thn (h pins s σ H _ I q) fun _ s1 ⟨v, H1, I1, q1⟩ => wpAny_pure ?_)))
  exact ⟨_, H1, I1, q1⟩
theorem pu_compF (hc : X.calm = true) (hcell : ∀ x ∈ scope.names, x.2 ≠ .cell) (hkind : scope.kind = .function) (hnames : ∀ x ∈ scope.names, x.2 = .local → scope.names.lookup x.1 = some .local)
    (hfr : ∀ x ∈ scope.names, x.2 = .free → x.1 ∈ cps) (hN : caps.map (fun i => X.N[i]?) = cps.map some) (hX : ∀ x ∈ cps, X.env.scope.names.lookup x = some .cell ∧ scope.names.lookup x = some .free)
    (hsc : ∀ x ∈ cps, (relabel scope X.env).names.lookup x = some .cell ∨ (relabel scope X.env).names.lookup x = some .free)
    (hi : PI X tg iter wi) (hg : ∀ cl s3 H3 C fp pins, PG (cxF X scope cl (tgs ++ cps) s3 H3 C fp pins) tg g) (hq : ∀ cl s3 H3 C fp pins, PIfs (cxF X scope cl (tgs ++ cps) s3 H3 C fp pins) ifs tc) (he : ∀ cl s3 H3 C fp pins, PE (cxF X scope cl (tgs ++ cps) s3 H3 C fp pins) elt te)
    {i : Nat} {x : Str} {pos' : Pos} (hNd : X.N.Nodup) (hxi : X.N[i]? = some x) (hx : Loc X.env.scope x) (hf : X.fn x = true ∨ X.env.scope.names.lookup x = some .local)
    (hs : ∀ x, foldedSetIterable iter X.env x = pure x := by intro _; rfl) : PU X i x pos' (.ListComp elt [⟨tg, iter, ifs, 0⟩] scope pos) (tCompF tgs.length caps wi g tc te) := by
  intro pins s σ H Q I h
  refine wpAny_bind (thn (compF_gen (use := some (assign (.Name x pos') X.env)) (Qf := fun _ s' => ∃ v H', Inv X pins (σ.set i (some v)) H' s' ∧ Q v H') hc hcell hkind hnames hfr hN hX hsc hi hg hq he hs I h fun D C s' H4 m4 hn4 fC hI q4 => ?_) fun _ s1 z => wpAny_pure z)
  have I4 : Inv X pins σ H4 s' := hI s'.heap (Heap.SameBut.refl _ _)
  show wpAny _ _ (assign (.Name x pos') X.env (.ref D)) _ _ s'
  refine wpAny_assign_Name (store_ok2 (v := .ref D) I4 hNd hxi hx rfl (fun s2 I2 ⟨a, hsb, ha⟩ => ?_) hf)
  have hac : C ≠ a := by
    rcases ha with ha | ha
    · rw [ha]; exact fC.2.1
    · exact Ne.symm (fC.2.2.2.2.1 x a ha)
  refine ⟨m4, hn4.sameBut hsb hac, fun h' hs' => ⟨.ref D, H4, ?_, q4⟩⟩
  exact I2.turned (t' := s2.toks) (fun b o hb e => hs'.extBut b o hb e) fC.1 fC.2.1 fC.2.2.2.1 fC.2.2.2.2.1 fC.2.2.2.2.2
end
end L2

namespace L2
open PySem
noncomputable def SI : Bool → Heap → Addr → Addr → Nat → Prop
  | true, h, it, a, i => h.IsListIter it a i
  | false, h, it, a, i => h.IsTupleIter it a i
noncomputable def SS : Bool → Heap → Addr → Array Value → Prop
  | true, h, a, xs => h.IsList a xs
  | false, h, a, xs => h.IsTuple a xs
theorem SI.at {k : Bool} {h h' : Heap} {it a : Addr} {i : Nat} (x : SI k h it a i) (f : ∀ o, h.get? it = some o → h'.get? it = some o) : SI k h' it a i := by
  cases k <;> (obtain ⟨o, e, r⟩ := x; exact ⟨o, f o e, r⟩)
theorem SS.at {k : Bool} {h h' : Heap} {a : Addr} {xs : Array Value} (x : SS k h a xs) (f : ∀ o, h.get? a = some o → h'.get? a = some o) : SS k h' a xs := by
  cases k <;> (obtain ⟨o, e, r⟩ := x; exact ⟨o, f o e, r⟩)
theorem SI.obj {k : Bool} {h : Heap} {it a : Addr} {i : Nat} (x : SI k h it a i) : ∃ o, h.get? it = some o ∧ ∀ v, o.data ≠ .cell v := by
  cases k <;> (obtain ⟨o, e, c, d⟩ := x; exact ⟨o, e, fun v z => by rw [d] at z; cases z⟩)
theorem SS.obj {k : Bool} {h : Heap} {a : Addr} {xs : Array Value} (x : SS k h a xs) : ∃ o, h.get? a = some o := by
  cases k <;> (obtain ⟨o, e, _⟩ := x; exact ⟨o, e⟩)
section
variable {prog : Program} {w : World} {A : Around} {E : Value → Shared → Prop} {s : Shared}
theorem tupleStep {p t : Addr} {n : Nat} {xs : Array Value} {v : Value} {Q : Value → Shared → Prop} (hp : s.heap.IsTupleIter p t n) (ht : s.heap.IsTuple t xs) (hv : xs[n]? = some v)
    (q : ∀ h', h'.IsTupleIter p t (n + 1) → Heap.SameBut p s.heap h' → Q v { s with heap := h' }) : wpAny (model prog w) A (Builtin.SmallTypes.nextOf (.ref p)) Q E s := by
  obtain ⟨ob, e1, e2, e3⟩ := id hp
  obtain ⟨ot, f1, _, cap, f2⟩ := ht
  unfold Builtin.SmallTypes.nextOf
  refine wpAny_bind (wpAny_callSpecial?_slot (name := Str.ofString "__next__") hp.typeIs F.slot_tuple_iterator_next (wpAny_call_entry F.slot_tuple_iterator_next hp.typeIs F.entry_tuple_iterator_next ?_ (F.args_tuple_iterator_next_1 _)))
  show wpAny _ _ (field (.ref p) 0 >>= _) _ _ s
  refine wpAny_bind (wpAny_field e1 e3 (x := .ref t) rfl ?_)
  show wpAny _ _ (if (Value.ref t == Value.none) = true then _ else _) _ _ s
  rw [if_neg (fun z : (Value.ref t == Value.none) = true => nomatch z)]
  show wpAny _ _ (field (.ref p) 1 >>= _) _ _ s
  refine wpAny_bind (wpAny_field e1 e3 (x := .int n 0) rfl ?_)
  show wpAny _ _ (seqItems? (.ref t) >>= _) _ _ s
  refine wpAny_bind (wpAny_seqItems f1 f2 ?_)
  simp only [Int.toNat_natCast, hv]
  refine wpAny_bind (wpAny_setField e1 e3 (by simp) (wpAny_pure ⟨v, rfl, wpAny_pure (q _ ⟨_, Heap.get?_update_self _ e1 (Obj.isFreed_of_fields (Obj.data_mapFields e3 _)), (Obj.cls_mapFields ..).trans e2, ?_⟩ (Heap.SameBut.update ..))⟩))
  rw [Obj.data_mapFields e3]; simp [rawInt]
theorem tupleEnd {p t : Addr} {n : Nat} {xs : Array Value} {Q : Value → Shared → Prop} (hA : A.handled = none) (hp : s.heap.IsTupleIter p t n) (ht : s.heap.IsTuple t xs) (hv : xs[n]? = none)
    (q : ∀ h' e, Heap.ExtBut p s.heap h' → (∃ o, h'.get? e = some o ∧ o.cls = .type "StopIteration") → E (.ref e) { s with heap := h' }) : wpAny (model prog w) A (Builtin.SmallTypes.nextOf (.ref p)) Q E s := by
  obtain ⟨ob, e1, e2, e3⟩ := id hp
  obtain ⟨ot, f1, _, cap, f2⟩ := ht
  unfold Builtin.SmallTypes.nextOf
  refine wpAny_bind (wpAny_callSpecial?_slot (name := Str.ofString "__next__") hp.typeIs F.slot_tuple_iterator_next (wpAny_call_entry F.slot_tuple_iterator_next hp.typeIs F.entry_tuple_iterator_next ?_ (F.args_tuple_iterator_next_1 _)))
  show wpAny _ _ (field (.ref p) 0 >>= _) _ _ s
  refine wpAny_bind (wpAny_field e1 e3 (x := .ref t) rfl ?_)
  show wpAny _ _ (if (Value.ref t == Value.none) = true then _ else _) _ _ s
  rw [if_neg (fun z : (Value.ref t == Value.none) = true => nomatch z)]
  show wpAny _ _ (field (.ref p) 1 >>= _) _ _ s
  refine wpAny_bind (wpAny_field e1 e3 (x := .int n 0) rfl ?_)
  show wpAny _ _ (seqItems? (.ref t) >>= _) _ _ s
  refine wpAny_bind (wpAny_seqItems f1 f2 ?_)
  simp only [Int.toNat_natCast, hv]
  refine wpAny_bind (wpAny_rule (wpAny_bind (wpAny_setField e1 e3 (by simp) ?_)))
  show wpAny _ _ (newExc (.type "StopIteration") [] >>= _) _ _ _
  refine wpAny_bind ?_; simp only [newExc, newTuple]
  refine wpAny_bind (wpAny_newObj_type ?_ (by size_fits)); refine wpAny_bind (m := firstArgMember _ _) (wpAny_of_eq (a := Value.none) (by first | rfl | (simp only [firstArgMember]; rfl)) ?_)
  refine wpAny_newObj_type ?_ (by size_fits); simp only [raiseNew]; refine wpAny_bind (wpAny_handled ?_)
  first | rw [show A.in1.handled = none from hA] | rw [hA]
  refine wpAny_bind (wpAny_pure (wpAny_throw (q _ _ (((Heap.SameBut.update ..).extBut.push _).push _) ⟨_, Heap.get?_push_size _ rfl, rfl⟩)))
theorem seqStep {k : Bool} {p a : Addr} {n : Nat} {xs : Array Value} {v : Value} {Q : Value → Shared → Prop} (hp : SI k s.heap p a n) (ha : SS k s.heap a xs) (hv : xs[n]? = some v)
    (q : ∀ h', SI k h' p a (n + 1) → Heap.SameBut p s.heap h' → Q v { s with heap := h' }) : wpAny (model prog w) A (Builtin.SmallTypes.nextOf (.ref p)) Q E s := by
  cases k with
  | true => exact wpAny_nextOf_list_item hp ha hv q
  | false => exact tupleStep hp ha hv q
theorem seqEnd {k : Bool} {p a : Addr} {n : Nat} {xs : Array Value} {Q : Value → Shared → Prop} (hA : A.handled = none) (hp : SI k s.heap p a n) (ha : SS k s.heap a xs) (hv : xs[n]? = none)
    (q : ∀ h' e, Heap.ExtBut p s.heap h' → (∃ o, h'.get? e = some o ∧ o.cls = .type "StopIteration") → E (.ref e) { s with heap := h' }) : wpAny (model prog w) A (Builtin.SmallTypes.nextOf (.ref p)) Q E s := by
  cases k with
  | true => exact wpAny_nextOf_list_end hA hp ha hv q
  | false => exact tupleEnd hA hp ha hv q
theorem SI.but {k : Bool} {h h' : Heap} {it a b : Addr} {i : Nat} (x : SI k h it a i) (e : Heap.ExtBut b h h') (n : it ≠ b) : SI k h' it a i := x.at fun o z => e it o n z
theorem SS.but {k : Bool} {h h' : Heap} {a b : Addr} {xs : Array Value} (x : SS k h a xs) (e : Heap.ExtBut b h h') (n : a ≠ b) : SS k h' a xs := x.at fun o z => e a o n z
theorem zipTurn {z TI TO p1 p2 l1 l2 : Addr} {c1 c2 : Bool} {n1 n2 : Nat} {xs ys : Array Value} {v1 v2 u1 u2 : Value} {Q : Option Value → Shared → Prop} (D : ZipApart z TI TO p1 p2 l1 l2)
    (iz : IsZip s.heap z TI TO .none) (iI : IsPair s.heap TI (.ref p1) (.ref p2)) (iO : IsPair s.heap TO u1 u2) (g1 : SI c1 s.heap p1 l1 n1) (g2 : SI c2 s.heap p2 l2 n2) (m1 : SS c1 s.heap l1 xs) (m2 : SS c2 s.heap l2 ys) (w1 : xs[n1]? = some v1) (w2 : ys[n2]? = some v2)
    (q : ∀ h', IsZip h' z TI TO (rawInt s.heap.objs.size) → IsPair h' TO v1 v2 → SI c1 h' p1 l1 (n1 + 1) → SI c2 h' p2 l2 (n2 + 1) → IsPair h' s.heap.objs.size v1 v2 → h'.objs.size = s.heap.objs.size + 1 →
      (∀ b o, b ≠ z → b ≠ TO → b ≠ p1 → b ≠ p2 → s.heap.get? b = some o → h'.get? b = some o) → Q (some (.ref s.heap.objs.size)) { s with heap := h' }) : wpAny (model prog w) A (pyNext (.ref z)) Q E s := by
  have ty : s.TypeIs (.ref z) "zip" := ⟨_, iz, rfl⟩
  unfold pyNext
  refine wpAny_bind (wpAny_attempt (wpAny_callSpecial?_slot (name := Str.ofString "__next__") ty F.slot_zip_next (wpAny_call_entry F.slot_zip_next ty F.entry_zip_next ?_ (F.args_zip_next_1 _))))
  show wpAny _ _ (field (.ref z) 2 >>= _) _ _ _
  refine wpAny_bind (wpAny_field iz rfl (x := .bool false) rfl ?_)
  show wpAny _ _ (field (.ref z) 3 >>= _) _ _ _
  refine wpAny_bind (wpAny_field iz rfl (x := .ref TI) rfl (wpAny_bind (wpAny_seqItems iI rfl ?_)))
  show wpAny _ _ (Builtin.SmallTypes.ownedTupleIsFree (.ref z) >>= _) _ _ _
  refine wpAny_bind ?_; unfold Builtin.SmallTypes.ownedTupleIsFree
  refine wpAny_bind (wpAny_field iz rfl (x := .none) rfl (wpAny_pure ?_)); simp only [if_true]
  refine wpAny_bind (wpAny_rule (wpAny_bind (wpAny_field iz rfl (x := .ref TO) rfl (wpAny_bind (wpAny_setField_rec iz (by simp) fun ha za sa => ?_)))))
  replace za : IsZip ha z TI TO .ellipsis := za
  refine wpAny_bind ?_; simp only [List.zipIdx_cons, List.zipIdx_nil, List.forIn_cons, List.forIn_nil]
  refine wpAny_bind (wpAny_bind (wpAny_onRaise ?_))
  show wpAny _ _ (Builtin.SmallTypes.nextOf (.ref p1) >>= _) _ _ _
  refine wpAny_bind (seqStep (g1.but sa.extBut D.i1z) (m1.but sa.extBut D.l1z) w1 fun hb gb sb => wpAny_pure ?_)
  have oB : IsPair hb TO u1 u2 := sb.extBut _ _ D.TOi1 (sa.extBut _ _ D.TOz iO)
  refine wpAny_bind (wpAny_seqItems oB rfl (wpAny_bind (wpAny_updateSeq_pair oB fun hc oC sc => ?_)))
  replace oC : IsPair hc TO v1 u2 := oC
  refine wpAny_bind (wpAny_letGo (wpAny_pure (wpAny_bind (wpAny_bind (wpAny_onRaise ?_)))))
  show wpAny _ _ (Builtin.SmallTypes.nextOf (.ref p2) >>= _) _ _ _
  refine wpAny_bind (seqStep (((g2.but sa.extBut D.i2z).but sb.extBut D.i12.symm).but sc.extBut D.TOi2.symm) (((m2.but sa.extBut D.l2z).but sb.extBut D.l2i1).but sc.extBut D.l2TO) w2 fun hd gd sd => wpAny_pure ?_)
  have oD : IsPair hd TO v1 u2 := sd.extBut _ _ D.TOi2 oC
  refine wpAny_bind (wpAny_seqItems oD rfl (wpAny_bind (wpAny_updateSeq_pair oD fun he oE se => ?_)))
  replace oE : IsPair he TO v1 v2 := oE
  refine wpAny_bind (wpAny_letGo (wpAny_pure (wpAny_pure (wpAny_bind (wpAny_seqItems oE rfl (wpAny_bind (wpAny_newTuple ?_)))))))
  have zs : he.objs.size = s.heap.objs.size := by rw [se.1, sd.1, sc.1, sb.1, sa.1]
  have zE : IsZip he z TI TO .ellipsis := se.extBut _ _ D.TOz.symm (sd.extBut _ _ D.i2z.symm (sc.extBut _ _ D.TOz.symm (sb.extBut _ _ D.i1z.symm za)))
  have kE : ∀ b o, b ≠ z → b ≠ TO → b ≠ p1 → b ≠ p2 → s.heap.get? b = some o → he.get? b = some o := fun b o b1 b2 b3 b4 e => se.extBut _ _ b2 (sd.extBut _ _ b4 (sc.extBut _ _ b2 (sb.extBut _ _ b3 (sa.extBut _ _ b1 e))))
  have gE1 : SI c1 he p1 l1 (n1 + 1) := ((gb.but sc.extBut D.TOi1.symm).but sd.extBut D.i12).but se.extBut D.TOi1.symm
  have gE2 : SI c2 he p2 l2 (n2 + 1) := gd.but se.extBut D.TOi2.symm
  have ltz : z < he.objs.size := Heap.lt_size zE
  show wpAny _ _ (Builtin.SmallTypes.ownedTupleHandOut (.ref z) (.ref he.objs.size) >>= _) _ _ _
  refine wpAny_bind ?_; unfold Builtin.SmallTypes.ownedTupleHandOut
  refine wpAny_bind (wpAny_setField_rec (Heap.get?_push_of_some _ zE) (by simp) fun hf zf sf => ?_)
  replace zf : IsZip hf z TI TO (rawInt he.objs.size) := zf
  refine wpAny_setField_rec zf (by simp) fun hg zg sg => ?_
  replace zg : IsZip hg z TI TO (rawInt he.objs.size) := zg
  have lift : ∀ b o, b ≠ z → he.get? b = some o → hg.get? b = some o := fun b o b1 e => sg.extBut _ _ b1 (sf.extBut _ _ b1 (Heap.get?_push_of_some _ e))
  have tG : IsPair hg he.objs.size v1 v2 := sg.extBut _ _ (Nat.ne_of_gt ltz) (sf.extBut _ _ (Nat.ne_of_gt ltz) (Heap.get?_push_size _ rfl))
  have zz : hg.objs.size = he.objs.size + 1 := by rw [sg.1, sf.1, Heap.size_push]
  rw [zs] at zg tG zz
  refine wpAny_pure ⟨_, rfl, wpAny_pure ?_⟩
  show Q (some (.ref he.objs.size)) _
  rw [zs]
  exact q hg zg (lift _ _ D.TOz oE) (gE1.at fun o e => lift _ o D.i1z e) (gE2.at fun o e => lift _ o D.i2z e) tG zz fun b o b1 b2 b3 b4 e => lift b o b1 (kE b o b1 b2 b3 b4 e)
theorem zipEnd {z TI TO p1 p2 l1 l2 : Addr} {c1 c2 : Bool} {n1 n2 : Nat} {xs ys : Array Value} {u1 u2 : Value} {Q : Option Value → Shared → Prop} (hA : A.handled = none) (D : ZipApart z TI TO p1 p2 l1 l2)
    (iz : IsZip s.heap z TI TO .none) (iI : IsPair s.heap TI (.ref p1) (.ref p2)) (iO : IsPair s.heap TO u1 u2) (g1 : SI c1 s.heap p1 l1 n1) (g2 : SI c2 s.heap p2 l2 n2) (m1 : SS c1 s.heap l1 xs) (m2 : SS c2 s.heap l2 ys) (fin : xs[n1]? = none ∨ ys[n2]? = none)
    (q : ∀ h', (∀ b o, b ≠ z → b ≠ TO → b ≠ p1 → b ≠ p2 → s.heap.get? b = some o → h'.get? b = some o) → Q none { s with heap := h' }) : wpAny (model prog w) A (pyNext (.ref z)) Q E s := by
  have ty : s.TypeIs (.ref z) "zip" := ⟨_, iz, rfl⟩
  unfold pyNext
  have out : ∀ (h' : Heap) (e : Addr), (∀ b o, b ≠ z → b ≠ TO → b ≠ p1 → b ≠ p2 → s.heap.get? b = some o → h'.get? b = some o) → (∃ o, h'.get? e = some o ∧ o.cls = .type "StopIteration") →
      wpAny (model prog w) A (do if ← isInstance (.ref e) (.type "StopIteration") then pure none else throw (.ref e) : Sem (Option Value)) Q E { s with heap := h' } := fun h' e k ⟨o, e1, e2⟩ =>
    wpAny_bind (wpAny_isInstance (T := "StopIteration") (b := true) ⟨o, e1, e2⟩ isSubtype_stop (wpAny_pure (q h' k)))
  refine wpAny_bind (wpAny_attempt (wpAny_callSpecial?_slot (name := Str.ofString "__next__") ty F.slot_zip_next (wpAny_call_entry F.slot_zip_next ty F.entry_zip_next ?_ (F.args_zip_next_1 _))))
  show wpAny _ _ (field (.ref z) 2 >>= _) _ _ _
  refine wpAny_bind (wpAny_field iz rfl (x := .bool false) rfl ?_)
  show wpAny _ _ (field (.ref z) 3 >>= _) _ _ _
  refine wpAny_bind (wpAny_field iz rfl (x := .ref TI) rfl (wpAny_bind (wpAny_seqItems iI rfl ?_)))
  show wpAny _ _ (Builtin.SmallTypes.ownedTupleIsFree (.ref z) >>= _) _ _ _
  refine wpAny_bind ?_; unfold Builtin.SmallTypes.ownedTupleIsFree
  refine wpAny_bind (wpAny_field iz rfl (x := .none) rfl (wpAny_pure ?_)); simp only [if_true]
  refine wpAny_bind (wpAny_rule (wpAny_bind (wpAny_field iz rfl (x := .ref TO) rfl (wpAny_bind (wpAny_setField_rec iz (by simp) fun ha za sa => ?_)))))
  replace za : IsZip ha z TI TO .ellipsis := za
  refine wpAny_bind ?_; simp only [List.zipIdx_cons, List.zipIdx_nil, List.forIn_cons, List.forIn_nil]
  refine wpAny_bind (wpAny_bind (wpAny_onRaise ?_))
  show wpAny _ _ (Builtin.SmallTypes.nextOf (.ref p1) >>= _) _ _ _
  cases w1 : xs[n1]? with
  | none =>
    refine wpAny_bind (seqEnd hA (g1.but sa.extBut D.i1z) (m1.but sa.extBut D.l1z) w1 fun hb e sb zz => ?_)
    obtain ⟨oe, oe1, oe2⟩ := zz
    have zb : IsZip hb z TI TO .ellipsis := sb _ _ D.i1z.symm za
    have nz : e ≠ z := fun y => by subst y; rw [zb] at oe1; cases oe1; simp at oe2
    refine wpAny_setField_rec zb (by simp) fun hc _ sc => out hc e (fun b o b1 _ b3 _ y => sc.extBut _ _ b1 (sb _ _ b3 (sa.extBut _ _ b1 y))) ⟨oe, sc.extBut _ _ nz oe1, oe2⟩
  | some v1 =>
    have w2 : ys[n2]? = none := fin.resolve_left (by rw [w1]; exact fun y => nomatch y)
    refine wpAny_bind (seqStep (g1.but sa.extBut D.i1z) (m1.but sa.extBut D.l1z) w1 fun hb gb sb => wpAny_pure ?_)
    have oB : IsPair hb TO u1 u2 := sb.extBut _ _ D.TOi1 (sa.extBut _ _ D.TOz iO)
    refine wpAny_bind (wpAny_seqItems oB rfl (wpAny_bind (wpAny_updateSeq_pair oB fun hc oC sc => ?_)))
    refine wpAny_bind (wpAny_letGo (wpAny_pure (wpAny_bind (wpAny_bind (wpAny_onRaise ?_)))))
    show wpAny _ _ (Builtin.SmallTypes.nextOf (.ref p2) >>= _) _ _ _
    refine wpAny_bind (seqEnd hA (((g2.but sa.extBut D.i2z).but sb.extBut D.i12.symm).but sc.extBut D.TOi2.symm) (((m2.but sa.extBut D.l2z).but sb.extBut D.l2i1).but sc.extBut D.l2TO) w2 fun hd e sd zz => ?_)
    obtain ⟨oe, oe1, oe2⟩ := zz
    have zd : IsZip hd z TI TO .ellipsis := sd _ _ D.i2z.symm (sc.extBut _ _ D.TOz.symm (sb.extBut _ _ D.i1z.symm za))
    have nz : e ≠ z := fun y => by subst y; rw [zd] at oe1; cases oe1; simp at oe2
    refine wpAny_setField_rec zd (by simp) fun he _ se => out he e (fun b o b1 b2 b3 b4 y => se.extBut _ _ b1 (sd _ _ b4 (sc.extBut _ _ b2 (sb.extBut _ _ b3 (sa.extBut _ _ b1 y))))) ⟨oe, se.extBut _ _ nz oe1, oe2⟩
end
noncomputable abbrev itO (k : Bool) (a : Addr) : Obj := { cls := .type (if k then "list_iterator" else "tuple_iterator"), data := .fields #[.ref a, .int 0 0] }
noncomputable abbrev zA (k1 : Bool) (h : Heap) (l1 : Addr) : Heap := h.push (itO k1 l1)
noncomputable abbrev zB (k1 k2 : Bool) (h : Heap) (l1 l2 : Addr) : Heap := (zA k1 h l1).push (itO k2 l2)
noncomputable abbrev zC (k1 k2 : Bool) (h : Heap) (l1 l2 : Addr) : Heap := (zB k1 k2 h l1 l2).push { cls := .type "tuple", data := .seq #[.ref h.objs.size, .ref (zA k1 h l1).objs.size] }
noncomputable abbrev zD (k1 k2 : Bool) (h : Heap) (l1 l2 : Addr) : Heap := (zC k1 k2 h l1 l2).push { cls := .type "tuple", data := .seq #[.none, .none] }
noncomputable abbrev zE (k1 k2 : Bool) (h : Heap) (l1 l2 : Addr) : Heap := (zD k1 k2 h l1 l2).push { cls := .type "zip", data := .fields #[.none, .bool false, .bool false, .ref (zB k1 k2 h l1 l2).objs.size, .ref (zC k1 k2 h l1 l2).objs.size] }
set_option maxHeartbeats 2000000 in
theorem zipNew (k1 k2 : Bool) (l1 l2 : Addr) (xs ys : Array Value) :
    Meets (Builtin.«zip.__new__» ⟨[.type "zip", .ref l1, .ref l2], []⟩) (fun _ R s => SS k1 s.heap l1 xs ∧ SS k2 s.heap l2 ys ∧ R (.ok (.ret (.ref (zD k1 k2 s.heap l1 l2).objs.size))) { s with heap := zE k1 k2 s.heap l1 l2 }) :=
  .of_wp fun prog w A R s h => by
    obtain ⟨hp, g, d, tk, os⟩ := s
    obtain ⟨ha, hb, h⟩ := h
    have hsub := sub_zip
    cases k1 with
    | true =>
      have a1 : Heap.IsList (Shared.heap ⟨hp, g, d, tk, os⟩) l1 xs := ha
      cases k2 with
      | true =>
        have a2 : Heap.IsList (Shared.heap ⟨hp.push { cls := .type "list_iterator", data := .fields #[.ref l1, .int 0 0] }, g, d, tk, os⟩) l2 ys := Heap.IsList.push hb _
        wp_walk using wpAny_pyIter_list a1, wpAny_pyIter_list a2
        exact ⟨_, rfl, h⟩
      | false =>
        have a2 : Heap.IsTuple (Shared.heap ⟨hp.push { cls := .type "list_iterator", data := .fields #[.ref l1, .int 0 0] }, g, d, tk, os⟩) l2 ys := Heap.IsTuple.push hb _
        wp_walk using wpAny_pyIter_list a1, wpAny_pyIter_tuple a2
        exact ⟨_, rfl, h⟩
    | false =>
      have a1 : Heap.IsTuple (Shared.heap ⟨hp, g, d, tk, os⟩) l1 xs := ha
      cases k2 with
      | true =>
        have a2 : Heap.IsList (Shared.heap ⟨hp.push { cls := .type "tuple_iterator", data := .fields #[.ref l1, .int 0 0] }, g, d, tk, os⟩) l2 ys := Heap.IsList.push hb _
        wp_walk using wpAny_pyIter_tuple a1, wpAny_pyIter_list a2
        exact ⟨_, rfl, h⟩
      | false =>
        have a2 : Heap.IsTuple (Shared.heap ⟨hp.push { cls := .type "tuple_iterator", data := .fields #[.ref l1, .int 0 0] }, g, d, tk, os⟩) l2 ys := Heap.IsTuple.push hb _
        wp_walk using wpAny_pyIter_tuple a1, wpAny_pyIter_tuple a2
        exact ⟨_, rfl, h⟩
section
variable {prog : Program} {w : World} {A : Around} {E : Value → Shared → Prop} {s : Shared}
theorem callZip {k1 k2 : Bool} {l1 l2 : Addr} {xs ys : Array Value} {Q : Value → Shared → Prop} (ha : SS k1 s.heap l1 xs) (hb : SS k2 s.heap l2 ys)
    (q : ∀ h', IsZip h' (s.heap.objs.size + 4) (s.heap.objs.size + 2) (s.heap.objs.size + 3) .none → IsPair h' (s.heap.objs.size + 2) (.ref s.heap.objs.size) (.ref (s.heap.objs.size + 1)) → IsPair h' (s.heap.objs.size + 3) .none .none →
      SI k1 h' s.heap.objs.size l1 0 → SI k2 h' (s.heap.objs.size + 1) l2 0 → h'.objs.size = s.heap.objs.size + 5 → (∀ b o, s.heap.get? b = some o → h'.get? b = some o) → Q (.ref (s.heap.objs.size + 4)) { s with heap := h' }) :
    wpAny (model prog w) A (call (.type "zip") [.ref l1, .ref l2]) Q E s := by
  refine callType_new F.called_zip (by decide) (F.typeCall_zip_2 _ _) (F.newCall_zip_2 _ _) (fun obj => F.args_object_init_3 obj _ _) F.entry_zip_new (zipNew k1 k2 l1 l2 xs ys) ⟨ha, hb, ?_⟩
  have s1 : (zA k1 s.heap l1).objs.size = s.heap.objs.size + 1 := Heap.size_push ..
  have s2 : (zB k1 k2 s.heap l1 l2).objs.size = s.heap.objs.size + 2 := (Heap.size_push ..).trans (by rw [s1])
  have s3 : (zC k1 k2 s.heap l1 l2).objs.size = s.heap.objs.size + 3 := (Heap.size_push ..).trans (by rw [s2])
  have s4 : (zD k1 k2 s.heap l1 l2).objs.size = s.heap.objs.size + 4 := (Heap.size_push ..).trans (by rw [s3])
  have s5 : (zE k1 k2 s.heap l1 l2).objs.size = s.heap.objs.size + 5 := (Heap.size_push ..).trans (by rw [s4])
  have o5 : (zE k1 k2 s.heap l1 l2).get? (zD k1 k2 s.heap l1 l2).objs.size = some _ := Heap.get?_push_size _ rfl
  have up1 : ∀ b o, (zD k1 k2 s.heap l1 l2).get? b = some o → (zE k1 k2 s.heap l1 l2).get? b = some o := fun b o e => Heap.get?_push_of_some _ e
  have o4 : (zE k1 k2 s.heap l1 l2).get? (zC k1 k2 s.heap l1 l2).objs.size = some _ := up1 _ _ (Heap.get?_push_size _ rfl)
  have up2 : ∀ b o, (zC k1 k2 s.heap l1 l2).get? b = some o → (zE k1 k2 s.heap l1 l2).get? b = some o := fun b o e => up1 b o (Heap.get?_push_of_some _ e)
  have o3 : (zE k1 k2 s.heap l1 l2).get? (zB k1 k2 s.heap l1 l2).objs.size = some _ := up2 _ _ (Heap.get?_push_size _ rfl)
  have up3 : ∀ b o, (zB k1 k2 s.heap l1 l2).get? b = some o → (zE k1 k2 s.heap l1 l2).get? b = some o := fun b o e => up2 b o (Heap.get?_push_of_some _ e)
  have o2 : (zE k1 k2 s.heap l1 l2).get? (zA k1 s.heap l1).objs.size = some (itO k2 l2) := up3 _ _ (Heap.get?_push_size _ rfl)
  have up4 : ∀ b o, (zA k1 s.heap l1).get? b = some o → (zE k1 k2 s.heap l1 l2).get? b = some o := fun b o e => up3 b o (Heap.get?_push_of_some _ e)
  have o1 : (zE k1 k2 s.heap l1 l2).get? s.heap.objs.size = some (itO k1 l1) := up4 _ _ (Heap.get?_push_size _ rfl)
  have mk : ∀ (k : Bool) (b a : Addr), (zE k1 k2 s.heap l1 l2).get? b = some (itO k a) → SI k (zE k1 k2 s.heap l1 l2) b a 0 := fun k b a e => by cases k <;> exact ⟨_, e, rfl, rfl⟩
  show _ ∧ _
  rw [s2, s3, s4] at o5
  rw [s1, s2] at o3
  rw [s3] at o4
  rw [s1] at o2
  rw [s4]
  exact ⟨⟨_, o5, rfl⟩, q _ o5 o3 o4 (mk _ _ _ o1) (mk _ _ _ o2) s5 fun b o e => up4 b o (Heap.get?_push_of_some _ e)⟩
end
end L2

namespace L2
open PySem PySem.Spec PyProof.Rows
section
variable {X : Cx} {pins : List (Addr × Obj)} {σ : St} {H : Hp} {s : Shared} {h' : Heap}
theorem Inv.turnedN {t' : Nat} {ch : List Addr} (I : Inv X pins σ H s) (k : ∀ b o, b ∉ ch → s.heap.get? b = some o → h'.get? b = some o) (hf : ∀ b ∈ ch, FpOk X pins H b) : Inv X pins σ H { s with heap := h', toks := t' } := by
  have nit : ∀ b u, H b = some u → b ∉ ch := fun b u e z => by rw [(hf b z).1] at e; cases e
  refine I.step (g' := s.gens) (d' := s.drawn) (ch := ch) (fun b hb => ?_) (fun b o _ _ hc e _ => k b o hc e) (fun b o _ _ hc e _ => ⟨o.slots, k b o hc e⟩) (fun _ _ _ _ n => n)
    (fun b o hc e => ⟨o, k b o hc e⟩) (fun _ _ e => e) (fun _ _ _ e => e) (fun b ps e => ⟨#[], by rw [e]; simp⟩) (fun m hm => ?_) (fun b u e => ?_) I.bare
  · obtain ⟨_, q1, _, q3, q4, q5⟩ := hf b hb
    exact ⟨q3, q1, q4, q5⟩
  · obtain ⟨o, es, ep, ho, r⟩ := hm
    exact ⟨o, es, ep, k _ o (fun z => (hf _ z).2.1 rfl) ho, r⟩
  · refine (I.hok b u e).stay (fun c v hc q => k c v ?_ q) (fun _ q => q) fun _ _ q => q
    rcases hc with z | z
    · rw [z]; exact nit b u e
    · exact nit c _ z
end
noncomputable def SqK (K : PySem.W.Frag) (k : Bool) (H : Hp) (a : Addr) (xs : List V) : Prop := if k = true then SqL K H a xs else SqT K H a xs
theorem Inv.sqk {X : Cx} {pins : List (Addr × Obj)} {σ : St} {H : Hp} {s : Shared} (I : Inv X pins σ H s) {k : Bool} {a : Addr} {xs : List V} (h : SqK X.K k H a xs) : ∃ its : List Value, Vals xs its ∧ SS k s.heap a its.toArray := by
  cases k with
  | true =>
    obtain ⟨its, r, p, _⟩ := I.list (show SqL X.K H a xs from h)
    exact ⟨its, r, p.isList⟩
  | false =>
    obtain ⟨its, r, p, _⟩ := I.tuple (show SqT X.K H a xs from h)
    exact ⟨its, r, p⟩
theorem Inv.sqk_inj {X : Cx} {pins : List (Addr × Obj)} {σ : St} {H : Hp} {s : Shared} (I : Inv X pins σ H s) {k : Bool} {a : Addr} {xs ys : List V} (h : SqK X.K k H a xs) (h2 : SqK X.K k H a ys) : xs = ys := by
  cases k with
  | true => exact I.list_inj (show SqL X.K H a xs from h) (show SqL X.K H a ys from h2)
  | false => exact I.tuple_inj (show SqT X.K H a xs from h) (show SqT X.K H a ys from h2)
noncomputable def Itz (K : PySem.W.Frag) (k1 k2 : Bool) (l1 l2 : Addr) : It :=
  ⟨fun i H => ∃ xs ys x y, SqK K k1 H l1 xs ∧ SqK K k2 H l2 ys ∧ xs[i]? = some x ∧ ys[i]? = some y,
   fun i H v H' => ∃ T x y, H T = none ∧ v = .ref T ∧ H' = upd H T (.tup [x, y]) ∧ (∀ xs, SqK K k1 H l1 xs → xs[i]? = some x) ∧ ∀ ys, SqK K k2 H l2 ys → ys[i]? = some y,
   fun i H => ∃ xs ys, SqK K k1 H l1 xs ∧ SqK K k2 H l2 ys ∧ (xs.length ≤ i ∨ ys.length ≤ i)⟩
noncomputable def ZipSt (k1 k2 : Bool) (z TI TO p1 p2 l1 l2 : Addr) (i : Nat) (h : Heap) : Prop := IsZip h z TI TO .none ∧ IsPair h TI (.ref p1) (.ref p2) ∧ (∃ a b, IsPair h TO a b) ∧ SI k1 h p1 l1 i ∧ SI k2 h p2 l2 i
theorem turn_zip {P : Program} {w : World} {K : PySem.W.Frag} {elts : List Expr} {kx : Nat} {tp : Pos} {k1 k2 : Bool} {z TI TO p1 p2 l1 l2 : Addr} (D : ZipApart z TI TO p1 p2 l1 l2) :
    Turn P w K (.Tuple elts kx tp) (Itz K k1 k2 l1 l2) [z, TI, TO, p1, p2] z (ZipSt k1 k2 z TI TO p1 p2 l1 l2) where
  mem := by simp
  obj := fun i h ⟨iz, iI, ⟨a, b, iO⟩, g1, g2⟩ c hc => by
    simp only [List.mem_cons, List.not_mem_nil, or_false] at hc
    rcases hc with rfl | rfl | rfl | rfl | rfl
    · exact ⟨_, iz, fun v e => by cases e⟩
    · exact ⟨_, iI, fun v e => by cases e⟩
    · exact ⟨_, iO, fun v e => by cases e⟩
    · exact g1.obj
    · exact g2.obj
  keep := fun i h h' ⟨iz, iI, ⟨a, b, iO⟩, g1, g2⟩ k => ⟨k z (by simp) _ iz, k TI (by simp) _ iI, ⟨a, b, k TO (by simp) _ iO⟩, g1.at fun o e => k p1 (by simp) o e, g2.at fun o e => k p2 (by simp) o e⟩
  item := by
    intro X hP hw hK hc i pins s σ H E I hf st hg
    subst hP hw hK
    obtain ⟨iz, iI, ⟨a, b, iO⟩, g1, g2⟩ := st
    obtain ⟨xs, ys, x, y, q1, q2, hx, hy⟩ := hg
    obtain ⟨is1, r1, m1⟩ := I.sqk q1
    obtain ⟨is2, r2, m2⟩ := I.sqk q2
    obtain ⟨u1, hu1, ru1⟩ := r1.get hx
    obtain ⟨u2, hu2, ru2⟩ := r2.get hy
    refine zipTurn D iz iI iO g1 g2 m1 m2 (v1 := u1) (v2 := u2) (by simpa using hu1) (by simpa using hu2) fun h' a1 a2 a3 a4 a5 a6 kk => ?_
    refine ⟨_, rfl, ?_⟩
    refine wpAny_letOwnedTupleGo_zip (s := { s with heap := h' }) a1 fun h2 b1 b2 => ?_
    have lt : ∀ {c o}, s.heap.get? c = some o → c ≠ s.heap.objs.size := fun e => Nat.ne_of_lt (Heap.lt_size e)
    have nz : s.heap.objs.size ≠ z := Ne.symm (lt iz)
    have I1 : Inv X pins σ (upd H s.heap.objs.size (.tup [x, y])) { s with heap := s.heap.push { cls := .type "tuple", data := .seq #[u1, u2] }, toks := s.toks } :=
      I.laid (o := .tup [x, y]) (fun b ob q => Heap.get?_push_of_some _ q) (Nat.le_refl _) ⟨(show 2 ≤ sizeLine by decide), [u1, u2], .cons ru1 (.cons ru2 .nil), IsTup.new _ _⟩
    have nfp : ∀ c ∈ [z, TI, TO, p1, p2], c ≠ s.heap.objs.size := fun c hc => by
      simp only [List.mem_cons, List.not_mem_nil, or_false] at hc
      rcases hc with rfl | rfl | rfl | rfl | rfl
      · exact lt iz
      · exact lt iI
      · exact lt iO
      · obtain ⟨o, e, _⟩ := g1.obj; exact lt e
      · obtain ⟨o, e, _⟩ := g2.obj; exact lt e
    have hf' : ∀ c ∈ [z, TI, TO, p1, p2], FpOk X pins (upd H s.heap.objs.size (.tup [x, y])) c := fun c hc => by
      obtain ⟨f0, f1⟩ := hf c hc
      exact ⟨by rw [upd_ne (nfp c hc)]; exact f0, f1⟩
    have I2 : Inv X pins σ (upd H s.heap.objs.size (.tup [x, y])) { s with heap := h2, toks := s.toks } := by
      refine Inv.turnedN (s := { s with heap := s.heap.push { cls := .type "tuple", data := .seq #[u1, u2] }, toks := s.toks }) (t' := s.toks) (h' := h2) (ch := [z, TI, TO, p1, p2]) I1 (fun c o hcn e => ?_) hf'
      simp only [List.mem_cons, List.not_mem_nil, or_false, not_or] at hcn
      obtain ⟨n1, n2, n3, n4, n5⟩ := hcn
      refine b2.extBut c o n1 ?_
      by_cases hcs : c = s.heap.objs.size
      · subst hcs
        have e' : (s.heap.push { cls := .type "tuple", data := .seq #[u1, u2] }).get? s.heap.objs.size = some o := e
        rw [Heap.get?_push_size _ rfl] at e'
        cases e'
        exact a5
      · have e' : (s.heap.push { cls := .type "tuple", data := .seq #[u1, u2] }).get? c = some o := e
        have hlt : c < s.heap.objs.size := by
          have := Heap.lt_size e'
          rw [Heap.size_push] at this
          exact Nat.lt_of_le_of_ne (Nat.le_of_lt_succ this) hcs
        have hold : s.heap.get? c = some o := by
          have : ∃ o', s.heap.get? c = some o' := by
            cases q : s.heap.get? c with
            | some o' => exact ⟨o', rfl⟩
            | none => exact absurd e' (by rw [Heap.get?_push_ne _ _ _ hcs]; rw [q]; exact fun z => nomatch z)
          obtain ⟨o', ho'⟩ := this
          have := Heap.get?_push_of_some { cls := .type "tuple", data := .seq #[u1, u2] } ho'
          rw [e'] at this
          cases this; exact ho'
        exact kk c o n1 n3 n4 n5 hold
    refine ⟨.ref s.heap.objs.size, _, I2, rfl, ⟨_, x, y, I.hok.fresh (Nat.le_refl _), rfl, rfl, fun zs hz => by rw [I.sqk_inj hz q1]; exact hx, fun zs hz => by rw [I.sqk_inj hz q2]; exact hy⟩, ?_, fun c hc => (hf' c hc).1⟩
    have lift : ∀ c o, c ≠ z → h'.get? c = some o → h2.get? c = some o := fun c o n e => b2.extBut c o n e
    exact ⟨b1, lift _ _ D.TIz (kk _ _ D.TIz D.TITO D.TIi1 D.TIi2 iI), ⟨_, _, lift _ _ D.TOz a2⟩, a3.at fun o e => lift _ o D.i1z e, a4.at fun o e => lift _ o D.i2z e⟩
  done := by
    intro X hP hw hK hc i pins s σ H E I hf st hg
    subst hP hw hK
    obtain ⟨iz, iI, ⟨a, b, iO⟩, g1, g2⟩ := st
    obtain ⟨xs, ys, q1, q2, hx⟩ := hg
    obtain ⟨is1, r1, m1⟩ := I.sqk q1
    obtain ⟨is2, r2, m2⟩ := I.sqk q2
    have e1 := r1.length
    have e2 := r2.length
    refine zipEnd (I.ok.hd hc) D iz iI iO g1 g2 m1 m2 (hx.elim (fun h => .inl (by simp; omega)) fun h => .inr (by simp; omega)) fun h' kk => ⟨rfl, ?_⟩
    refine I.turnedN (t' := s.toks) (ch := [z, TI, TO, p1, p2]) (fun c o hcn e => ?_) hf
    simp only [List.mem_cons, List.not_mem_nil, or_false, not_or] at hcn
    obtain ⟨n1, n2, n3, n4, n5⟩ := hcn
    exact kk c o n1 n3 n4 n5 e
  self := fun _ _ _ _ _ st h => wpAny_pyIter_zip st.1 h
noncomputable def iZip (K : PySem.W.Frag) (ta : TA) : TI := fun σ H R => ta σ H fun vs H1 => ∃ k1 k2 l1 l2, vs = [.ref l1, .ref l2] ∧ (∃ xs, SqK K k1 H1 l1 xs) ∧ (∃ ys, SqK K k2 H1 l2 ys) ∧ R (Itz K k1 k2 l1 l2) H1
theorem pi_zip {X : Cx} {elts : List Expr} {kx : Nat} {tp : Pos} {a b : Expr} {ta : TA} {p pos : Pos} (hg : Gl X "zip") (hm : X.mg "zip" = none) (ha : PA X [a, b] ta)
    (hs : starEach [a, b] X.env = [(false, eval a X.env), (false, eval b X.env)] := by rfl) (hs2 : starEach [b] X.env = [(false, eval b X.env)] := by rfl) : PI X (.Tuple elts kx tp) (.Call (.Name "zip" p) [a, b] [] pos) (iZip X.K ta) := by
  intro pins s σ H R I h
  refine Call_ (ld_blt I hg hm PyProof.Rows.boot_zip (PyProof.Rows.callWith_type1 (thn (ha pos pins s σ H _ I h) fun us s1 ⟨vs, H1, I1, r1, q1⟩ => ?_) (by rw [hs, hs2]) (by rw [hs2]; rfl)))
  obtain ⟨k1, k2, l1, l2, e, ⟨xs, q2⟩, ⟨ys, q3⟩, q⟩ := q1
  subst e
  cases r1 with
  | cons r rr =>
    cases rr with
    | cons r' rr =>
      cases rr
      cases r
      cases r'
      obtain ⟨is1, _, m1⟩ := I1.sqk q2
      obtain ⟨is2, _, m2⟩ := I1.sqk q3
      have lt1 : l1 < s1.heap.objs.size := by obtain ⟨o, e⟩ := m1.obj; exact Heap.lt_size e
      have lt2 : l2 < s1.heap.objs.size := by obtain ⟨o, e⟩ := m2.obj; exact Heap.lt_size e
      refine callZip m1 m2 fun h' a1 a2 a3 a4 a5 a6 kk => ?_
      refine wpAny_pyIter_zip (s := { s1 with heap := h' }) a1 ?_
      have D : ZipApart (s1.heap.objs.size + 4) (s1.heap.objs.size + 2) (s1.heap.objs.size + 3) s1.heap.objs.size (s1.heap.objs.size + 1) l1 l2 := PyProof.Rows.zipApart_new lt1 lt2
      refine ⟨s1.heap.objs.size + 4, _, _, _, H1, rfl, I1.kept (t' := s1.toks) kk, turn_zip D, ⟨a1, a2, ⟨_, _, a3⟩, a4, a5⟩, fun c hc => ?_, q⟩
      have hge : s1.heap.objs.size ≤ c := by
        simp only [List.mem_cons, List.not_mem_nil, or_false] at hc
        rcases hc with rfl | rfl | rfl | rfl | rfl
        · exact Nat.le_add_right _ _
        · exact Nat.le_add_right _ _
        · exact Nat.le_add_right _ _
        · exact Nat.le_refl _
        · exact Nat.le_add_right _ _
      exact I1.fpOk hge (I1.hok.fresh hge)
end L2

namespace L2
open PySem PySem.Spec PyProof.Rows
section
variable {X : Cx} {pins : List (Addr × Obj)} {σ : St} {H : Hp} {s : Shared} {p : Addr}
theorem Inv.swap {a b : HO} (I : Inv X pins σ H s) (hp : H p = some a) (ha : (∀ x, a ≠ .own x) ∧ ∀ xs, a ≠ .tup xs) (h1 : ∀ xs, X.H₀ p ≠ some (.tup xs)) (h2 : ∀ o u, X.H₀ p ≠ some (.frz o u)) (h3 : ∀ ps, X.H₀ p ≠ some (.tbl ps))
    (new : ObjOk X.prog X.w H s.heap p b) : Inv X pins σ (upd H p b) s := by
  have ne : ∀ {c : Addr}, H c = none → c ≠ p := fun {c} q z => by subst z; rw [hp] at q; cases q
  have st : ∀ {c : Addr} {o : HO}, ObjOk X.prog X.w H s.heap c o → ObjOk X.prog X.w (upd H p b) s.heap c o := fun {c o} x =>
    x.stay (fun _ _ _ q => q) (fun d q => by
      have : d ≠ p := by intro z; subst z; rw [hp] at q; cases q; exact ha.1 _ rfl
      rw [upd_ne this]; exact q) fun d xs q => by
      have : d ≠ p := by intro z; subst z; rw [hp] at q; cases q; exact ha.2 _ rfl
      rw [upd_ne this]; exact q
  refine ⟨I.ok, I.os, I.bare, ⟨I.base.keep, I.base.slot, fun c o e n x => ?_, I.base.there, fun c xs q => ?_, fun c o u q => ?_, fun c ps q => ?_⟩, I.loc, I.cell, ?_, fun x c e => ?_, fun q hq => ?_, fun c o q => ?_, I.len⟩
  · have := I.base.free c o e n x
    rw [upd_ne (ne this)]; exact this
  · have : c ≠ p := by intro z; subst z; exact h1 xs q
    rw [upd_ne this]; exact I.base.tups c xs q
  · have : c ≠ p := by intro z; subst z; exact h2 o u q
    rw [upd_ne this]; exact I.base.frzs c o u q
  · have : c ≠ p := by intro z; subst z; exact h3 ps q
    rw [upd_ne this]; exact I.base.tbls c ps q
  · rw [upd_ne (ne I.free)]; exact I.free
  · rw [upd_ne (ne (I.freeC x c e))]; exact I.freeC x c e
  · obtain ⟨a1, a2, a3, a4, a5⟩ := I.pin q hq
    exact ⟨a1, by rw [upd_ne (ne a2)]; exact a2, a3, a4, a5⟩
  · by_cases z : c = p
    · subst z; rw [upd_same] at q; cases q; exact st new
    · rw [upd_ne z] at q; exact st (I.hok c o q)
theorem Inv.freeze {xs : List V} (I : Inv X pins σ H s) (hp : H p = some (.lst xs)) : ∃ o, Inv X pins σ (upd H p (.frz o (.lst xs))) s := by
  have k := I.hok p _ hp
  obtain ⟨z, its, n, r, e⟩ := id k
  refine ⟨_, I.swap hp ⟨fun _ q => (nomatch q), fun _ q => (nomatch q)⟩ (fun ys q => ?_) (fun o u q => ?_) (fun ps q => ?_) ⟨e, k⟩⟩
  · rw [I.base.tups p ys q] at hp; cases hp
  · rw [I.base.frzs p o u q] at hp; cases hp
  · obtain ⟨more, q⟩ := I.base.tbls p ps q; rw [q] at hp; cases hp
structure Loose (X : Cx) (p : Addr) : Prop where
  t : ∀ xs, X.H₀ p ≠ some (.tup xs)
  f : ∀ o u, X.H₀ p ≠ some (.frz o u)
  b : ∀ ps, X.H₀ p ≠ some (.tbl ps)
theorem Inv.loose {xs : List V} (I : Inv X pins σ H s) (hp : H p = some (.lst xs)) : Loose X p :=
  ⟨fun ys q => (by rw [I.base.tups p ys q] at hp; cases hp), fun o u q => (by rw [I.base.frzs p o u q] at hp; cases hp), fun ps q => (by obtain ⟨more, q⟩ := I.base.tbls p ps q; rw [q] at hp; cases hp)⟩
noncomputable def tFrz (t : TE) : TE := fun σ H Q => t σ H fun v H1 => ∃ p xs, v = .ref p ∧ H1 p = some (.lst xs) ∧ ∀ o, Q v (upd H1 p (.frz o (.lst xs)))
theorem pe_frz {x : Expr} {t : TE} (h : PE X x t) : PE X x (tFrz t) := fun pins s σ H Q I q =>
  wpAny_mono (h pins s σ H _ I q) (fun u s1 zz => by
    obtain ⟨v, H1, I1, r, p, xs, e, hp, q1⟩ := zz
    obtain ⟨o, I2⟩ := I1.freeze hp
    exact ⟨v, _, I2, r, q1 o⟩) fun _ _ z => z
theorem pu_frz {i : Nat} {y : Str} {pos' : Pos} {x : Expr} {t : TE} (h : PU X i y pos' x t) : PU X i y pos' x (tFrz t) := fun pins s σ H Q I q =>
  wpAny_mono (h pins s σ H _ I q) (fun u s1 zz => by
    obtain ⟨v, H1, I1, p, xs, e, hp, q1⟩ := zz
    obtain ⟨o, I2⟩ := I1.freeze hp
    exact ⟨v, _, I2, q1 o⟩) fun _ _ z => z
noncomputable def tFrzM (t : TE) : TE := fun σ H Q => t σ H fun v H1 => (∃ p xs, v = .ref p ∧ H1 p = some (.lst xs) ∧ ∀ o, Q v (upd H1 p (.frz o (.lst xs)))) ∨ Q v H1
theorem pe_frzM {x : Expr} {t : TE} (h : PE X x t) : PE X x (tFrzM t) := fun pins s σ H Q I q =>
  wpAny_mono (h pins s σ H _ I q) (fun u s1 zz => by
    obtain ⟨v, H1, I1, r, z⟩ := zz
    rcases z with ⟨p, xs, e, hp, q1⟩ | q1
    · obtain ⟨o, I2⟩ := I1.freeze hp
      exact ⟨v, _, I2, r, q1 o⟩
    · exact ⟨v, H1, I1, r, q1⟩) fun _ _ z => z
noncomputable def hidO (p : Addr) (xs : List V) : HO := .ext fun h => xs.length ≤ sizeLine ∧ ∃ (its : List Value) (n : Nat), Vals xs its ∧ h.get? p = some { cls := .type "list", data := .seq its.toArray n }
theorem Inv.hide {xs : List V} (I : Inv X pins σ H s) (hp : H p = some (.lst xs)) : Inv X pins σ (upd H p (hidO p xs)) s := by
  have k := I.hok p _ hp
  have l := I.loose hp
  obtain ⟨z, its, n, r, e⟩ := id k
  exact I.swap hp ⟨fun _ q => (nomatch q), fun _ q => (nomatch q)⟩ l.t l.f l.b ⟨⟨z, its, n, r, e⟩, ⟨_, e⟩, fun h1 h2 ⟨z, its, n, r, e⟩ k => ⟨z, its, n, r, k _ e⟩⟩
theorem Inv.show' {xs : List V} (I : Inv X pins σ H s) (l : Loose X p) (hp : H p = some (hidO p xs)) : Inv X pins σ (upd H p (.lst xs)) s := by
  obtain ⟨k, _, _⟩ := I.hok p _ hp
  exact I.swap hp ⟨fun _ q => (nomatch q), fun _ q => (nomatch q)⟩ l.t l.f l.b k
noncomputable def tHide (p : Addr) (t : TE) : TE := fun σ H Q => ∃ xs, H p = some (.lst xs) ∧ t σ (upd H p (hidO p xs)) fun v H1 => H1 p = some (hidO p xs) ∧ Q v (upd H1 p (.lst xs))
theorem pe_hide {x : Expr} {t : TE} (h : PE X x t) : PE X x fun σ H Q => ∃ p, tHide p t σ H Q := fun pins s σ H Q I ⟨p, xs, hp, q⟩ =>
  wpAny_mono (h pins s σ _ _ (I.hide hp) q) (fun u s1 ⟨v, H1, I2, r, hp1, q1⟩ => ⟨v, _, I2.show' (I.loose hp) hp1, r, q1⟩) fun _ _ z => z
noncomputable def tHideT (p : Addr) (t : TT) : TT := fun σ H Q => ∃ xs, H p = some (.lst xs) ∧ t σ (upd H p (hidO p xs)) fun v H1 => H1 p = some (hidO p xs) ∧ Q v (upd H1 p (.lst xs))
theorem pifs_hide {ifs : List Expr} {t : TT} (h : PIfs X ifs t) : PIfs X ifs fun σ H Q => ∃ p, tHideT p t σ H Q := fun pins s σ H Q I ⟨p, xs, hp, q⟩ =>
  wpAny_mono (h pins s σ _ _ (I.hide hp) q) (fun u s1 ⟨H1, I2, hp1, q1⟩ => ⟨_, I2.show' (I.loose hp) hp1, q1⟩) fun _ _ z => z
noncomputable def tHideG (p : Addr) (g : TG) : TG := fun v σ H Q => ∃ xs, H p = some (.lst xs) ∧ g v σ (upd H p (hidO p xs)) fun σ1 H1 => H1 p = some (hidO p xs) ∧ Q σ1 (upd H1 p (.lst xs))
theorem pg_hide {tg : Expr} {g : TG} (h : PG X tg g) : PG X tg fun v σ H Q => ∃ p, tHideG p g v σ H Q := fun pins s σ H v u Q I r ⟨p, xs, hp, q⟩ =>
  wpAny_mono (h pins s σ _ v u _ (I.hide hp) r q) (fun u s1 ⟨σ1, H1, I2, hp1, q1⟩ => ⟨σ1, _, I2.show' (I.loose hp) hp1, q1⟩) fun _ _ z => z
end
section
variable {X : Cx} {pos : Pos}
end
end L2

namespace L2
open PySem PySem.Spec PyProof.Rows
section
variable {X : Cx} {e : Expr} {te : TE} {st : Expr} {ts : TO} {pos p2 : Pos}
end
end L2

namespace L2
open PySem PySem.Spec PyProof.Rows
section
variable {prog : Program} {w : World} {A : Around} {E : Value → Shared → Prop} {s : Shared}
end
section
variable {X : Cx}
end
section
variable {X : Cx}
end
section
variable {prog : Program} {w : World} {A : Around} {E : Value → Shared → Prop} {s : Shared}
end
section
variable {prog : Program} {w : World} {A : Around} {E : Value → Shared → Prop} {s : Shared}
end
section
variable {X : Cx}
end
end L2

namespace L2
open PySem PySem.Spec PyProof.Rows
section
variable {prog : Program} {w : World} {A : Around} {E : Value → Shared → Prop} {s : Shared}
end
end L2
namespace L2
open PySem PySem.Spec PyProof.Rows
section
variable {X : Cx}
end
end L2

namespace L2
open PySem PySem.Spec PyProof.Rows
section
variable {prog : Program} {w : World} {A : Around} {E : Value → Shared → Prop} {s : Shared}
theorem lst_ext {h h2 : Heap} {a b : Addr} {its : Array Value} (x : h.IsList a its) (hs : Heap.ExtBut b h h2) (ne : a ≠ b) : h2.IsList a its := x.at fun o e => hs a o ne e
theorem draw_lst {it l : Addr} {its : Array Value} (hne : l ≠ it) : ∀ (n i : Nat) (s : Shared) (Q : List Value → Shared → Prop), s.heap.IsListIter it l i → s.heap.IsList l its → i + n ≤ its.size →
    (∀ h2, h2.IsListIter it l (i + n) → Heap.SameBut it s.heap h2 → Q ((its.toList.drop i).take n) { s with heap := h2 }) → wpAny (model prog w) A (draw (.ref it) n) Q E s
  | 0, i, s, Q, hi, _, _, k => by
    show wpAny _ _ (pure []) Q E s
    refine wpAny_pure ?_
    simpa using k s.heap hi (Heap.SameBut.refl ..)
  | n + 1, i, s, Q, hi, hl, hle, k => by
    have lt : i < its.size := by omega
    show wpAny _ _ (pyNext (.ref it) >>= _) Q E s
    refine wpAny_bind (wpAny_pyNext_list_item hi hl (x := its[i]) (by simp [lt]) fun h1 hi1 hs1 => wpAny_bind (wpAny_holding ?_))
    refine draw_lst hne n (i + 1) _ _ hi1 (lst_ext hl hs1.extBut hne) (by omega) fun h2 hi2 hs2 => wpAny_pure ?_
    have e : its.toList.drop i = its[i] :: its.toList.drop (i + 1) := by simp [List.drop_eq_getElem_cons, lt]
    have z := k h2 (by rw [show i + (n + 1) = i + 1 + n by omega]; exact hi2) (hs1.trans hs2)
    rw [e, List.take_succ_cons] at z
    exact z
theorem unpack_lst {l : Addr} {its : Array Value} {ts : List (Bool × (Value → Sem Unit))} {Q : Unit → Shared → Prop} (hh : A.handled = none) (hl : s.heap.IsList l its) (hn : ts.length = its.size) (hst : ts.findIdx? (·.1) = none)
    (k : ∀ h2, Heap.ExtBut s.heap.objs.size s.heap h2 → wpAny (model prog w) A (assignInOrder (ts.map (·.2)) its.toList) Q E { s with heap := h2 }) : wpAny (model prog w) A (unpack (.ref l) ts) Q E s := by
  have ne : l ≠ s.heap.objs.size := by obtain ⟨o, ho, _⟩ := hl; exact Nat.ne_of_lt (Heap.lt_size ho)
  unfold unpack
  rw [hn, hst]
  refine wpAny_bind (wpAny_holding ?_)
  unfold unpackItems
  refine wpAny_bind ?_
  unfold notIterableAtAll
  refine wpAny_bind (wpAny_specialOf hl.typeIs F.slot_list_iter.lookup (wpAny_pure ?_))
  simp only [Bool.false_eq_true, if_false]
  refine wpAny_bind (wpAny_holding (wpAny_pyIter_list hl ?_))
  refine wpAny_bind (wpAny_holding (draw_lst ne its.size 0 _ _ ⟨_, Heap.get?_push_size _ rfl, rfl, rfl⟩ (hl.at fun o e => Heap.get?_push_of_some _ e) (by omega) fun h1 hi1 hs1 => ?_))
  have all : List.take its.size (List.drop 0 its.toList) = its.toList := by
    rw [List.drop_zero]; exact List.take_of_length_le (by simp)
  rw [all, if_neg (by simp)]
  have hl1 : h1.IsList l its := lst_ext (hl.at fun o e => Heap.get?_push_of_some _ e) hs1.extBut ne
  refine wpAny_bind (wpAny_holding (wpAny_pyNext_list_end hh hi1 hl1 (by simp) fun h2 he => ?_))
  simp only [Option.isSome_none, Bool.false_eq_true, if_false]
  exact wpAny_pure (k h2 fun b o hb e => he b o hb (hs1.extBut b o hb (Heap.get?_push_of_some _ e)))
end
section
variable {X : Cx} {pos : Pos}
noncomputable def gTupLs (K : PySem.W.Frag) (n : Nat) (t : TGs) : TG := fun v σ H Q => ∃ a xs, v = .ref a ∧ SqL K H a xs ∧ xs.length = n ∧ t xs σ H Q
theorem pg_tupL {es : List Expr} {k : Nat} {t : TGs} {n : Nat} (hc : X.calm = true) (h : PGs X es t) (hn : (assignEach es X.env).length = n := by rfl)
    (hst : (assignEach es X.env).findIdx? (·.1) = none := by rfl) : PG X (.Tuple es k pos) (gTupLs X.K n t) := by
  intro pins s σ H v u Q I r hw
  obtain ⟨a, xs, e1, hq, hl, hw⟩ := hw
  subst e1
  cases r
  obtain ⟨its, rv, ht, hz⟩ := I.list hq
  rw [assign_Tuple]
  refine wpAny_bind (wpAny_standAt (unpack_lst (I.ok.hd hc) ht.isList (by simp [hn, ← hl, rv.length]) hst fun h2 hx => ?_))
  have I1 : Inv X pins σ H { s with heap := h2 } := I.kept (t' := s.toks) fun b o e => hx b o (Nat.ne_of_lt (Heap.lt_size e)) e
  exact h pins _ σ H xs _ Q I1 (by simpa using rv) hw
end
end L2

namespace L2
open PySem PySem.Spec PyProof.Rows
section
variable {X : Cx}
end
end L2

namespace L2
open PySem PySem.Spec PyProof.Rows
section
variable {prog : Program} {w : World} {A : Around} {E : Value → Shared → Prop} {s : Shared}
end
end L2

namespace L2
open PySem
section
variable {prog : Program} {w : World} {A : Around} {E : Value → Shared → Prop} {s : Shared}
theorem enumTurn {k : Bool} {e p l : Addr} {n : Nat} {xs : Array Value} {v old : Value} {Q : Option Value → Shared → Prop} (ie : IsEnum s.heap e p n old) (g : SI k s.heap p l n) (m : SS k s.heap l xs) (hv : xs[n]? = some v) (hne : e ≠ p)
    (q : ∀ h', IsEnumOut h' e p ((n : Int) + 1) v s.heap.objs.size → SI k h' p l (n + 1) → h'.get? s.heap.objs.size = some { cls := .type "tuple", data := .seq #[.int n s.toks, v] } → h'.objs.size = s.heap.objs.size + 1 →
      (∀ b o, b ≠ e → b ≠ p → s.heap.get? b = some o → h'.get? b = some o) → Q (some (.ref s.heap.objs.size)) { s with heap := h', toks := s.toks + 1 }) : wpAny (model prog w) A (pyNext (.ref e)) Q E s := by
  have ty : s.TypeIs (.ref e) "enumerate" := ⟨_, ie, rfl⟩
  unfold pyNext
  refine wpAny_bind (wpAny_attempt (wpAny_callSpecial?_slot (name := Str.ofString "__next__") ty F.slot_enumerate_next (wpAny_call_entry F.slot_enumerate_next ty F.entry_enumerate_next ?_ (F.args_enumerate_next_1 _))))
  obtain ⟨hp, gs, dr, tk, os⟩ := s
  show wpAny _ _ (field (.ref e) 2 >>= _) _ _ _
  refine wpAny_bind (wpAny_field ie rfl (x := .ref p) rfl (wpAny_bind (seqStep g m hv fun ha ga sa => ?_)))
  replace sa : Heap.SameBut p hp ha := sa
  have ea : IsEnum ha e p n old := (sa.2 e hne).trans ie
  show wpAny _ _ (field (.ref e) 3 >>= _) _ _ ⟨ha, gs, dr, tk, os⟩
  refine wpAny_bind (wpAny_field ea rfl (x := rawInt n) rfl ?_)
  show wpAny _ _ (field (.ref e) 4 >>= _) _ _ ⟨ha, gs, dr, tk, os⟩
  refine wpAny_bind (wpAny_field ea rfl (x := .none) rfl ?_)
  show wpAny _ _ (mkInt n >>= _) _ _ ⟨ha, gs, dr, tk, os⟩
  refine wpAny_bind (wpAny_mkInt ?_)
  show wpAny _ _ (setField (.ref e) 3 (rawInt ((n : Int) + 1)) >>= _) _ _ ⟨ha, gs, dr, tk + 1, os⟩
  refine wpAny_bind (wpAny_setField_rec ea (by simp) fun hb eb sb => ?_)
  replace sb : Heap.SameBut e ha hb := sb
  replace eb : IsEnum hb e p ((n : Int) + 1) old := eb
  show wpAny _ _ (setField (.ref e) 4 .none >>= _) _ _ ⟨hb, gs, dr, tk + 1, os⟩
  refine wpAny_bind (wpAny_setField_rec eb (by simp) fun hc ec sc => ?_)
  replace sc : Heap.SameBut e hb hc := sc
  replace ec : IsEnum hc e p ((n : Int) + 1) old := ec
  show wpAny _ _ (newTuple [.int n tk, v] >>= _) _ _ ⟨hc, gs, dr, tk + 1, os⟩
  refine wpAny_bind (wpAny_newTuple ?_)
  have zc : hc.objs.size = hp.objs.size := by rw [sc.1, sb.1, sa.1]
  have ltE : e < hp.objs.size := Heap.lt_size ie
  obtain ⟨hd, hhd⟩ : ∃ hd, hd = hc.push { cls := .type "tuple", data := .seq #[.int n tk, v] } := ⟨_, rfl⟩
  have ed : IsEnum hd e p ((n : Int) + 1) old := by rw [hhd]; exact Heap.get?_push_of_some _ ec
  have td : hd.get? hp.objs.size = some { cls := .type "tuple", data := .seq #[.int n tk, v] } := by rw [hhd, ← zc]; exact Heap.get?_push_size _ rfl
  have zd : hd.objs.size = hp.objs.size + 1 := by rw [hhd, Heap.size_push, zc]
  have kd : ∀ b o, b ≠ e → b ≠ p → hp.get? b = some o → hd.get? b = some o := fun b o b1 b2 z => by rw [hhd]; exact Heap.get?_push_of_some _ (sc.extBut b o b1 (sb.extBut b o b1 (sa.extBut b o b2 z)))
  have gd : SI k hd p l (n + 1) := ((ga.but sb.extBut (Ne.symm hne)).but sc.extBut (Ne.symm hne)).at fun o z => by rw [hhd]; exact Heap.get?_push_of_some _ z
  show wpAny _ _ (Builtin.SmallTypes.ownedTupleIsFree (.ref e) >>= _) _ _ ⟨hc.push { cls := .type "tuple", data := .seq #[.int n tk, v] }, gs, dr, tk + 1, os⟩
  rw [← hhd, zc]
  refine wpAny_bind ?_; unfold Builtin.SmallTypes.ownedTupleIsFree
  refine wpAny_bind (wpAny_field ed rfl (x := .none) rfl (wpAny_pure ?_)); simp only [if_true]
  refine wpAny_bind (wpAny_rule (wpAny_bind (wpAny_field ed rfl (x := old) rfl (wpAny_bind (wpAny_setField_rec ed (by simp) fun hf ef sf => ?_)))))
  replace sf : Heap.SameBut e hd hf := sf
  replace ef : IsEnum hf e p ((n : Int) + 1) v := ef
  show wpAny _ _ (Builtin.SmallTypes.ownedTupleHandOut (.ref e) (.ref hp.objs.size) >>= _) _ _ ⟨hf, gs, dr, tk + 1, os⟩
  refine wpAny_bind ?_; unfold Builtin.SmallTypes.ownedTupleHandOut
  refine wpAny_bind (wpAny_setField_rec ef (by simp) fun hg eg sg => ?_)
  replace sg : Heap.SameBut e hf hg := sg
  replace eg : IsEnumOut hg e p ((n : Int) + 1) v hp.objs.size := eg
  refine wpAny_setField_rec eg (by simp) fun hh eh sh => ?_
  replace sh : Heap.SameBut e hg hh := sh
  replace eh : IsEnumOut hh e p ((n : Int) + 1) v hp.objs.size := eh
  refine wpAny_bind (wpAny_letGo (wpAny_pure ⟨_, rfl, wpAny_pure (q hh eh ?_ ?_ ?_ ?_)⟩))
  · exact ((gd.but sf.extBut (Ne.symm hne)).but sg.extBut (Ne.symm hne)).but sh.extBut (Ne.symm hne)
  · exact sh.extBut _ _ (Nat.ne_of_gt ltE) (sg.extBut _ _ (Nat.ne_of_gt ltE) (sf.extBut _ _ (Nat.ne_of_gt ltE) td))
  · show hh.objs.size = hp.objs.size + 1
    rw [sh.1, sg.1, sf.1, zd]
  · exact fun b o b1 b2 z => sh.extBut b o b1 (sg.extBut b o b1 (sf.extBut b o b1 (kd b o b1 b2 z)))
theorem enumEnd {k : Bool} {e p l : Addr} {n : Nat} {xs : Array Value} {old : Value} {Q : Option Value → Shared → Prop} (hA : A.handled = none) (ie : IsEnum s.heap e p n old) (g : SI k s.heap p l n) (m : SS k s.heap l xs) (hv : xs[n]? = none)
    (q : ∀ h', Heap.ExtBut p s.heap h' → Q none { s with heap := h' }) : wpAny (model prog w) A (pyNext (.ref e)) Q E s := by
  have ty : s.TypeIs (.ref e) "enumerate" := ⟨_, ie, rfl⟩
  unfold pyNext
  refine wpAny_bind (wpAny_attempt (wpAny_callSpecial?_slot (name := Str.ofString "__next__") ty F.slot_enumerate_next (wpAny_call_entry F.slot_enumerate_next ty F.entry_enumerate_next ?_ (F.args_enumerate_next_1 _))))
  show wpAny _ _ (field (.ref e) 2 >>= _) _ _ _
  refine wpAny_bind (wpAny_field ie rfl (x := .ref p) rfl (wpAny_bind (seqEnd hA g m hv fun h' x he' zz => ?_)))
  obtain ⟨o, ho, hc⟩ := zz
  exact wpAny_bind (wpAny_isInstance (T := "StopIteration") (b := true) ⟨o, ho, hc⟩ isSubtype_stop (wpAny_pure (q _ he')))
end
set_option maxHeartbeats 2000000 in
theorem enumNewT (l : Addr) (xs : Array Value) (n : Nat) (dct : Option Addr) (sl : Array (Option Value)) :
    Meets (Builtin.«enumerate.__new__» ⟨[.type "enumerate", .ref l], []⟩) (fun _ R s => s.heap.get? l = some { cls := .type "tuple", dict := dct, data := .seq xs n, slots := sl } ∧
      R (.ok (.ret (.ref (zA false s.heap l).objs.size))) { s with heap := (zA false s.heap l).push { cls := .type "enumerate", data := .fields #[.none, .bool false, .ref s.heap.objs.size, rawInt 0, .none, .none] } }) :=
  .of_wp fun prog w A R s h => by
    obtain ⟨hp, g, d, tk, os⟩ := s
    obtain ⟨hl, h⟩ := h
    have hsub := sub_enumerate
    have hT : Heap.IsTuple (Shared.heap ⟨hp, g, d, tk, os⟩) l xs := ⟨_, hl, rfl, n, rfl⟩
    wp_walk using AutoSeq1.wpAny_loadPart' hl
    refine wpAny_stack_any fun st => wpAny_pure ?_
    split
    · rename_i c _ _ _ _ _
      cases (c == Value.type "enumerate")
      · wp_walk using AutoSeq1.wpAny_loadPart' hl, wpAny_pyIter_tuple hT
        exact ⟨_, rfl, h⟩
      · wp_walk using AutoSeq1.wpAny_loadPart' hl, wpAny_pyIter_tuple hT
        exact ⟨_, rfl, h⟩
    · wp_walk using AutoSeq1.wpAny_loadPart' hl, wpAny_pyIter_tuple hT
      exact ⟨_, rfl, h⟩
section
variable {prog : Program} {w : World} {A : Around} {E : Value → Shared → Prop} {s : Shared}
theorem callEnum {k : Bool} {l : Addr} {xs : Array Value} {Q : Value → Shared → Prop} (m : SS k s.heap l xs)
    (q : ∀ h', IsEnum h' (s.heap.objs.size + 1) s.heap.objs.size 0 .none → SI k h' s.heap.objs.size l 0 → h'.objs.size = s.heap.objs.size + 2 → (∀ b o, s.heap.get? b = some o → h'.get? b = some o) → Q (.ref (s.heap.objs.size + 1)) { s with heap := h' }) :
    wpAny (model prog w) A (call (.type "enumerate") [.ref l]) Q E s := by
  cases k with
  | true => exact call_enumerate_list m q
  | false =>
    obtain ⟨⟨c, dct, dt, sl⟩, hl, hc, n, hd⟩ := m
    simp only at hc hd
    subst hc; subst hd
    refine callType_new F.called_enumerate (by decide) (F.typeCall_enumerate_1 _) (F.newCall_enumerate_1 _) (fun obj => F.args_object_init_2 obj _) F.entry_enumerate_new (enumNewT l xs n dct sl) ⟨hl, ?_⟩
    have s1 : (zA false s.heap l).objs.size = s.heap.objs.size + 1 := Heap.size_push ..
    have o1 : ((zA false s.heap l).push { cls := .type "enumerate", data := .fields #[.none, .bool false, .ref s.heap.objs.size, rawInt 0, .none, .none] }).get? (zA false s.heap l).objs.size = some _ := Heap.get?_push_size _ rfl
    show _ ∧ _
    rw [s1] at o1 ⊢
    exact ⟨⟨_, o1, rfl⟩, q _ o1 ⟨_, Heap.get?_push_of_some _ (Heap.get?_push_size _ rfl), rfl, rfl⟩ (by rw [Heap.size_push, s1]) fun b o e => Heap.get?_push_of_some _ (Heap.get?_push_of_some _ e)⟩
end
end L2
namespace L2
open PySem PySem.Spec PyProof.Rows
noncomputable def Ite (K : PySem.W.Frag) (k : Bool) (l : Addr) : It :=
  ⟨fun i H => ∃ xs x, SqK K k H l xs ∧ xs[i]? = some x,
   fun i H v H' => ∃ T x, H T = none ∧ v = .ref T ∧ H' = upd H T (.tup [.int i, x]) ∧ ∀ xs, SqK K k H l xs → xs[i]? = some x,
   fun i H => ∃ xs, SqK K k H l xs ∧ xs.length ≤ i⟩
noncomputable def EnumSt (k : Bool) (e p l : Addr) (i : Nat) (h : Heap) : Prop := (∃ old, IsEnum h e p i old) ∧ SI k h p l i
theorem turn_enum {P : Program} {w : World} {K : PySem.W.Frag} {elts : List Expr} {kx : Nat} {tp : Pos} {k : Bool} {e p l : Addr} (hne : e ≠ p) : Turn P w K (.Tuple elts kx tp) (Ite K k l) [e, p] e (EnumSt k e p l) where
  mem := by simp
  obj := fun i h ⟨⟨old, ie⟩, g⟩ c hc => by
    simp only [List.mem_cons, List.not_mem_nil, or_false] at hc
    rcases hc with rfl | rfl
    · exact ⟨_, ie, fun v z => by cases z⟩
    · exact g.obj
  keep := fun i h h' ⟨⟨old, ie⟩, g⟩ kk => ⟨⟨old, kk e (by simp) _ ie⟩, g.at fun o z => kk p (by simp) o z⟩
  item := by
    intro X hP hw hK hc i pins s σ H E I hf st hg
    subst hP hw hK
    obtain ⟨⟨old, ie⟩, g⟩ := st
    obtain ⟨xs, x, q1, hx⟩ := hg
    obtain ⟨is1, r1, m1⟩ := I.sqk q1
    obtain ⟨u1, hu1, ru1⟩ := r1.get hx
    refine enumTurn ie g m1 (v := u1) (by simpa using hu1) hne fun h' a1 a2 a3 a4 kk => ?_
    refine ⟨_, rfl, ?_⟩
    refine wpAny_letOwnedTupleGo_enum (s := { s with heap := h', toks := s.toks + 1 }) a1 fun h2 b1 b2 => ?_
    have lt : ∀ {c o}, s.heap.get? c = some o → c ≠ s.heap.objs.size := fun z => Nat.ne_of_lt (Heap.lt_size z)
    have I1 : Inv X pins σ (upd H s.heap.objs.size (.tup [.int i, x])) { s with heap := s.heap.push { cls := .type "tuple", data := .seq #[.int i s.toks, u1] }, toks := s.toks + 1 } :=
      I.laid (o := .tup [.int i, x]) (fun b ob q => Heap.get?_push_of_some _ q) (Nat.le_refl _) ⟨(show 2 ≤ sizeLine by decide), [.int i s.toks, u1], .cons ⟨_, rfl⟩ (.cons ru1 .nil), IsTup.new _ _⟩
    have nfp : ∀ c ∈ [e, p], c ≠ s.heap.objs.size := fun c hc => by
      simp only [List.mem_cons, List.not_mem_nil, or_false] at hc
      rcases hc with rfl | rfl
      · exact lt ie
      · obtain ⟨o, z, _⟩ := g.obj; exact lt z
    have hf' : ∀ c ∈ [e, p], FpOk X pins (upd H s.heap.objs.size (.tup [.int i, x])) c := fun c hc => by
      obtain ⟨f0, f1⟩ := hf c hc
      exact ⟨by rw [upd_ne (nfp c hc)]; exact f0, f1⟩
    have I2 : Inv X pins σ (upd H s.heap.objs.size (.tup [.int i, x])) { s with heap := h2, toks := s.toks + 1 } := by
      refine Inv.turnedN (s := { s with heap := s.heap.push { cls := .type "tuple", data := .seq #[.int i s.toks, u1] }, toks := s.toks + 1 }) (t' := s.toks + 1) (h' := h2) (ch := [e, p]) I1 (fun c o hcn z => ?_) hf'
      simp only [List.mem_cons, List.not_mem_nil, or_false, not_or] at hcn
      obtain ⟨n1, n2⟩ := hcn
      refine b2.extBut c o n1 ?_
      have z' : (s.heap.push { cls := .type "tuple", data := .seq #[.int i s.toks, u1] }).get? c = some o := z
      by_cases hcs : c = s.heap.objs.size
      · subst hcs
        rw [Heap.get?_push_size _ rfl] at z'
        cases z'
        exact a3
      · rw [Heap.get?_push_ne _ _ _ hcs] at z'
        exact kk c o n1 n2 z'
    refine ⟨.ref s.heap.objs.size, _, I2, rfl, ⟨_, x, I.hok.fresh (Nat.le_refl _), rfl, rfl, fun zs hz => by rw [I.sqk_inj hz q1]; exact hx⟩, ?_, fun c hc => (hf' c hc).1⟩
    have ec : ((i + 1 : Nat) : Int) = (i : Int) + 1 := by omega
    exact ⟨⟨u1, by rw [ec]; exact b1⟩, a2.at fun o z => b2.extBut p o (Ne.symm hne) z⟩
  done := by
    intro X hP hw hK hc i pins s σ H E I hf st hg
    subst hP hw hK
    obtain ⟨⟨old, ie⟩, g⟩ := st
    obtain ⟨xs, q1, hx⟩ := hg
    obtain ⟨is1, r1, m1⟩ := I.sqk q1
    have e1 := r1.length
    refine enumEnd (I.ok.hd hc) ie g m1 (by simp; omega) fun h' kk => ⟨rfl, ?_⟩
    refine I.turnedN (t' := s.toks) (ch := [e, p]) (fun c o hcn z => ?_) hf
    simp only [List.mem_cons, List.not_mem_nil, or_false, not_or] at hcn
    exact kk c o hcn.2 z
  self := fun _ _ _ _ _ st h => let ⟨⟨_, ie⟩, _⟩ := st; wpAny_pyIter_enum ie h
noncomputable def iEnum (K : PySem.W.Frag) (ta : TA) : TI := fun σ H R => ta σ H fun vs H1 => ∃ k l, vs = [.ref l] ∧ (∃ xs, SqK K k H1 l xs) ∧ R (Ite K k l) H1
theorem pi_enum {X : Cx} {elts : List Expr} {kx : Nat} {tp : Pos} {a : Expr} {ta : TA} {p pos : Pos} (hg : Gl X "enumerate") (hm : X.mg "enumerate" = none) (ha : PA X [a] ta) (hs : starEach [a] X.env = [(false, eval a X.env)] := by rfl) :
    PI X (.Tuple elts kx tp) (.Call (.Name "enumerate" p) [a] [] pos) (iEnum X.K ta) := by
  intro pins s σ H R I h
  refine Call_ (ld_blt I hg hm PyProof.Rows.boot_enumerate (PyProof.Rows.callWith_type1 (thn (ha pos pins s σ H _ I h) fun us s1 ⟨vs, H1, I1, r1, q1⟩ => ?_) hs rfl))
  obtain ⟨k, l, e, ⟨xs, q2⟩, q⟩ := q1
  subst e
  cases r1 with
  | cons r rr =>
    cases rr
    cases r
    obtain ⟨is1, _, m1⟩ := I1.sqk q2
    refine callEnum m1 fun h' a1 a2 a3 kk => ?_
    refine wpAny_pyIter_enum (s := { s1 with heap := h' }) a1 ?_
    refine ⟨s1.heap.objs.size + 1, _, _, _, H1, rfl, I1.kept (t' := s1.toks) kk, turn_enum (Nat.succ_ne_self _), ⟨⟨_, a1⟩, a2⟩, fun c hc => ?_, q⟩
    have hge : s1.heap.objs.size ≤ c := by
      simp only [List.mem_cons, List.not_mem_nil, or_false] at hc
      rcases hc with rfl | rfl
      · exact Nat.le_add_right _ _
      · exact Nat.le_refl _
    exact I1.fpOk hge (I1.hok.fresh hge)
end L2

namespace L2
open PySem
theorem PE.imp {X : Cx} {x : Expr} {t t' : TE} (h : PE X x t) (i : ∀ σ H Q, t' σ H Q → t σ H Q) : PE X x t' := fun pins s σ H Q I q => h pins s σ H Q I (i σ H Q q)
theorem PT.imp {X : Cx} {x : Expr} {t t' : TT} (h : PT X x t) (i : ∀ σ H Q, t' σ H Q → t σ H Q) : PT X x t' := fun pins s σ H Q I q => h pins s σ H Q I (i σ H Q q)
theorem PW.imp {X : Cx} {x : Expr} {t t' : TT} (h : PW X x t) (i : ∀ σ H Q, t' σ H Q → t σ H Q) : PW X x t' := fun wh pins s σ H Q I q => h wh pins s σ H Q I (i σ H Q q)
theorem PA.imp {X : Cx} {x : List Expr} {t t' : TA} (h : PA X x t) (i : ∀ σ H Q, t' σ H Q → t σ H Q) : PA X x t' := fun pos pins s σ H Q I q => h pos pins s σ H Q I (i σ H Q q)
theorem PS.imp {X : Cx} {x : Stmt} {t t' : TS} (h : PS X x t) (i : ∀ E σ H, t' E σ H → t E σ H) : PS X x t' := fun pins s σ H D I q => h pins s σ H D I (i D σ H q)
theorem PSs.imp {X : Cx} {x : List Stmt} {t t' : TS} (h : PSs X x t) (i : ∀ E σ H, t' E σ H → t E σ H) : PSs X x t' := fun pins s σ H D I q => h pins s σ H D I (i D σ H q)
theorem OpR.imp {X : Cx} {f : Value → Value → Sem Value} {r r' : R2} (h : OpR X f r) (i : ∀ x y H Q, r' x y H Q → r x y H Q) : OpR X f r' := fun pins s σ H x y v u Q I rx ry q => h pins s σ H x y v u Q I rx ry (i x y H Q q)
theorem IxR.imp {X : Cx} {r r' : R2} (h : IxR X r) (i : ∀ x y H Q, r' x y H Q → r x y H Q) : IxR X r' := fun va sl pins s σ H x y v u Q I rx ry q => h va sl pins s σ H x y v u Q I rx ry (i x y H Q q)
theorem PG.imp {X : Cx} {x : Expr} {t t' : TG} (h : PG X x t) (i : ∀ v σ H Q, t' v σ H Q → t v σ H Q) : PG X x t' := fun pins s σ H v u Q I r q => h pins s σ H v u Q I r (i v σ H Q q)
theorem PGs.imp {X : Cx} {x : List Expr} {t t' : TGs} (h : PGs X x t) (i : ∀ v σ H Q, t' v σ H Q → t v σ H Q) : PGs X x t' := fun pins s σ H v u Q I r q => h pins s σ H v u Q I r (i v σ H Q q)
end L2
namespace DL
open PySem PySem.Spec L2
open PyProof.Rows hiding St


inductive D where
  | non | bl (b : Bool) | int (i : Int) | str (x : Str) | ref (a : Addr) | tup (ds : List D) | vl (ds : List D) | ty (n : String) | dic | exc (c : Str)

noncomputable def KL (K : PySem.W.Frag) (a : Addr) (xs : List V) : Prop := ∀ H : Hp, SqL K H a xs

mutual
inductive Has (K : PySem.W.Frag) (H : Hp) : V → D → Prop
  | non : Has K H .non .non
  | bl (b : Bool) : Has K H (.bl b) (.bl b)
  | int (i : Int) : Has K H (.int i) (.int i)
  | str (x : Str) : Has K H (.str x) (.str x)
  | ref (a : Addr) : Has K H (.ref a) (.ref a)
  | ty (n : String) : Has K H (.ty n) (.ty n)
  | tup {a : Addr} {xs : List V} {ds : List D} : SqT K H a xs → HasL K H xs ds → Has K H (.ref a) (.tup ds)
  | vl {a : Addr} {xs : List V} {ds : List D} : ((∃ o, H a = some (.frz o (.lst xs))) ∨ KL K a xs) → HasL K H xs ds → Has K H (.ref a) (.vl ds)
  | dic {a : Addr} : (∃ o : Obj, H a = some (.frz o (.own 0)) ∧ o.cls = .type "dict") → Has K H (.ref a) .dic
  | exc {a : Addr} {c : Str} : (∃ (o : Obj) (C : Addr), H a = some (.frz o (.own 0)) ∧ o.cls = .ref C ∧ PySem.W.nsIn K mainGlobals c = some (some (.ref C))) → Has K H (.ref a) (.exc c)
inductive HasL (K : PySem.W.Frag) (H : Hp) : List V → List D → Prop
  | nil : HasL K H [] []
  | cons {v : V} {d : D} {vs : List V} {ds : List D} : Has K H v d → HasL K H vs ds → HasL K H (v :: vs) (d :: ds)
end

structure KT0 (H H' : Hp) : Prop where
  tp : ∀ a xs, Rd H a (.tup xs) → Rd H' a (.tup xs)
  fz : ∀ a o u, H a = some (.frz o u) → H' a = some (.frz o u)
structure KT (H H' : Hp) : Prop extends KT0 H H' where
  ex : ∀ a φ, H a = some (.ext φ) → H' a = some (.ext φ)
theorem KT.refl (H : Hp) : KT H H := ⟨⟨fun _ _ h => h, fun _ _ _ h => h⟩, fun _ _ h => h⟩
theorem KT.trans {H H1 H2 : Hp} (a : KT H H1) (b : KT H1 H2) : KT H H2 := ⟨⟨fun p xs h => b.tp p xs (a.tp p xs h), fun p o xs h => b.fz p o xs (a.fz p o xs h)⟩, fun p φ h => b.ex p φ (a.ex p φ h)⟩
theorem KT0.sq {K : PySem.W.Frag} {H H' : Hp} (k : KT0 H H') {a : Addr} {xs : List V} (h : SqT K H a xs) : SqT K H' a xs := h.elim (fun z => .inl (k.tp a xs z)) .inr
theorem KT.sq {K : PySem.W.Frag} {H H' : Hp} (k : KT H H') {a : Addr} {xs : List V} (h : SqT K H a xs) : SqT K H' a xs := k.toKT0.sq h
theorem KT0.at {H : Hp} {p : Addr} {o : HO} (h1 : ∀ xs, ¬ Rd H p (.tup xs)) (h2 : ∀ q u, H p ≠ some (.frz q u)) : KT0 H (upd H p o) where
  tp := fun a xs r => by
    have hn : a ≠ p := by intro e; subst e; exact h1 xs r
    rcases r with r | ⟨q, r⟩
    · exact .inl (by rw [upd_ne hn]; exact r)
    · exact .inr ⟨q, by rw [upd_ne hn]; exact r⟩
  fz := fun a q xs r => by
    have hn : a ≠ p := by intro e; subst e; exact h2 q xs r
    rw [upd_ne hn]; exact r
theorem KT.at {H : Hp} {p : Addr} {o : HO} (h1 : ∀ xs, ¬ Rd H p (.tup xs)) (h2 : ∀ q u, H p ≠ some (.frz q u)) (h3 : ∀ φ, H p ≠ some (.ext φ)) : KT H (upd H p o) := ⟨KT0.at h1 h2, fun a φ r => by
    have hn : a ≠ p := by intro e; subst e; exact h3 φ r
    rw [upd_ne hn]; exact r⟩
theorem KT.alloc {H : Hp} {p : Addr} {o : HO} (h : H p = none) : KT H (upd H p o) := KT.at (fun xs r => by rcases r with r | ⟨_, r⟩ <;> (rw [h] at r; cases r)) (fun q xs r => by rw [h] at r; cases r) fun φ r => by rw [h] at r; cases r
theorem KT.any {H : Hp} {p : Addr} {xs : List V} {o : HO} (h : H p = some (.lst xs)) : KT H (upd H p o) := KT.at (fun xs r => by rcases r with r | ⟨_, r⟩ <;> (rw [h] at r; cases r)) (fun q xs r => by rw [h] at r; cases r) fun φ r => by rw [h] at r; cases r
theorem KT.write {H : Hp} {p : Addr} {xs ys : List V} (h : H p = some (.lst xs)) : KT H (upd H p (.lst ys)) := KT.any h
theorem KT0.ext {H : Hp} {p : Addr} {φ : Heap → Prop} {o : HO} (h : H p = some (.ext φ)) : KT0 H (upd H p o) := KT0.at (fun xs r => by rcases r with r | ⟨_, r⟩ <;> (rw [h] at r; cases r)) fun q xs r => by rw [h] at r; cases r
theorem KT.new {H H' : Hp} {p : Addr} {o : HO} (k : KT H H') (h : H p = none) : KT H (upd H' p o) where
  tp := fun a xs r => by
    have hn : a ≠ p := by intro e; subst e; rcases r with r | ⟨_, r⟩ <;> (rw [h] at r; cases r)
    rcases k.tp a xs r with r | ⟨q, r⟩
    · exact .inl (by rw [upd_ne hn]; exact r)
    · exact .inr ⟨q, by rw [upd_ne hn]; exact r⟩
  fz := fun a q xs r => by
    have hn : a ≠ p := by intro e; subst e; rw [h] at r; cases r
    rw [upd_ne hn]; exact k.fz a q xs r
  ex := fun a φ r => by
    have hn : a ≠ p := by intro e; subst e; rw [h] at r; cases r
    rw [upd_ne hn]; exact k.ex a φ r

mutual
theorem Has.mono0 {K : PySem.W.Frag} {H H' : Hp} (k : KT0 H H') : ∀ {v : V} {d : D}, Has K H v d → Has K H' v d
  | _, _, .non => .non
  | _, _, .bl b => .bl b
  | _, _, .int i => .int i
  | _, _, .str x => .str x
  | _, _, .ref a => .ref a
  | _, _, .ty n => .ty n
  | _, _, .tup s l => .tup (k.sq s) (HasL.mono0 k l)
  | _, _, .vl h l => .vl (h.elim (fun ⟨o, e⟩ => .inl ⟨o, k.fz _ _ _ e⟩) .inr) (HasL.mono0 k l)
  | _, _, .dic h => .dic (let ⟨o, e, c⟩ := h; ⟨o, k.fz _ _ _ e, c⟩)
  | _, _, .exc h => .exc (let ⟨o, C, e, c⟩ := h; ⟨o, C, k.fz _ _ _ e, c⟩)
theorem HasL.mono0 {K : PySem.W.Frag} {H H' : Hp} (k : KT0 H H') : ∀ {v : List V} {d : List D}, HasL K H v d → HasL K H' v d
  | _, _, .nil => .nil
  | _, _, .cons a b => .cons (Has.mono0 k a) (HasL.mono0 k b)
end
theorem Has.mono {K : PySem.W.Frag} {H H' : Hp} (k : KT H H') {v : V} {d : D} (h : Has K H v d) : Has K H' v d := h.mono0 k.toKT0
theorem HasL.mono {K : PySem.W.Frag} {H H' : Hp} (k : KT H H') {v : List V} {d : List D} (h : HasL K H v d) : HasL K H' v d := h.mono0 k.toKT0
section
variable {K : PySem.W.Frag} {H H' : Hp}
theorem HasL.length : ∀ {vs : List V} {ds : List D}, HasL K H vs ds → vs.length = ds.length
  | _, _, .nil => rfl
  | _, _, .cons _ b => congrArg Nat.succ (HasL.length b)
theorem HasL.get : ∀ {vs : List V} {ds : List D} {i : Nat} {d : D}, HasL K H vs ds → ds[i]? = some d → ∃ v, vs[i]? = some v ∧ Has K H v d
  | _, _, _, _, .nil, e => by simp at e
  | _, _, 0, _, .cons a _, e => by simp at e; subst e; exact ⟨_, rfl, a⟩
  | _, _, i + 1, d, .cons _ b, e => by
    obtain ⟨v, h1, h2⟩ := HasL.get (i := i) (d := d) b (by simpa using e)
    exact ⟨v, by simpa using h1, h2⟩
theorem HasL.getV : ∀ {vs : List V} {ds : List D} {i : Nat} {v : V}, HasL K H vs ds → vs[i]? = some v → ∃ d, ds[i]? = some d ∧ Has K H v d
  | _, _, _, _, .nil, e => by simp at e
  | _, _, 0, _, .cons a _, e => by simp at e; subst e; exact ⟨_, rfl, a⟩
  | _, _, i + 1, d, .cons _ b, e => by
    obtain ⟨v, h1, h2⟩ := HasL.getV (i := i) (v := d) b (by simpa using e)
    exact ⟨v, by simpa using h1, h2⟩
theorem HasL.set {v : V} {d : D} (r : Has K H v d) : ∀ {vs : List V} {ds : List D} (i : Nat), HasL K H vs ds → HasL K H (vs.set i v) (ds.set i d)
  | _, _, _, .nil => .nil
  | _, _, 0, .cons _ t => .cons r t
  | _, _, i + 1, .cons q t => .cons q (HasL.set r i t)
theorem HasL.append : ∀ {xs ys : List V} {us ws : List D}, HasL K H xs us → HasL K H ys ws → HasL K H (xs ++ ys) (us ++ ws)
  | _, _, _, _, .nil, s => s
  | _, _, _, _, .cons r t, s => .cons r (HasL.append t s)
theorem HasL.take : ∀ {xs : List V} {us : List D} (n : Nat), HasL K H xs us → HasL K H (xs.take n) (us.take n)
  | _, _, 0, _ => .nil
  | _, _, _ + 1, .nil => .nil
  | _, _, n + 1, .cons r t => .cons r (HasL.take n t)
theorem HasL.drop : ∀ {xs : List V} {us : List D} (n : Nat), HasL K H xs us → HasL K H (xs.drop n) (us.drop n)
  | _, _, 0, r => r
  | _, _, _ + 1, .nil => .nil
  | _, _, n + 1, .cons _ t => HasL.drop n t
theorem HasL.ints : ∀ (ns : List Int), HasL K H (ns.map V.int) (ns.map D.int)
  | [] => .nil
  | n :: r => .cons (.int n) (HasL.ints r)
end


inductive MO where
  | lst (ds : List D)
noncomputable abbrev Mem := Addr → Option MO
noncomputable def updM (M : Mem) (a : Addr) (o : MO) : Mem := fun b => if b = a then some o else M b
theorem updM_same {M : Mem} {a : Addr} {o : MO} : updM M a o a = some o := by unfold updM; rw [if_pos rfl]
theorem updM_ne {M : Mem} {a b : Addr} {o : MO} (h : b ≠ a) : updM M a o b = M b := by unfold updM; rw [if_neg h]
theorem updM_upd {M : Mem} {a : Addr} {o u : MO} : updM (updM M a o) a u = updM M a u := by
  funext b; unfold updM; by_cases h : b = a <;> simp [h]
noncomputable def MOk (K : PySem.W.Frag) (H : Hp) (a : Addr) : MO → Prop
  | .lst ds => ∃ xs, H a = some (.lst xs) ∧ HasL K H xs ds
noncomputable def AbsM (K : PySem.W.Frag) (H : Hp) (M : Mem) : Prop := ∀ a o, M a = some o → MOk K H a o
section
variable {K : PySem.W.Frag} {H H' : Hp} {M : Mem}
theorem AbsM.fresh (h : AbsM K H M) {p : Addr} (e : H p = none) : M p = none := by
  cases q : M p with
  | none => rfl
  | some o =>
    cases o with
    | lst ds => obtain ⟨xs, z, _⟩ := h p _ q; rw [e] at z; cases z
theorem AbsM.alloc (h : AbsM K H M) {p : Addr} {u : HO} (e : H p = none) : AbsM K (upd H p u) M := fun a o m => by
  have k : KT H (upd H p u) := KT.alloc e
  cases o with
  | lst ds =>
    obtain ⟨xs, z, l⟩ := h a _ m
    have hn : a ≠ p := ne_of_none z e
    exact ⟨xs, by rw [upd_ne hn]; exact z, l.mono k⟩
theorem AbsM.new (h : AbsM K H M) {p : Addr} {xs : List V} {ds : List D} (e : H p = none) (l : HasL K H xs ds) : AbsM K (upd H p (.lst xs)) (updM M p (.lst ds)) := fun a o m => by
  by_cases q : a = p
  · subst q
    rw [updM_same] at m; cases m
    exact ⟨xs, upd_same, l.mono (KT.alloc e)⟩
  · rw [updM_ne q] at m
    exact h.alloc e a o m
theorem AbsM.write (h : AbsM K H M) {p : Addr} {xs ys : List V} {ds : List D} (e : H p = some (.lst xs)) (l : HasL K H ys ds) : AbsM K (upd H p (.lst ys)) (updM M p (.lst ds)) := fun a o m => by
  have k : KT H (upd H p (.lst ys)) := KT.write e
  by_cases q : a = p
  · subst q
    rw [updM_same] at m; cases m
    exact ⟨ys, upd_same, l.mono k⟩
  · rw [updM_ne q] at m
    cases o with
    | lst es =>
      obtain ⟨zs, z, l⟩ := h a _ m
      exact ⟨zs, by rw [upd_ne q]; exact z, l.mono k⟩
theorem AbsM.lst (h : AbsM K H M) {a : Addr} {ds : List D} (m : M a = some (.lst ds)) : ∃ xs, H a = some (.lst xs) ∧ HasL K H xs ds := h a _ m
end


noncomputable abbrev Ev := List (Option D)
structure EnvOk (K : PySem.W.Frag) (H : Hp) (σ : St) (e : Ev) : Prop where
  len : σ.length = e.length
  has : ∀ (i : Nat) (d : D), e[i]? = some (some d) → ∃ v, σ[i]? = some (some v) ∧ Has K H v d
section
variable {K : PySem.W.Frag} {H H' : Hp} {σ : St} {e : Ev}
theorem EnvOk.mono (k : KT H H') (h : EnvOk K H σ e) : EnvOk K H' σ e := ⟨h.len, fun i d z => let ⟨v, a, b⟩ := h.has i d z; ⟨v, a, b.mono k⟩⟩
theorem EnvOk.set (h : EnvOk K H σ e) {v : V} {d : D} (r : Has K H v d) (i : Nat) : EnvOk K H (σ.set i (some v)) (e.set i (some d)) := by
  refine ⟨by simp [h.len], fun j x z => ?_⟩
  rw [List.getElem?_set] at z ⊢
  by_cases q : i = j
  · subst q
    rw [if_pos rfl] at z ⊢
    by_cases l : i < e.length
    · rw [if_pos l] at z
      rw [if_pos (by rw [h.len]; exact l)]
      cases z
      exact ⟨v, rfl, r⟩
    · rw [if_neg l] at z; cases z
  · rw [if_neg q] at z ⊢
    exact h.has j x z
end
noncomputable def dstart (N : List Str) (ds : List D) : Ev := ds.map some ++ List.replicate (N.length - ds.length) none
theorem EnvOk.start0 {K : PySem.W.Frag} {H : Hp} {N : List Str} {vs : List V} {ds : List D} (h : HasL K H vs ds) : EnvOk K H (L2.start N vs) (dstart N ds) := by
  have hl := h.length
  refine ⟨by simp [L2.start, dstart, hl], fun i d z => ?_⟩
  unfold dstart at z
  unfold L2.start
  rw [List.getElem?_append] at z ⊢
  simp only [List.length_map] at z ⊢
  rw [hl]
  by_cases q : i < ds.length
  · rw [if_pos q] at z ⊢
    rw [List.getElem?_map] at z ⊢
    cases e : ds[i]? with
    | none => rw [e] at z; cases z
    | some x =>
      rw [e] at z
      have z' : x = d := by simpa using z
      subst z'
      obtain ⟨v, a, b⟩ := h.get e
      exact ⟨v, by rw [a]; rfl, b⟩
  · rw [if_neg q] at z
    rw [List.getElem?_replicate] at z
    split at z <;> cases z


noncomputable abbrev DK := D → Mem → Prop
noncomputable abbrev DTE := Ev → Mem → DK → Prop
noncomputable abbrev DTT := Ev → Mem → (Bool → Mem → Prop) → Prop
noncomputable abbrev DTA := Ev → Mem → (List D → Mem → Prop) → Prop
structure DEnds where
  nx : Ev → Mem → Prop
  rt : DK
  bk : Ev → Mem → Prop := fun _ _ => False
  ct : Ev → Mem → Prop := fun _ _ => False
noncomputable abbrev DTS := DEnds → Ev → Mem → Prop
noncomputable def FitV (K : PySem.W.Frag) (H : Hp) (R : DK) (Q : VK) : Prop := ∀ d M', R d M' → ∀ v H', KT H H' → AbsM K H' M' → Has K H' v d → Q v H'
noncomputable def FitB (K : PySem.W.Frag) (H : Hp) (R : Bool → Mem → Prop) (Q : Bool → Hp → Prop) : Prop := ∀ b M', R b M' → ∀ H', KT H H' → AbsM K H' M' → Q b H'
noncomputable def FitL (K : PySem.W.Frag) (H : Hp) (R : List D → Mem → Prop) (Q : List V → Hp → Prop) : Prop := ∀ ds M', R ds M' → ∀ vs H', KT H H' → AbsM K H' M' → HasL K H' vs ds → Q vs H'
noncomputable def FitN (K : PySem.W.Frag) (H : Hp) (R : Ev → Mem → Prop) (Q : St → Hp → Prop) : Prop := ∀ e M', R e M' → ∀ σ H', KT H H' → AbsM K H' M' → EnvOk K H' σ e → Q σ H'
structure Fit (K : PySem.W.Frag) (H : Hp) (F : DEnds) (E : Ends) : Prop where
  nx : FitN K H F.nx E.nx
  rt : FitV K H F.rt E.rt
  bk : FitN K H F.bk E.bk
  ct : FitN K H F.ct E.ct
section
variable {K : PySem.W.Frag} {H H' : Hp}
theorem FitV.mono {R : DK} {Q : VK} (h : FitV K H R Q) (k : KT H H') : FitV K H' R Q := fun d M r v H2 k2 a b => h d M r v H2 (k.trans k2) a b
theorem FitB.mono {R : Bool → Mem → Prop} {Q : Bool → Hp → Prop} (h : FitB K H R Q) (k : KT H H') : FitB K H' R Q := fun d M r H2 k2 a => h d M r H2 (k.trans k2) a
theorem FitL.mono {R : List D → Mem → Prop} {Q : List V → Hp → Prop} (h : FitL K H R Q) (k : KT H H') : FitL K H' R Q := fun d M r v H2 k2 a b => h d M r v H2 (k.trans k2) a b
theorem FitN.mono {R : Ev → Mem → Prop} {Q : St → Hp → Prop} (h : FitN K H R Q) (k : KT H H') : FitN K H' R Q := fun d M r v H2 k2 a b => h d M r v H2 (k.trans k2) a b
theorem Fit.mono {F : DEnds} {E : Ends} (h : Fit K H F E) (k : KT H H') : Fit K H' F E := ⟨h.nx.mono k, h.rt.mono k, h.bk.mono k, h.ct.mono k⟩
end
noncomputable def up (K : PySem.W.Frag) (t : DTE) : TE := fun σ H Q => ∃ e M R, EnvOk K H σ e ∧ AbsM K H M ∧ t e M R ∧ FitV K H R Q
noncomputable def upT (K : PySem.W.Frag) (t : DTT) : TT := fun σ H Q => ∃ e M R, EnvOk K H σ e ∧ AbsM K H M ∧ t e M R ∧ FitB K H R Q
noncomputable def upA (K : PySem.W.Frag) (t : DTA) : TA := fun σ H Q => ∃ e M R, EnvOk K H σ e ∧ AbsM K H M ∧ t e M R ∧ FitL K H R Q
noncomputable def upS (K : PySem.W.Frag) (t : DTS) : TS := fun E σ H => ∃ e M F, EnvOk K H σ e ∧ AbsM K H M ∧ t F e M ∧ Fit K H F E
noncomputable abbrev DPE (X : Cx) (x : Expr) (t : DTE) : Prop := PE X x (up X.K t)
noncomputable abbrev DPT (X : Cx) (x : Expr) (t : DTT) : Prop := PT X x (upT X.K t)
noncomputable abbrev DPW (X : Cx) (x : Expr) (t : DTT) : Prop := PW X x (upT X.K t)
noncomputable abbrev DPA (X : Cx) (x : List Expr) (t : DTA) : Prop := PA X x (upA X.K t)
noncomputable abbrev DPS (X : Cx) (x : Stmt) (t : DTS) : Prop := PS X x (upS X.K t)
noncomputable abbrev DPSs (X : Cx) (x : List Stmt) (t : DTS) : Prop := PSs X x (upS X.K t)
structure JE (X : Cx) (x : Expr) (t : DTE) : Prop where
  out : DPE X x t
structure JT (X : Cx) (x : Expr) (t : DTT) : Prop where
  out : DPT X x t
structure JW (X : Cx) (x : Expr) (t : DTT) : Prop where
  out : DPW X x t
structure JA (X : Cx) (x : List Expr) (t : DTA) : Prop where
  out : DPA X x t
structure JS (X : Cx) (x : Stmt) (t : DTS) : Prop where
  out : DPS X x t
structure JSs (X : Cx) (x : List Stmt) (t : DTS) : Prop where
  out : DPSs X x t

section
variable {X : Cx} {a b c : Expr} {ta tb tc : DTE} {pos : Pos}

noncomputable def dVar (i : Nat) : DTE := fun e M R => ∃ d, e[i]? = some (some d) ∧ R d M
noncomputable def dC (d : D) : DTE := fun _ M R => R d M
theorem jd_var (i : Nat) {x : Str} {pos : Pos} (hN : X.N[i]? = some x := by rfl) (hv : Vis X.env.scope x := by first | exact Or.inl rfl | exact Or.inr (Or.inl rfl) | exact Or.inr (Or.inr rfl)) (hd : (x == ("__debug__" : Str)) = false := by decide)
    (hcd : (x == ("__classdict__" : Str)) = false := by decide) : JE X (.Name x pos) (dVar i) := ⟨(pe_var hN hv hd hcd).imp (by
    rintro σ H Q ⟨e, M, R, ok, am, ⟨d, z, r⟩, f⟩
    obtain ⟨v, h1, h2⟩ := ok.has i d z
    exact ⟨v, h1, f d M r v H (KT.refl H) am h2⟩)⟩
theorem d_const {v : V} {d : D} (h : PE X a (tC v)) (r : ∀ H, Has X.K H v d) : DPE X a (dC d) :=
  h.imp (by rintro σ H Q ⟨e, M, R, ok, am, z, f⟩; exact f d M z v H (KT.refl H) am (r H))
theorem jd_int {i j pos} : JE X (.Constant (.int i) j pos) (dC (.int i)) := ⟨d_const pe_int fun _ => .int i⟩
theorem jd_bl {b j pos} : JE X (.Constant (.bool b) j pos) (dC (.bl b)) := ⟨d_const pe_bl fun _ => .bl b⟩
theorem jd_non {j pos} : JE X (.Constant .none j pos) (dC .non) := ⟨d_const pe_non fun _ => .non⟩
theorem jd_str {x j pos} : JE X (.Constant (.str x) j pos) (dC (.str x)) := ⟨d_const pe_str fun _ => .str x⟩
noncomputable def HasK (K : PySem.W.Frag) (v : V) (d : D) : Prop := ∀ H, Has K H v d
theorem d_glob {x : Str} {v : V} {d : D} {u : Value} {pos : Pos} (hg : Gl X x) (hm : X.mg x = some u) (r : RelV v u) (hk : HasK X.K v d) (hd : (x == ("__debug__" : Str)) = false := by decide) : DPE X (.Name x pos) (dC d) :=
  d_const (pe_glob hg hm r hd) hk

noncomputable abbrev DR2 := D → D → Mem → DK → Prop
noncomputable def upR (K : PySem.W.Frag) (g : DR2) : R2 := fun x y H Q => ∃ dx dy M R, Has K H x dx ∧ Has K H y dy ∧ AbsM K H M ∧ g dx dy M R ∧ FitV K H R Q
noncomputable def DOp (X : Cx) (f : Value → Value → Sem Value) (g : DR2) : Prop := OpR X f (upR X.K g)
noncomputable def dOp (g : DR2) (ta tb : DTE) : DTE := fun e M R => ta e M fun x M1 => tb e M1 fun y M2 => g x y M2 R
theorem two_up {ta tb : DTE} {g : DR2} {σ : St} {H : Hp} {Q : VK} (h : up X.K (dOp g ta tb) σ H Q) : tOp (upR X.K g) (up X.K ta) (up X.K tb) σ H Q := by
  obtain ⟨e, M, R, ok, am, t, f⟩ := h
  refine ⟨e, M, _, ok, am, t, fun x M1 h1 v H1 k1 a1 r1 => ?_⟩
  refine ⟨e, M1, _, ok.mono k1, a1, h1, fun y M2 h2 u H2 k2 a2 r2 => ?_⟩
  exact ⟨x, y, M2, R, r1.mono k2, r2, a2, h2, f.mono (k1.trans k2)⟩
theorem jd_op {op : Operator} {g : DR2} (ho : DOp X (binaryOp op) g) (ha : JE X a ta) (hb : JE X b tb) : JE X (.BinOp a op b pos) (dOp g ta tb) := ⟨have ha := ha.out; have hb := hb.out; (pe_op ho ha hb).imp fun _ _ _ h => two_up h⟩
theorem jd_cmp {op : CmpOp} {g : DR2} (ho : DOp X (compareOp op) g) (ha : JE X a ta) (hb : JE X b tb) (hm : behindInMarks op b = false) : JE X (.Compare a [op] [b] pos) (dOp g ta tb) := ⟨have ha := ha.out; have hb := hb.out; (pe_cmpR ho ha hb hm).imp fun _ _ _ h => two_up h⟩
noncomputable def dTest (t : DTE) : DTT := fun e M R => t e M fun x M' => ∃ k, x = .bl k ∧ R k M'
theorem test_fit {K : PySem.W.Frag} {H : Hp} {R : Bool → Mem → Prop} {Q : Bool → Hp → Prop} (f : FitB K H R Q) : FitV K H (fun x M' => ∃ k, x = .bl k ∧ R k M') (fun x H' => ∃ k, x = .bl k ∧ Q k H') := by
  rintro d M' ⟨k, rfl, r⟩ v H' kt am h
  cases h
  exact ⟨k, rfl, f k M' r H' kt am⟩
theorem jd_tcmp {op : CmpOp} {g : DR2} (ho : DOp X (compareOp op) g) (ha : JE X a ta) (hb : JE X b tb) (hm : behindInMarks op b = false) : JT X (.Compare a [op] [b] pos) (dTest (dOp g ta tb)) := ⟨have ha := ha.out; have hb := hb.out; (pt_cmpR ho ha hb hm).imp (by rintro σ H Q ⟨e, M, R, ok, am, t, f⟩; exact two_up (Q := fun x H' => ∃ k, x = .bl k ∧ Q k H') ⟨e, M, _, ok, am, t, test_fit f⟩)⟩
theorem jd_tval {x : Expr} {t : DTE} (h : JE X x t) (he : ∀ whole, isTrue x X.env whole = (do let v ← whole; standAt x.pos; holding [v] (truthy v)) := by intro _; rfl) : JT X x (dTest t) := ⟨have h := h.out; (pt_val h he).imp (by rintro σ H Q ⟨e, M, R, ok, am, t, f⟩; exact ⟨e, M, _, ok, am, t, test_fit f⟩)⟩
noncomputable def fI (f : Int → Int → D) : D → D → Option D
  | .int i, .int j => some (f i j)
  | _, _ => none
noncomputable def gF (f : D → D → Option D) : DR2 := fun x y M R => ∃ z, f x y = some z ∧ R z M
noncomputable def gI (C : Int → Int → Prop) (f : Int → Int → D) : DR2 := fun x y M R => ∃ i j, x = .int i ∧ y = .int j ∧ C i j ∧ R (f i j) M
theorem fI_some {f : Int → Int → D} {x y z : D} (h : fI f x y = some z) : ∃ i j, x = .int i ∧ y = .int j ∧ z = f i j := by
  cases x with
  | int i =>
    cases y with
    | int j => exact ⟨i, j, rfl, rfl, (Option.some.inj h).symm⟩
    | _ => cases h
  | _ => cases h
theorem dop_I {f : Value → Value → Sem Value} {C : Int → Int → Prop} {g : Int → Int → V} {g' : Int → Int → D} (h : OpR X f (rI C g)) (hg : ∀ i j H, Has X.K H (g i j) (g' i j)) : DOp X f (gI C g') :=
  OpR.imp h (by
    rintro x y H Q ⟨dx, dy, M, R, hx, hy, am, ⟨i, j, e1, e2, hc, r⟩, f⟩
    subst e1; subst e2
    cases hx; cases hy
    exact ⟨i, j, rfl, rfl, hc, f _ M r _ H (KT.refl H) am (hg i j H)⟩)
theorem dop_I0 {f : Value → Value → Sem Value} {g : Int → Int → V} {g' : Int → Int → D} (h : OpR X f (rI0 g)) (hg : ∀ i j H, Has X.K H (g i j) (g' i j)) : DOp X f (gF (fI g')) :=
  OpR.imp h (by
    rintro x y H Q ⟨dx, dy, M, R, hx, hy, am, ⟨z, e, r⟩, f⟩
    obtain ⟨i, j, e1, e2, e3⟩ := fI_some e
    subst e1; subst e2; subst e3
    cases hx; cases hy
    exact ⟨i, j, rfl, rfl, f _ M r _ H (KT.refl H) am (hg i j H)⟩)
theorem o_add : DOp X (binaryOp .Add) (gF (fI fun i j => .int (i + j))) := dop_I0 op_add fun _ _ _ => .int _
theorem o_sub : DOp X (binaryOp .Sub) (gF (fI fun i j => .int (i - j))) := dop_I0 op_sub fun _ _ _ => .int _
theorem o_lt : DOp X (compareOp .Lt) (gF (fI fun i j => .bl (decide (i < j)))) := dop_I0 op_lt fun _ _ _ => .bl _
theorem o_gt : DOp X (compareOp .Gt) (gF (fI fun i j => .bl (decide (j < i)))) := dop_I0 op_gt fun _ _ _ => .bl _
theorem o_mod : DOp X (binaryOp .Mod) (gI (fun _ j => 0 < j) fun i j => .int (i % j)) := dop_I op_mod fun _ _ _ => .int _
theorem o_pow : DOp X (binaryOp .Pow) (gI CPow fun i j => .int (i ^ j.toNat)) := dop_I op_pow fun _ _ _ => .int _
noncomputable def gU (f : Int → D) : D → Mem → DK → Prop := fun x M R => ∃ i, x = .int i ∧ R (f i) M
noncomputable def dUn (g : D → Mem → DK → Prop) (ta : DTE) : DTE := fun e M R => ta e M fun x M1 => g x M1 R
theorem jd_neg (ha : JE X a ta) : JE X (.UnaryOp .USub a pos) (dUn (gU fun i => .int (-i)) ta) := ⟨have ha := ha.out; (pe_un un_neg ha).imp (by rintro σ H Q ⟨e, M, R, ok, am, t, f⟩; exact ⟨e, M, _, ok, am, t, fun x M1 ⟨i, z, r⟩ v H1 k1 a1 r1 => by
    subst z; cases r1; exact ⟨i, rfl, f _ M1 r _ H1 k1 a1 (.int _)⟩⟩)⟩
variable {tA tB' : DTT} {rest : List Expr}
noncomputable def dAnd (t u : DTT) : DTT := fun e M R => t e M fun c M1 => if c = true then u e M1 R else R false M1
noncomputable def dOr (t u : DTT) : DTT := fun e M R => t e M fun c M1 => if c = true then R true M1 else u e M1 R
noncomputable def dNot (t : DTT) : DTT := fun e M R => t e M fun c M1 => R (!c) M1
theorem jd_and1 (ha : JT X a tA) : JW X (.BoolOp .And [a] pos) tA := ⟨have ha := ha.out; pw_and1 ha⟩
theorem jd_or1 (ha : JT X a tA) : JW X (.BoolOp .Or [a] pos) tA := ⟨have ha := ha.out; pw_or1 ha⟩
theorem jd_and (ha : JT X a tA) (hb : JW X (.BoolOp .And (b :: rest) pos) tB') : JW X (.BoolOp .And (a :: b :: rest) pos) (dAnd tA tB') := ⟨have ha := ha.out; have hb := hb.out; (pw_and ha hb).imp (by rintro σ H Q ⟨e, M, R, ok, am, t, f⟩; exact ⟨e, M, _, ok, am, t, fun k M1 h1 H1 k1 a1 => by
    cases k with
    | true => exact ⟨e, M1, R, ok.mono k1, a1, h1, f.mono k1⟩
    | false => exact f false M1 h1 H1 k1 a1⟩)⟩
theorem jd_or (ha : JT X a tA) (hb : JW X (.BoolOp .Or (b :: rest) pos) tB') : JW X (.BoolOp .Or (a :: b :: rest) pos) (dOr tA tB') := ⟨have ha := ha.out; have hb := hb.out; (pw_or ha hb).imp (by rintro σ H Q ⟨e, M, R, ok, am, t, f⟩; exact ⟨e, M, _, ok, am, t, fun k M1 h1 H1 k1 a1 => by
    cases k with
    | true => exact f true M1 h1 H1 k1 a1
    | false => exact ⟨e, M1, R, ok.mono k1, a1, h1, f.mono k1⟩⟩)⟩
theorem jd_not (ha : JT X a tA) : JT X (.UnaryOp .Not a pos) (dNot tA) := ⟨have ha := ha.out; (pt_not ha).imp (by rintro σ H Q ⟨e, M, R, ok, am, t, f⟩; exact ⟨e, M, _, ok, am, t, fun k M1 h1 H1 k1 a1 => f (!k) M1 h1 H1 k1 a1⟩)⟩
theorem jd_tw {x : Expr} {t : DTT} (h : JW X x t) : JT X x t := ⟨have h := h.out; PW.pt h⟩
noncomputable def dAndV (ta tb : DTE) : DTE := fun e M R => ta e M fun x M1 => ∃ c, x = .bl c ∧ if c = true then tb e M1 R else R (.bl false) M1
noncomputable def dNotV (ta : DTE) : DTE := fun e M R => ta e M fun x M1 => ∃ c, x = .bl c ∧ R (.bl (!c)) M1
theorem jd_vone {op} {t : DTE} (h : JE X a t) : JE X (.BoolOp op [a] pos) t := ⟨have h := h.out; pe_one h⟩
theorem jd_vand (ha : JE X a ta) (hb : JE X (.BoolOp .And (b :: rest) pos) tb) : JE X (.BoolOp .And (a :: b :: rest) pos) (dAndV ta tb) := ⟨have ha := ha.out; have hb := hb.out; (pe_and ha hb).imp (by rintro σ H Q ⟨e, M, R, ok, am, t, f⟩; exact ⟨e, M, _, ok, am, t, fun x M1 ⟨k, z, h1⟩ v H1 k1 a1 r1 => by
    subst z; cases r1
    refine ⟨k, rfl, ?_⟩
    cases k with
    | true => exact ⟨e, M1, R, ok.mono k1, a1, h1, f.mono k1⟩
    | false => exact f _ M1 h1 _ H1 k1 a1 (.bl _)⟩)⟩
theorem jd_vnot (ha : JE X a ta) : JE X (.UnaryOp .Not a pos) (dNotV ta) := ⟨have ha := ha.out; (pe_not ha).imp (by rintro σ H Q ⟨e, M, R, ok, am, t, f⟩; exact ⟨e, M, _, ok, am, t, fun x M1 ⟨k, z, h1⟩ v H1 k1 a1 r1 => by
    subst z; cases r1
    exact ⟨k, rfl, f _ M1 h1 _ H1 k1 a1 (.bl _)⟩⟩)⟩
noncomputable def dIf (t : DTT) (ta tb : DTE) : DTE := fun e M R => t e M fun c M1 => if c = true then ta e M1 R else tb e M1 R
theorem jd_ifExp (hc : JT X c tA) (ha : JE X a ta) (hb : JE X b tb) : JE X (.IfExp c a b pos) (dIf tA ta tb) := ⟨have hc := hc.out; have ha := ha.out; have hb := hb.out; (pe_ifExp hc ha hb).imp (by rintro σ H Q ⟨e, M, R, ok, am, t, f⟩; exact ⟨e, M, _, ok, am, t, fun k M1 h1 H1 k1 a1 => by
    cases k with
    | true => exact ⟨e, M1, R, ok.mono k1, a1, h1, f.mono k1⟩
    | false => exact ⟨e, M1, R, ok.mono k1, a1, h1, f.mono k1⟩⟩)⟩
noncomputable def dNil : DTA := fun _ M R => R [] M
noncomputable def dCons (ta : DTE) (tr : DTA) : DTA := fun e M R => ta e M fun x M1 => tr e M1 fun xs M2 => R (x :: xs) M2
variable {es : List Expr} {tr : DTA}
theorem jda_nil  : JA X [] dNil := ⟨pa_nil.imp (by rintro σ H Q ⟨e, M, R, ok, am, t, f⟩; exact f [] M t [] H (KT.refl H) am .nil)⟩
theorem jda_cons (ha : JE X a ta) (hr : JA X es tr) (hs : starEach (a :: es) X.env = (false, eval a X.env) :: starEach es X.env := by rfl) : JA X (a :: es) (dCons ta tr) := ⟨have ha := ha.out; have hr := hr.out; (pa_cons ha hr hs).imp (by rintro σ H Q ⟨e, M, R, ok, am, t, f⟩; exact ⟨e, M, _, ok, am, t, fun x M1 h1 v H1 k1 a1 r1 =>
    ⟨e, M1, _, ok.mono k1, a1, h1, fun xs M2 h2 vs H2 k2 a2 r2 => f _ M2 h2 _ H2 (k1.trans k2) a2 (.cons (r1.mono k2) r2)⟩⟩)⟩
noncomputable def dTup (t : DTA) : DTE := fun e M R => t e M fun ds M1 => ds.length ≤ sizeLine ∧ R (.tup ds) M1
noncomputable def dLst (t : DTA) : DTE := fun e M R => t e M fun ds M1 => ds.length ≤ sizeLine ∧ ∀ p, M1 p = none → R (.ref p) (updM M1 p (.lst ds))
theorem jd_tup {x1} (h : JA X es tr) : JE X (.Tuple es x1 pos) (dTup tr) := ⟨have h := h.out; (pe_tup h).imp (by rintro σ H Q ⟨e, M, R, ok, am, t, f⟩; exact ⟨e, M, _, ok, am, t, fun ds M1 ⟨hz, h1⟩ vs H1 k1 a1 r1 => by
    refine ⟨by rw [r1.length]; exact hz, fun p hp => ?_⟩
    have k2 : KT H1 (upd H1 p (.tup vs)) := KT.alloc hp
    exact f _ M1 h1 _ _ (k1.trans k2) (a1.alloc hp) (.tup (SqT.of upd_same) (r1.mono k2))⟩)⟩
theorem jd_lst (h : JA X es tr) : JE X (.List es pos) (dLst tr) := ⟨have h := h.out; (pe_lst h).imp (by rintro σ H Q ⟨e, M, R, ok, am, t, f⟩; exact ⟨e, M, _, ok, am, t, fun ds M1 ⟨hz, h1⟩ vs H1 k1 a1 r1 => by
    refine ⟨by rw [r1.length]; exact hz, fun p hp => ?_⟩
    have k2 : KT H1 (upd H1 p (.lst vs)) := KT.alloc hp
    exact f _ _ (h1 p (a1.fresh hp)) _ _ (k1.trans k2) (a1.new hp r1) (.ref p)⟩)⟩
theorem HasL.at {K : PySem.W.Frag} {H : Hp} {vs : List V} {ds : List D} (h : HasL K H vs ds) {i : Int} {z : D} (e : atI ds i = some z) : ∃ v, atI vs i = some v ∧ Has K H v z := by
  unfold atI at e ⊢
  rw [h.length]
  cases q : ixN ds.length i with
  | none => rw [q] at e; cases e
  | some j =>
    rw [q] at e
    exact h.get e
noncomputable def DIx (X : Cx) (g : DR2) : Prop := IxR X (upR X.K g)
theorem jd_ix {g : DR2} (hr : DIx X g) (ha : JE X a ta) (hb : JE X b tb) (hs : PlainIx b) : JE X (.Subscript a b pos) (dOp g ta tb) := ⟨have ha := ha.out; have hb := hb.out; (pe_ix hr ha hb hs).imp fun _ _ _ h => two_up h⟩
noncomputable abbrev DXK := Value → Mem → Prop
noncomputable abbrev DSp := List D → Mem → DK → DXK → Prop
noncomputable def FitX (K : PySem.W.Frag) (H : Hp) (Y : DXK) (E : XK) : Prop := ∀ c M', Y c M' → ∀ o H', KT H H' → AbsM K H' M' → E c o H'
noncomputable def upSp (K : PySem.W.Frag) (sp : DSp) : Sp := fun vs H Q E => ∃ ds M R Y, HasL K H vs ds ∧ AbsM K H M ∧ sp ds M R Y ∧ FitV K H R Q ∧ FitX K H Y E
noncomputable def dCall (sp : DSp) (dds : List D) (Y : DXK) (t : DTA) : DTE := fun e M R => t e M fun ds M1 => sp (ds ++ dds) M1 R Y
end
section
variable {X : Cx} {CX : CXT} {k : Nat} {f C : Addr} {fd : FuncData} {ps : List Str} {sp : DSp} {dvs : List V} {dds : List D} {ds : List Value} {E : XK} {Y : DXK} {x m : Str} {p pos apos : Pos} {e o : Expr} {es : List Expr} {t : DTA}
theorem d_call (F : FnOk X.prog X.w X.K X.mg X.base CX k f fd ps (upSp X.K sp)) (hr : Room k X.A) (hg : Gl X x) (hm : X.mg x = some (.ref f)) (hk : PySem.W.keepIn X.K (.ref f) = true) (hb : Binds X.K fd ps ds) (hd : Vals dvs ds) (hdd : ∀ H, HasL X.K H dvs dds) (hx : Passes CX X E) (hY : ∀ H, FitX X.K H Y E)
    (ha : DPA X (e :: es) t) (hdb : (x == ("__debug__" : Str)) = false := by decide) (he : starEach (e :: es) X.env = (false, eval e X.env) :: starEach es X.env := by rfl) (hpl : (backTo pos (starEach es X.env)).any (·.1) = false := by rfl) :
    DPE X (.Call (.Name x p) (e :: es) [] pos) (dCall sp dds Y t) :=
  (pe_call F hr hg hm hk hb hd hx ha hdb he hpl).imp (by rintro σ H Q ⟨e, M, R, ok, am, t, f⟩; exact ⟨e, M, _, ok, am, t, fun xs M1 h1 vs H1 k1 a1 r1 =>
    ⟨xs ++ dds, M1, R, Y, r1.append (hdd H1), a1, h1, f.mono k1, hY H1⟩⟩)
end


section
variable {X : Cx} {st : Stmt} {rest : List Stmt} {t u : DTS} {e : Expr} {te : DTE} {pos : Pos}
noncomputable def dNext : DTS := fun F e M => F.nx e M
noncomputable def dSeq (t u : DTS) : DTS := fun F e M => t { F with nx := u F } e M
theorem jds_nil  : JSs X [] dNext := ⟨pss_nil.imp (by rintro E σ H ⟨e, M, F, ok, am, t, f⟩; exact f.nx e M t σ H (KT.refl H) am ok)⟩
theorem jds_cons (h1 : JS X st t) (h2 : JSs X rest u) : JSs X (st :: rest) (dSeq t u) := ⟨have h1 := h1.out; have h2 := h2.out; (pss_cons h1 h2).imp (by rintro E σ H ⟨e, M, F, ok, am, t, f⟩; exact ⟨e, M, { F with nx := u F }, ok, am, t, ⟨fun e' M' h σ' H' k a o => ⟨e', M', F, o, a, h, f.mono k⟩, f.rt, f.bk, f.ct⟩⟩)⟩
theorem jds_one (h1 : JS X st t) : JSs X [st] t := ⟨have h1 := h1.out; pss_one h1⟩
noncomputable def dDrop (te : DTE) : DTS := fun F e M => te e M fun _ M1 => F.nx e M1
theorem jds_expr (he : JE X e te) (hs : swapsWith e none pos.line X.env = pure false := by rfl) : JS X (.Expr e pos) (dDrop te) := ⟨have he := he.out; (ps_expr he hs).imp (by rintro E σ H ⟨e, M, F, ok, am, t, f⟩; exact ⟨e, M, _, ok, am, t, fun d M1 h1 v H1 k1 a1 r1 => f.nx e M1 h1 σ H1 k1 a1 (ok.mono k1)⟩)⟩
noncomputable def dRet (te : DTE) : DTS := fun F e M => te e M F.rt
theorem jds_ret (he : JE X e te) : JS X (.Return (some e) pos) (dRet te) := ⟨have he := he.out; (ps_ret he).imp (by rintro E σ H ⟨e, M, F, ok, am, t, f⟩; exact ⟨e, M, _, ok, am, t, f.rt⟩)⟩
noncomputable def dIfS (c : DTT) (t u : DTS) : DTS := fun F e M => c e M fun b M1 => if b = true then t F e M1 else u F e M1
theorem jds_if {c : Expr} {a b : List Stmt} {tc : DTT} (hc : JT X c tc) (ha : JSs X a t) (hb : JSs X b u) : JS X (.If c a b pos) (dIfS tc t u) := ⟨have hc := hc.out; have ha := ha.out; have hb := hb.out; (ps_if hc ha hb).imp (by rintro E σ H ⟨e, M, F, ok, am, t, f⟩; exact ⟨e, M, _, ok, am, t, fun k M1 h1 H1 k1 a1 => by
    cases k with
    | true => exact ⟨e, M1, F, ok.mono k1, a1, h1, f.mono k1⟩
    | false => exact ⟨e, M1, F, ok.mono k1, a1, h1, f.mono k1⟩⟩)⟩
noncomputable def dNever : DTS := fun _ _ _ => False
theorem jds_never  : JS X st dNever := ⟨ps_never.imp (by rintro E σ H ⟨_, _, _, _, _, t, _⟩; exact t)⟩
noncomputable abbrev DTG := D → Ev → Mem → (Ev → Mem → Prop) → Prop
noncomputable abbrev DTGs := List D → Ev → Mem → (Ev → Mem → Prop) → Prop
noncomputable def upG (K : PySem.W.Frag) (g : DTG) : TG := fun v σ H Q => ∃ d e M R, Has K H v d ∧ EnvOk K H σ e ∧ AbsM K H M ∧ g d e M R ∧ FitN K H R Q
noncomputable def upGs (K : PySem.W.Frag) (g : DTGs) : TGs := fun vs σ H Q => ∃ ds e M R, HasL K H vs ds ∧ EnvOk K H σ e ∧ AbsM K H M ∧ g ds e M R ∧ FitN K H R Q
noncomputable abbrev DPG (X : Cx) (x : Expr) (g : DTG) : Prop := PG X x (upG X.K g)
noncomputable abbrev DPGs (X : Cx) (x : List Expr) (g : DTGs) : Prop := PGs X x (upGs X.K g)
structure JG (X : Cx) (x : Expr) (g : DTG) : Prop where
  out : DPG X x g
structure JGs (X : Cx) (x : List Expr) (g : DTGs) : Prop where
  out : DPGs X x g
noncomputable def dgName (i : Nat) : DTG := fun d e M R => R (e.set i (some d)) M
theorem jdg_name {i : Nat} {x : Str} (hN : X.N.Nodup) (hi : X.N[i]? = some x) (hx : Loc X.env.scope x) (hf : X.fn x = true ∨ X.env.scope.names.lookup x = some .local := by first | exact .inl rfl | exact .inr rfl | assumption) : JG X (.Name x pos) (dgName i) := ⟨PG.imp (pg_name hN hi hx hf) (by rintro v σ H Q ⟨d, e, M, R, r, ok, am, g, f⟩; exact f _ M g _ H (KT.refl H) am (ok.set r i))⟩
noncomputable def dgNil : DTGs := fun ds e M R => ds = [] ∧ R e M
noncomputable def dgCons (t : DTG) (u : DTGs) : DTGs := fun ds e M R => ∃ d r, ds = d :: r ∧ t d e M fun e' M' => u r e' M' R
theorem jdgs_nil  : JGs X [] dgNil := ⟨PGs.imp pgs_nil (by
  rintro v σ H Q ⟨ds, e, M, R, r, ok, am, ⟨z, g⟩, f⟩
  subst z; cases r; exact ⟨rfl, f e M g σ H (KT.refl H) am ok⟩)⟩
end
end DL

namespace DL
open PySem PySem.Spec L2
open PyProof.Rows hiding St
section
variable {X : Cx} {st : Stmt} {rest : List Stmt} {t u : DTS} {e : Expr} {te : DTE} {pos : Pos}
theorem jdgs_cons {x : Expr} {xs : List Expr} {t : DTG} {u : DTGs} (h1 : JG X x t) (h2 : JGs X xs u)
    (hs : (assignEach (x :: xs) X.env).map (·.2) = assign x X.env :: (assignEach xs X.env).map (·.2) := by rfl) : JGs X (x :: xs) (dgCons t u) := ⟨have h1 := h1.out; have h2 := h2.out; PGs.imp (pgs_cons h1 h2 hs) (by
    rintro vs σ H Q ⟨ds, e, M, R, r, ok, am, ⟨d, dr, z, g⟩, f⟩
    subst z
    cases r with
    | cons r rr => exact ⟨_, _, rfl, d, e, M, _, r, ok, am, g, fun e1 M1 h1 σ1 H1 k1 a1 ok1 => ⟨dr, e1, M1, R, rr.mono k1, ok1, a1, h1, f.mono k1⟩⟩)⟩
noncomputable def dgTup (n : Nat) (t : DTGs) : DTG := fun d e M R => ∃ ds, d = .tup ds ∧ ds.length = n ∧ t ds e M R
theorem jdg_tup {xs : List Expr} {k : Nat} {t : DTGs} {n : Nat} (hc : X.calm = true) (h : JGs X xs t)
    (hn : (assignEach xs X.env).length = n := by rfl) (hst : (assignEach xs X.env).findIdx? (·.1) = none := by rfl) : JG X (.Tuple xs k pos) (dgTup n t) := ⟨have h := h.out; PG.imp (pg_tup hc h hn hst) (by
    rintro v σ H Q ⟨d, e, M, R, r, ok, am, ⟨ds, z, hl, g⟩, f⟩
    subst z
    cases r with
    | tup s l => exact ⟨_, _, rfl, s, by rw [l.length]; exact hl, ds, e, M, R, l, ok, am, g, f⟩)⟩
noncomputable abbrev DTSet := D → D → D → Mem → (Mem → Prop) → Prop
noncomputable def gSetL : DTSet := fun o i v M R => ∃ p ds k j, o = .ref p ∧ i = .int k ∧ M p = some (.lst ds) ∧ ixN ds.length k = some j ∧ R (updM M p (.lst (ds.set j v)))
noncomputable def dgSub (to ti : DTE) (t : DTSet) : DTG := fun d e M R => to e M fun o M1 => ti e M1 fun i M2 => t o i d M2 fun M3 => R e M3
theorem jdg_sub {o i : Expr} {to ti : DTE} (ho : JE X o to) (hi : JE X i ti)
    (ha : ∀ v, assign (.Subscript o i pos) X.env v = (do
      let ov ← holding [v] (eval o X.env)
      let iv ← holding [v, ov] (eval i X.env)
      standAt pos
      holding [v, ov, iv] (setItem ov iv v)
      release [v, ov, iv] []) := by intro _; rfl) : JG X (.Subscript o i pos) (dgSub to ti gSetL) := ⟨have ho := ho.out; have hi := hi.out; PG.imp (pg_sub ho hi set_list ha) fun v σ H Q ⟨d, e, M, R, r, ok, am, g, f⟩ =>
    ⟨e, M, _, ok, am, g, fun x M1 h1 vo H1 k1 a1 r1 => ⟨e, M1, _, ok.mono k1, a1, h1, fun y M2 ⟨p, ds, k, j, e1, e2, e3, e4, h2⟩ vi H2 k2 a2 r2 => by
      subst e1; subst e2
      cases r1; cases r2
      obtain ⟨xs, hx, l⟩ := a2.lst e3
      have kt : KT H H2 := k1.trans k2
      have kw : KT H2 (upd H2 p (.lst (xs.set j v))) := KT.write hx
      exact ⟨p, xs, k, j, rfl, rfl, hx, by rw [l.length]; exact e4, f e _ h2 σ _ (kt.trans kw) (a2.write hx (l.set (r.mono kt) j)) ((ok.mono kt).mono kw)⟩⟩⟩⟩
noncomputable def dAsg (te : DTE) (g : DTG) : DTS := fun F e M => te e M fun x M1 => g x e M1 F.nx
theorem jds_asg {tg x : Expr} {tx : DTE} {g : DTG} (he : JE X x tx) (hg : JG X tg g) (hs : swapsWithSole [tg] x pos.line X.env = pure false := by rfl) (hw : swappedStores [tg] x X.env = pure none := by rfl)
    (h1 : (assignEach [tg] X.env).map (·.2) = [assign tg X.env] := by rfl) : JS X (.Assign [tg] x pos) (dAsg tx g) := ⟨have he := he.out; have hg := hg.out; (ps_asg he hg hs hw h1).imp (by rintro E σ H ⟨e, M, F, ok, am, t, f⟩; exact ⟨e, M, _, ok, am, t, fun d M1 h1 v H1 k1 a1 r1 => ⟨d, e, M1, F.nx, r1, ok.mono k1, a1, h1, f.nx.mono k1⟩⟩)⟩
theorem jds_set {i : Nat} {x : Str} {tx : DTE} {pos' : Pos} (hN : X.N.Nodup) (hi : X.N[i]? = some x) (hx : Loc X.env.scope x) (he : JE X e tx) (hs : swapsWith e (some (.Name x pos')) pos.line X.env = pure false := by rfl) (hf : X.fn x = true ∨ X.env.scope.names.lookup x = some .local := by first | exact .inl rfl | exact .inr rfl | assumption) : JS X (.Assign [.Name x pos'] e pos) (dAsg tx (dgName i)) := ⟨have he := he.out; (ps_set hN hi hx he hs hf).imp (by rintro E σ H ⟨e, M, F, ok, am, t, f⟩; exact ⟨e, M, _, ok, am, t, fun d M1 h1 v H1 k1 a1 r1 => f.nx _ M1 h1 _ H1 k1 a1 ((ok.mono k1).set r1 i)⟩)⟩
noncomputable def dPar (i j : Nat) (ta : DTA) : DTS := fun F e M => ta e M fun ds M1 => ∃ x y, ds = [x, y] ∧ F.nx ((e.set i (some x)).set j (some y)) M1
theorem jds_par {i j : Nat} {x y : Str} {a b : Expr} {ta : DTA} {px py pt : Pos} {kt k2 pt2} (hc : X.calm = true) (hN : X.N.Nodup) (hi : X.N[i]? = some x) (hj : X.N[j]? = some y) (hij : i ≠ j)
    (hx : X.env.scope.names.lookup x = some .local) (hy : X.env.scope.names.lookup y = some .local) (ha : JA X [a, b] ta)
    (hw : swappedStores [.Tuple [.Name x px, .Name y py] kt pt] (.Tuple [a, b] k2 pt2) X.env = pure (some [x, y]) := by rfl)
    (hs : swapsWithSole [.Tuple [.Name x px, .Name y py] kt pt] (.Tuple [a, b] k2 pt2) pos.line X.env = pure false := by rfl) : JS X (.Assign [.Tuple [.Name x px, .Name y py] kt pt] (.Tuple [a, b] k2 pt2) pos) (dPar i j ta) := ⟨have ha := ha.out; (ps_par hc hN hi hj hij hx hy ha hw hs).imp (by rintro E σ H ⟨e, M, F, ok, am, t, f⟩; exact ⟨e, M, _, ok, am, t, fun ds M1 ⟨x, y, z, h1⟩ vs H1 k1 a1 r1 => by
    subst z
    cases r1 with
    | cons r1 rr =>
      cases rr with
      | cons r2 rr =>
        cases rr
        exact ⟨_, _, rfl, f.nx _ M1 h1 _ H1 k1 a1 (((ok.mono k1).set r1 i).set r2 j)⟩⟩)⟩
noncomputable def dWhile (c : DTT) (tb : DTS) : DTS := fun F e M => ∃ W : Nat → Ev → Mem → Prop, (∃ m, W m e M) ∧ ∀ m e M, W m e M →
  c e M fun b M1 => if b = true then tb { F with nx := fun e' M' => ∃ m', m' < m ∧ W m' e' M', ct := fun e' M' => ∃ m', m' < m ∧ W m' e' M', bk := F.nx } e M1 else F.nx e M1
theorem jds_while {c : Expr} {body : List Stmt} {tc : DTT} {tb : DTS} (hp : PassesOwn (model X.prog X.w) X.A X.env X.xe) (hc : JT X c tc) (hb : JSs X body tb) : JS X (.While c body [] pos) (dWhile tc tb) := ⟨have hc := hc.out; have hb := hb.out; (ps_while hp hc hb).imp (by
    rintro E σ H ⟨e, M, F, ok, am, ⟨W, ⟨m0, w0⟩, turn⟩, f⟩
    refine ⟨fun m σ' H' => ∃ e' M', KT H H' ∧ EnvOk X.K H' σ' e' ∧ AbsM X.K H' M' ∧ W m e' M', ⟨m0, e, M, KT.refl H, ok, am, w0⟩, ?_⟩
    rintro m σ1 H1 ⟨e1, M1, k1, ok1, a1, w1⟩
    refine ⟨e1, M1, _, ok1, a1, turn m e1 M1 w1, fun b M2 h2 H2 k2 a2 => ?_⟩
    cases b with
    | false => exact f.nx e1 M2 h2 σ1 H2 (k1.trans k2) a2 (ok1.mono k2)
    | true =>
      refine ⟨fun σ' H' => ∃ m', m' < m ∧ ∃ e' M', KT H H' ∧ EnvOk X.K H' σ' e' ∧ AbsM X.K H' M' ∧ W m' e' M', fun σ' H' h => h, e1, M2, _, ok1.mono k2, a2, h2, ?_⟩
      have kk := k1.trans k2
      exact ⟨fun e' M' ⟨m', l, w⟩ σ' H' k' a' o' => ⟨m', l, e', M', kk.trans k', o', a', w⟩, f.rt.mono kk, f.nx.mono kk, fun e' M' ⟨m', l, w⟩ σ' H' k' a' o' => ⟨m', l, e', M', kk.trans k', o', a', w⟩⟩)⟩
noncomputable abbrev DTI := Ev → Mem → (List D → (Mem → Prop) → Mem → Prop) → Prop
noncomputable def dFor (ti : DTI) (g : DTG) (tb : DTS) : DTS := fun F e M => ti e M fun ds stay M1 => ∃ W : Nat → Ev → Mem → Prop, W 0 e M1 ∧ (∀ i e M, i ≤ ds.length → W i e M → stay M) ∧
  (∀ (i : Nat) (d : D) e M, ds[i]? = some d → W i e M → g d e M fun e2 M2 => tb { F with nx := W (i + 1), ct := W (i + 1), bk := F.nx } e2 M2) ∧ ∀ e M, W ds.length e M → F.nx e M
noncomputable def rangeD (lo : Int) (n : Nat) : List D := (List.range n).map fun (i : Nat) => D.int (lo + (i : Int))
theorem rangeD_length (lo : Int) (n : Nat) : (rangeD lo n).length = n := by simp [rangeD]
theorem rangeD_get {lo : Int} {n i : Nat} (h : i < n) : (rangeD lo n)[i]? = some (D.int (lo + (i : Int))) := by simp [rangeD, h]
noncomputable def diRng (ta : DTA) : DTI := fun e M R => ta e M fun ds M1 => ∃ j : Int, ds = [.int j] ∧ -(2 ^ 62) ≤ j ∧ j < 2 ^ 62 ∧ R (rangeD 0 j.toNat) (fun _ => True) M1
theorem for_turn {K : PySem.W.Frag} {H H1 H2 : Hp} {F : DEnds} {E : Ends} {W : Nat → Ev → Mem → Prop} {g : DTG} {tb : DTS} {i : Nat} {x : V} {d : D} {σ2 : St} {e2 : Ev} {M2 : Mem} (f : Fit K H F E) (k1 : KT H H1) (k2 : KT H1 H2) (ok2 : EnvOk K H2 σ2 e2) (a2 : AbsM K H2 M2) (r : Has K H2 x d)
    (h : g d e2 M2 fun e3 M3 => tb { F with nx := W (i + 1), ct := W (i + 1), bk := F.nx } e3 M3) :
    upG K g x σ2 H2 fun σ3 H3 => upS K tb { E with nx := fun σ' H' => ∃ e' M', KT H1 H' ∧ EnvOk K H' σ' e' ∧ AbsM K H' M' ∧ W (i + 1) e' M', ct := fun σ' H' => ∃ e' M', KT H1 H' ∧ EnvOk K H' σ' e' ∧ AbsM K H' M' ∧ W (i + 1) e' M', bk := E.nx } σ3 H3 := by
  refine ⟨d, e2, M2, _, r, ok2, a2, h, fun e3 M3 h3 σ3 H3 k3 a3 ok3 => ⟨e3, M3, _, ok3, a3, h3, ?_⟩⟩
  have kk : KT H H3 := k1.trans (k2.trans k3)
  exact ⟨fun e' M' w σ' H' k' a' o' => ⟨e', M', k2.trans (k3.trans k'), o', a', w⟩, f.rt.mono kk, f.nx.mono kk, fun e' M' w σ' H' k' a' o' => ⟨e', M', k2.trans (k3.trans k'), o', a', w⟩⟩
variable {tg iter : Expr} {body : List Stmt} {ti : DTE} {ta : DTA} {g : DTG} {tb : DTS}
theorem Has.il {K : PySem.W.Frag} {H : Hp} {v : V} {ds : List D} (h : Has K H v (.vl ds)) : ∃ a xs, v = .ref a ∧ SqL K H a xs ∧ HasL K H xs ds := by
  cases h with
  | vl h l => exact ⟨_, _, rfl, h.elim (fun ⟨o, e⟩ => .inl (.inr ⟨o, e⟩)) (fun k => k H), l⟩
end


section
variable {P : Program} {w : World} {K : PySem.W.Frag} {mg : Str → Option Value} {base : Heap}
end


section
variable {X : Cx} {x : Str} {p pos : Pos} {e : Expr} {es : List Expr} {t : DTA} {id T : String}
noncomputable abbrev DRC := List D → Mem → DK → Prop
noncomputable def upC (K : PySem.W.Frag) (g : DRC) : List V → Hp → VK → Prop := fun xs H Q => ∃ ds M R, HasL K H xs ds ∧ AbsM K H M ∧ g ds M R ∧ FitV K H R Q
noncomputable def DCall (X : Cx) (f : Value) (g : DRC) : Prop := CallR X f (upC X.K g)
noncomputable def dCB (g : DRC) (t : DTA) : DTE := fun e M R => t e M fun ds M1 => g ds M1 R
theorem cb_up {g : DRC} {σ : St} {H : Hp} {Q : VK} (h : up X.K (dCB g t) σ H Q) : tCB (upC X.K g) (upA X.K t) σ H Q := by
  obtain ⟨e, M, R, ok, am, t, f⟩ := h
  exact ⟨e, M, _, ok, am, t, fun ds M1 h1 vs H1 k1 a1 r1 => ⟨ds, M1, R, r1, a1, h1, f.mono k1⟩⟩
theorem CallR.imp {f : Value} {r r' : List V → Hp → VK → Prop} (h : CallR X f r) (i : ∀ xs H Q, r' xs H Q → r xs H Q) : CallR X f r' := fun pins s σ H xs us Q I rv q => h pins s σ H xs us Q I rv (i xs H Q q)
theorem HasL.one {K : PySem.W.Frag} {H : Hp} {vs : List V} {d : D} (h : HasL K H vs [d]) : ∃ v, vs = [v] ∧ Has K H v d := by
  cases h with
  | cons r rr => cases rr; exact ⟨_, rfl, r⟩
theorem HasL.two {K : PySem.W.Frag} {H : Hp} {vs : List V} {d d' : D} (h : HasL K H vs [d, d']) : ∃ v v', vs = [v, v'] ∧ Has K H v d ∧ Has K H v' d' := by
  cases h with
  | cons r rr => cases rr with | cons r2 rr => cases rr; exact ⟨_, _, rfl, r, r2⟩
noncomputable def gAbs : DRC := fun ds M R => ∃ i : Int, ds = [.int i] ∧ R (.int (i.natAbs : Int)) M
theorem c_abs : DCall X (.builtin "abs") gAbs := CallR.imp call_abs (by
  rintro xs H Q ⟨ds, M, R, hl, am, ⟨i, z, r⟩, f⟩
  subst z
  obtain ⟨v, rfl, h⟩ := hl.one
  cases h
  have e : (if i < 0 then -i else i) = (i.natAbs : Int) := by split <;> omega
  exact ⟨i, rfl, by rw [e]; exact f _ M r _ H (KT.refl H) am (.int _)⟩)
noncomputable def gMax : DRC := fun ds M R => ∃ i j : Int, ds = [.int i, .int j] ∧ R (.int (max i j)) M
theorem c_max (hc : X.calm = true) : DCall X (.builtin "max") gMax := CallR.imp (call_max2 hc) (by
  rintro xs H Q ⟨ds, M, R, hl, am, ⟨i, j, z, r⟩, f⟩
  subst z
  obtain ⟨v, v', rfl, h, h'⟩ := hl.two
  cases h; cases h'
  have e : (if j > i then j else i) = max i j := by
    rw [Int.max_def]; split <;> split <;> omega
  exact ⟨i, j, rfl, by rw [e]; exact f _ M r _ H (KT.refl H) am (.int _)⟩)
noncomputable def lenD (M : Mem) : D → Option Nat
  | .tup ds => some ds.length
  | .ref p => match M p with
    | some (.lst ds) => some ds.length
    | _ => none
  | .vl ds => some ds.length
  | _ => none
noncomputable def gLen : DRC := fun ds M R => ∃ d n, ds = [d] ∧ lenD M d = some n ∧ R (.int (n : Int)) M
theorem c_len : DCall X (.builtin "len") gLen := CallR.imp call_len_seq (by
  rintro xs H Q ⟨ds, M, R, hl, am, ⟨d, n, z, hn, r⟩, f⟩
  subst z
  obtain ⟨v, rfl, h⟩ := hl.one
  cases d with
  | tup es =>
    cases h with
    | tup s l =>
      cases hn
      exact ⟨_, _, rfl, .inr s, by rw [l.length]; exact f _ M r _ H (KT.refl H) am (.int _)⟩
  | ref p =>
    cases h
    unfold lenD at hn
    cases q : M p with
    | none => simp [q] at hn
    | some o =>
      cases o with
      | lst es =>
        simp only [q] at hn
        cases hn
        obtain ⟨ys, hy, l⟩ := am.lst q
        exact ⟨p, ys, rfl, .inl (SqL.of hy), by rw [l.length]; exact f _ M r _ H (KT.refl H) am (.int _)⟩
  | vl es =>
    cases hn
    obtain ⟨a, xs, rfl, sq, l⟩ := h.il
    exact ⟨a, _, rfl, .inl sq, by rw [l.length]; exact f _ M r _ H (KT.refl H) am (.int _)⟩
  | _ => cases hn)
end
end DL

namespace DL
open PySem PySem.Spec L2
open PyProof.Rows hiding St
theorem bt_abs : bootBuiltins "abs" = some (.builtin "abs") := by decide +kernel
theorem bt_max : bootBuiltins "max" = some (.builtin "max") := by decide +kernel
theorem bt_len : bootBuiltins "len" = some (.builtin "len") := by decide +kernel
theorem bt_isinstance : bootBuiltins "isinstance" = some (.builtin "isinstance") := by decide +kernel
theorem bt_int : bootBuiltins "int" = some (.type "int") := by decide +kernel
theorem bt_bool : bootBuiltins "bool" = some (.type "bool") := by decide +kernel
theorem bt_tuple : bootBuiltins "tuple" = some (.type "tuple") := by decide +kernel
theorem bt_list : bootBuiltins "list" = some (.type "list") := by decide +kernel
section
variable {X : Cx} {a b c : Expr} {ta tb tc : DTE} {pos : Pos}

theorem op_mulB : OpR X (binaryOp .Mult) (rI IntMulOk fun i j => .int (i * j)) := opI fun _ _ _ _ _ _ _ hc q => mul_int q hc
noncomputable def CFd (i j : Int) : Prop := j ≠ 0 ∧ j.natAbs.log2 < 9000
theorem op_fdiv9 : OpR X (binaryOp .FloorDiv) (rI CFd fun i j => .int (i.fdiv j)) := opI fun _ _ _ _ _ _ _ hc q => floordiv_int hc.1 q (.inl (PyProof.noPylong_of_log2 hc.2))
theorem o_mul : DOp X (binaryOp .Mult) (gI IntMulOk fun i j => .int (i * j)) := dop_I op_mulB fun _ _ _ => .int _
theorem o_fdiv : DOp X (binaryOp .FloorDiv) (gI CFd fun i j => .int (i.fdiv j)) := dop_I op_fdiv9 fun _ _ _ => .int _

noncomputable def ixD (M : Mem) : D → D → Option D
  | .tup ds, .int i => atI ds i
  | .ref p, .int i => match M p with
    | some (.lst ds) => atI ds i
    | _ => none
  | .vl ds, .int i => atI ds i
  | _, _ => none
noncomputable def gIx : DR2 := fun x y M R => ∃ z, ixD M x y = some z ∧ R z M
theorem IxR.or' {r r' : R2} (h : IxR X r) (h' : IxR X r') {g : R2} (i : ∀ x y H Q, g x y H Q → r x y H Q ∨ r' x y H Q) : IxR X g := IxR.imp (IxR.or h h') i
theorem i_any : DIx X gIx := IxR.or' ix_tup ix_list (by
  rintro x y H Q ⟨dx, dy, M, R, hx, hy, am, ⟨z, e, r⟩, f⟩
  cases dy with
  | int i =>
    cases hy
    cases dx with
    | tup ds =>
      cases hx with
      | tup s l =>
        obtain ⟨v, h1, h2⟩ := l.at (show atI ds i = some z from e)
        exact .inl ⟨_, _, i, v, rfl, rfl, s, h1, f z M r v H (KT.refl H) am h2⟩
    | ref p =>
      cases hx
      unfold ixD at e
      cases q : M p with
      | none => simp [q] at e
      | some o =>
        cases o with
        | lst ds =>
          simp only [q] at e
          obtain ⟨xs, h1, h2⟩ := am.lst q
          obtain ⟨v, h3, h4⟩ := h2.at e
          exact .inr ⟨_, _, i, v, rfl, rfl, SqL.of h1, h3, f z M r v H (KT.refl H) am h4⟩
    | vl ds =>
      obtain ⟨a, xs, rfl, sq, l⟩ := hx.il
      obtain ⟨v, h1, h2⟩ := l.at (show atI ds i = some z from e)
      exact .inr ⟨_, _, i, v, rfl, rfl, sq, h1, f z M r v H (KT.refl H) am h2⟩
    | _ => simp [ixD] at e
  | _ => cases dx <;> simp [ixD] at e)
theorem ixD_lst {M : Mem} {p : Addr} {ds : List D} {i : Int} {z : D} (m : M p = some (.lst ds)) (h : atI ds i = some z) : ixD M (.ref p) (.int i) = some z := by
  unfold ixD; simp only [m]; exact h

noncomputable def isD : D → D → Option Bool
  | .bl a, .bl b => some (a == b)
  | .non, .non => some true
  | .bl _, .non => some false
  | .int _, .non => some false
  | .str _, .non => some false
  | .ref _, .non => some false
  | .tup _, .non => some false
  | .vl _, .non => some false
  | .exc _, .non => some false
  | _, _ => none
theorem isD_shape {x y : D} {b : Bool} (h : isD x y = some b) : (∃ p q, x = .bl p ∧ y = .bl q ∧ b = (p == q)) ∨ (y = .non ∧ ((x = .non ∧ b = true) ∨ (x ≠ .non ∧ b = false))) := by
  cases x <;> cases y <;> simp [isD] at h <;> simp [h]
theorem isD_val {K : PySem.W.Frag} {H : Hp} {v : V} {x : D} (h : Has K H v x) (n : x ≠ .non) : v ≠ .non := by
  intro e; subst e; cases h; exact n rfl
noncomputable def gIs (neg : Bool) : DR2 := fun x y M R => ∃ b, isD x y = some b ∧ R (.bl (neg.xor b)) M
theorem o_is : DOp X (compareOp .Is) (gIs false) := by
  intro pins s σ H x y v u Q I rx ry h
  obtain ⟨dx, dy, M, R, hx, hy, am, ⟨b, e, r⟩, f⟩ := h
  have fin : EP X pins σ Q (.bool b) s := ⟨.bl b, H, I, rfl, by have := f _ M r (.bl b) H (KT.refl H) am (by simpa using Has.bl (K := X.K) (H := H) b); exact this⟩
  rcases isD_shape e with ⟨p, q, rfl, rfl, rfl⟩ | ⟨rfl, hx'⟩
  · cases hx; cases hy; cases rx; cases ry
    exact is_bool fin
  · cases hy; cases ry
    refine is_none_gen ?_
    rw [RelV.none_iff rx]
    rcases hx' with ⟨rfl, rfl⟩ | ⟨n, rfl⟩
    · cases hx; exact fin
    · rw [decide_eq_false (isD_val hx n)]; exact fin
theorem o_isnot : DOp X (compareOp .IsNot) (gIs true) := by
  intro pins s σ H x y v u Q I rx ry h
  obtain ⟨dx, dy, M, R, hx, hy, am, ⟨b, e, r⟩, f⟩ := h
  have fin : EP X pins σ Q (.bool (!b)) s := ⟨.bl (!b), H, I, rfl, by have := f _ M r (.bl (!b)) H (KT.refl H) am (by simpa using Has.bl (K := X.K) (H := H) (!b)); exact this⟩
  rcases isD_shape e with ⟨p, q, rfl, rfl, rfl⟩ | ⟨rfl, hx'⟩
  · cases hx; cases hy; cases rx; cases ry
    exact isnot_bool fin
  · cases hy; cases ry
    refine isnot_none_gen ?_
    rw [RelV.none_iff rx]
    rcases hx' with ⟨rfl, rfl⟩ | ⟨n, rfl⟩
    · cases hx; exact fin
    · rw [decide_eq_false (isD_val hx n)]; exact fin

mutual
inductive PyR (M : Mem) : D → PyData → Prop
  | non : PyR M .non .none
  | bl (b : Bool) : PyR M (.bl b) (.bool b)
  | int (i : Int) : PyR M (.int i) (.int i)
  | str (x : Str) : PyR M (.str x) (.str x)
  | tup {ds : List D} {ps : List PyData} : PyRL M ds ps → PyR M (.tup ds) (.tuple ps)
  | lst {p : Addr} {ds : List D} {ps : List PyData} : M p = some (.lst ds) → PyRL M ds ps → PyR M (.ref p) (.list ps)
  | vl {ds : List D} {ps : List PyData} : PyRL M ds ps → PyR M (.vl ds) (.list ps)
inductive PyRL (M : Mem) : List D → List PyData → Prop
  | nil : PyRL M [] []
  | cons {d : D} {p : PyData} {ds : List D} {ps : List PyData} : PyR M d p → PyRL M ds ps → PyRL M (d :: ds) (p :: ps)
end
mutual
theorem reads_of {pins : List (Addr × Obj)} {s : Shared} {σ : St} {H : Hp} {M : Mem} (I : Inv X pins σ H s) (am : AbsM X.K H M) : ∀ {d : D} {p : PyData}, PyR M d p → ∀ {v : V} {u : Value}, Has X.K H v d → RelV v u → ∃ as, Reads s.heap u p as
  | _, _, .non, _, _, h, r => by cases h; cases r; exact ⟨_, .none⟩
  | _, _, .bl b, _, _, h, r => by cases h; cases r; exact ⟨_, .bool b⟩
  | _, _, .int i, _, _, h, r => by cases h; obtain ⟨t, rfl⟩ := r; exact ⟨_, .int i t⟩
  | _, _, .str x, _, _, h, r => by cases h; obtain ⟨t, rfl⟩ := r; exact ⟨_, .str x t⟩
  | _, _, .tup l, _, _, h, r => by
    cases h with
    | tup s' hl =>
      cases r
      obtain ⟨its, rv, ⟨o, e, hc, n, hd⟩, _⟩ := I.tuple s'
      obtain ⟨as, ra⟩ := readsL_of I am l hl rv
      exact ⟨as, .tuple e hc hd (by simpa using ra)⟩
  | _, _, .lst m l, _, _, h, r => by
    cases h
    cases r
    obtain ⟨xs, hx, hl⟩ := am.lst m
    obtain ⟨its, rv, ⟨o, n, e, hc, _, hd⟩, _⟩ := I.list (SqL.of hx)
    obtain ⟨as, ra⟩ := readsL_of I am l hl rv
    exact ⟨_, .list e hc hd (by simpa using ra)⟩
  | _, _, .vl l, _, _, h, r => by
    obtain ⟨a, xs, rfl, sq, hl⟩ := h.il
    cases r
    obtain ⟨its, rv, ⟨o, n, e, hc, _, hd⟩, _⟩ := I.list sq
    obtain ⟨as, ra⟩ := readsL_of I am l hl rv
    exact ⟨_, .list e hc hd (by simpa using ra)⟩
theorem readsL_of {pins : List (Addr × Obj)} {s : Shared} {σ : St} {H : Hp} {M : Mem} (I : Inv X pins σ H s) (am : AbsM X.K H M) : ∀ {ds : List D} {ps : List PyData}, PyRL M ds ps → ∀ {vs : List V} {us : List Value}, HasL X.K H vs ds → Vals vs us → ∃ as, ReadsAll s.heap us ps as
  | _, _, .nil, _, _, h, r => by cases h; cases r; exact ⟨_, .nil⟩
  | _, _, .cons a l, _, _, h, r => by
    cases h with
    | cons h hl =>
      cases r with
      | cons r rl =>
        obtain ⟨as, q⟩ := reads_of I am a h r
        obtain ⟨bs, q2⟩ := readsL_of I am l hl rl
        exact ⟨_, .cons q q2⟩
end
noncomputable def gEq (neg : Bool) : DR2 := fun x y M R => ∃ px py, PyR M x px ∧ PyR M y py ∧ SeqAt.shaped px = true ∧ SeqAt.shaped py = true ∧ R (.bl (neg.xor (PyData.eqv px py))) M
theorem o_eq (hu : X.A.units + 64 < cLine) : DOp X (compareOp .Eq) (gEq false) := by
  intro pins s σ H x y v u Q I rx ry h
  obtain ⟨dx, dy, M, R, hx, hy, am, ⟨px, py, p1, p2, s1, s2, r⟩, f⟩ := h
  obtain ⟨as, r1⟩ := reads_of I am p1 hx rx
  obtain ⟨bs, r2⟩ := reads_of I am p2 hy ry
  exact eq_dataH r1 r2 s1 s2 hu ⟨.bl _, H, I, rfl, by have := f _ M r _ H (KT.refl H) am (.bl _); simpa using this⟩
theorem o_ne (hu : X.A.units + 64 < cLine) : DOp X (compareOp .NotEq) (gEq true) := by
  intro pins s σ H x y v u Q I rx ry h
  obtain ⟨dx, dy, M, R, hx, hy, am, ⟨px, py, p1, p2, s1, s2, r⟩, f⟩ := h
  obtain ⟨as, r1⟩ := reads_of I am p1 hx rx
  obtain ⟨bs, r2⟩ := reads_of I am p2 hy ry
  exact ne_dataH r1 r2 s1 s2 hu ⟨.bl _, H, I, rfl, by have := f _ M r _ H (KT.refl H) am (.bl _); simpa using this⟩

mutual
noncomputable def pyD : D → PyData
  | .int i => .int i
  | .str x => .str x
  | .bl b => .bool b
  | .tup ds => .tuple (pyDL ds)
  | .vl ds => .list (pyDL ds)
  | _ => .none
noncomputable def pyDL : List D → List PyData
  | [] => []
  | d :: r => pyD d :: pyDL r
end
mutual
/-- ints, None, plain texts and tuples of such, k deep -/
noncomputable def cl : Nat → D → Bool
  | _, .int _ => true
  | _, .non => true
  | _, .str x => PyData.canLay0 (.str x)
  | k + 1, .tup ds => clL k ds
  | k + 1, .vl ds => clL k ds
  | _, _ => false
noncomputable def clL : Nat → List D → Bool
  | _, [] => true
  | k, d :: r => cl k d && clL k r
end
mutual
theorem cl_py {M : Mem} : ∀ {k : Nat} {d : D}, cl k d = true → PyR M d (pyD d) ∧ (pyD d).canLay0 = true ∧ (pyD d).depth ≤ k
  | _, .int i, _ => ⟨.int i, rfl, Nat.zero_le _⟩
  | _, .non, _ => ⟨.non, rfl, Nat.zero_le _⟩
  | 0, .tup ds, h => by simp [cl] at h
  | k + 1, .tup ds, h => by
    obtain ⟨a, b, c⟩ := clL_py (M := M) (k := k) (ds := ds) (by simpa [cl] using h)
    exact ⟨.tup a, by simpa [pyD, PyData.canLay0] using b, by simp only [pyD, PyData.depth]; omega⟩
  | _, .str x, h => ⟨.str x, by simpa [cl, pyD] using h, Nat.zero_le _⟩
  | _, .bl _, h => by simp [cl] at h
  | _, .ref _, h => by simp [cl] at h
  | 0, .vl ds, h => by simp [cl] at h
  | k + 1, .vl ds, h => by
    obtain ⟨a, b, c⟩ := clL_py (M := M) (k := k) (ds := ds) (by simpa [cl] using h)
    exact ⟨.vl a, by simpa [pyD, PyData.canLay0] using b, by simp only [pyD, PyData.depth]; omega⟩
  | _, .ty _, h => by simp [cl] at h
theorem clL_py {M : Mem} : ∀ {k : Nat} {ds : List D}, clL k ds = true → PyRL M ds (pyDL ds) ∧ PyData.canLayAll0 (pyDL ds) = true ∧ PyData.depthAll (pyDL ds) ≤ k
  | _, [], _ => ⟨.nil, rfl, Nat.zero_le _⟩
  | k, d :: r, h => by
    have h' : cl k d = true ∧ clL k r = true := by simpa [clL] using h
    obtain ⟨a, b, c⟩ := cl_py (M := M) h'.1
    obtain ⟨a2, b2, c2⟩ := clL_py (M := M) h'.2
    exact ⟨.cons a a2, by simp [pyDL, PyData.canLayAll0, b, b2], by simp only [pyDL, PyData.depthAll]; omega⟩
end
mutual
theorem cl_eqv : ∀ {k j : Nat} {x y : D}, cl k x = true → cl j y = true → (PyData.eqv (pyD x) (pyD y) = true ↔ x = y)
  | _, _, .int i, .int j, _, _ => by simp [pyD, PyData.eqv]
  | _, _, .int i, .non, _, _ => by simp [pyD, PyData.eqv]
  | _, _, .non, .int i, _, _ => by simp [pyD, PyData.eqv]
  | _, _, .non, .non, _, _ => by simp [pyD, PyData.eqv]
  | _, _, .int i, .tup ds, _, _ => by simp [pyD, PyData.eqv]
  | _, _, .non, .tup ds, _, _ => by simp [pyD, PyData.eqv]
  | _, _, .tup ds, .int i, _, _ => by simp [pyD, PyData.eqv]
  | _, _, .tup ds, .non, _, _ => by simp [pyD, PyData.eqv]
  | k + 1, j + 1, .tup ds, .tup es, h, h' => by
    have := clL_eqv (k := k) (j := j) (xs := ds) (ys := es) (by simpa [cl] using h) (by simpa [cl] using h')
    simp only [pyD, PyData.eqv, D.tup.injEq]
    exact this
  | 0, _, .tup ds, .tup es, h, _ => by simp [cl] at h
  | _, 0, .tup ds, .tup es, _, h => by simp [cl] at h
  | _, _, .str x, .str y, _, _ => by simp [pyD, PyData.eqv]
  | _, _, .str x, .int i, _, _ => by simp [pyD, PyData.eqv]
  | _, _, .str x, .non, _, _ => by simp [pyD, PyData.eqv]
  | _, _, .str x, .tup ds, _, _ => by simp [pyD, PyData.eqv]
  | _, _, .int i, .str x, _, _ => by simp [pyD, PyData.eqv]
  | _, _, .non, .str x, _, _ => by simp [pyD, PyData.eqv]
  | _, _, .tup ds, .str x, _, _ => by simp [pyD, PyData.eqv]
  | k + 1, j + 1, .vl ds, .vl es, h, h' => by
    have := clL_eqv (k := k) (j := j) (xs := ds) (ys := es) (by simpa [cl] using h) (by simpa [cl] using h')
    simp only [pyD, PyData.eqv, D.vl.injEq]
    exact this
  | 0, _, .vl ds, .vl es, h, _ => by simp [cl] at h
  | _, 0, .vl ds, .vl es, _, h => by simp [cl] at h
  | _, _, .vl ds, .int i, _, _ => by simp [pyD, PyData.eqv]
  | _, _, .vl ds, .non, _, _ => by simp [pyD, PyData.eqv]
  | _, _, .vl ds, .str x, _, _ => by simp [pyD, PyData.eqv]
  | _, _, .vl ds, .tup es, _, _ => by simp [pyD, PyData.eqv]
  | _, _, .int i, .vl ds, _, _ => by simp [pyD, PyData.eqv]
  | _, _, .non, .vl ds, _, _ => by simp [pyD, PyData.eqv]
  | _, _, .str x, .vl ds, _, _ => by simp [pyD, PyData.eqv]
  | _, _, .tup es, .vl ds, _, _ => by simp [pyD, PyData.eqv]
  | _, _, .bl _, _, h, _ => by simp [cl] at h
  | _, _, .ref _, _, h, _ => by simp [cl] at h
  | _, _, .ty _, _, h, _ => by simp [cl] at h
  | _, _, _, .bl _, _, h => by simp [cl] at h
  | _, _, _, .ref _, _, h => by simp [cl] at h
  | _, _, _, .ty _, _, h => by simp [cl] at h
theorem clL_eqv : ∀ {k j : Nat} {xs ys : List D}, clL k xs = true → clL j ys = true → (PyData.eqvAll (pyDL xs) (pyDL ys) = true ↔ xs = ys)
  | _, _, [], [], _, _ => by simp [pyDL, PyData.eqvAll]
  | _, _, [], _ :: _, _, _ => by simp [pyDL, PyData.eqvAll]
  | _, _, _ :: _, [], _, _ => by simp [pyDL, PyData.eqvAll]
  | k, j, x :: xs, y :: ys, h, h' => by
    have h1 : cl k x = true ∧ clL k xs = true := by simpa [clL] using h
    have h2 : cl j y = true ∧ clL j ys = true := by simpa [clL] using h'
    have e1 := cl_eqv h1.1 h2.1
    have e2 := clL_eqv h1.2 h2.2
    simp only [pyDL, PyData.eqvAll, Bool.and_eq_true, e1, e2, List.cons.injEq]
end
open Classical in
/-- == of clean data -/
theorem gEq_cl {neg : Bool} {x y : D} {M : Mem} {R : DK} (h : R (.bl (neg.xor (decide (x = y)))) M) (hx : cl 60 x = true := by rfl) (hy : cl 60 y = true := by rfl) : gEq neg x y M R := by
  obtain ⟨a, b, c⟩ := cl_py (M := M) hx
  obtain ⟨a2, b2, c2⟩ := cl_py (M := M) hy
  refine ⟨_, _, a, a2, ?_, ?_, ?_⟩
  · simp only [SeqAt.shaped, b, Bool.true_and]; exact decide_eq_true (by omega)
  · simp only [SeqAt.shaped, b2, Bool.true_and]; exact decide_eq_true (by omega)
  · have e : PyData.eqv (pyD x) (pyD y) = decide (x = y) := by
      have := cl_eqv hx hy
      by_cases q : x = y
      · rw [decide_eq_true q]; exact this.mpr q
      · rw [decide_eq_false q]
        cases z : PyData.eqv (pyD x) (pyD y) with
        | false => rfl
        | true => exact absurd (this.mp z) q
    rw [e]; exact h

noncomputable def tyD (M : Mem) : D → Option String
  | .non => some "NoneType"
  | .bl _ => some "bool"
  | .int _ => some "int"
  | .str _ => some "str"
  | .tup _ => some "tuple"
  | .ref p => match M p with
    | some (.lst _) => some "list"
    | _ => none
  | .vl _ => some "list"
  | .ty _ => none
  | .dic => some "dict"
  | .exc _ => none
noncomputable def subT (t T : String) : Option Bool := if t = T then some true else
  match t, T with
  | "bool", "int" => some true
  | _, _ => if (t ∈ ["NoneType", "bool", "int", "str", "tuple", "list", "dict"]) ∧ (T ∈ ["bool", "int", "str", "tuple", "list"]) then some false else none
noncomputable def SubOk (K : PySem.W.Frag) : Prop := ∀ t T b, subT t T = some b → PySem.W.kitOne K (.type t) (.type T) = some b
theorem jd_ty {x : Str} {n : String} (hg : Gl X x) (hm : X.mg x = none) (hv : bootBuiltins x = some (.type n)) (hn : x ≠ "__name__" := by decide) (hd : (x == ("__debug__" : Str)) = false := by decide) : JE X (.Name x pos) (dC (.ty n)) := ⟨d_const (v := .ty n) (pe_bltn hg hm hv rfl hn hd) fun _ => .ty n⟩
noncomputable def gIsi : DRC := fun ds M R => ∃ d t T b, ds = [d, .ty T] ∧ tyD M d = some t ∧ subT t T = some b ∧ R (.bl b) M
theorem c_isi (hk : SubOk X.K) : DCall X (.builtin "isinstance") gIsi := by
  intro pins s σ H xs us Q I rv h
  obtain ⟨ds, M, R, hl, am, ⟨d, t, T, b, rfl, ht, hb, r⟩, f⟩ := h
  obtain ⟨v, v', rfl, h1, h2⟩ := hl.two
  cases h2
  obtain ⟨u, w', rfl, r1, r2⟩ := vals2 rv
  cases (show w' = Value.type T from r2)
  have e := hk t T b hb
  have fin : ∀ tk, EP X pins σ Q (.bool b) { s with toks := tk } := fun tk => ⟨.bl b, H, I.tok tk, rfl, f _ M r _ H (KT.refl H) am (.bl b)⟩
  cases h1 with
  | non => cases ht; exact isinst_ok I r1 .non e fin
  | bl q => cases ht; exact isinst_ok I r1 (.bl q) e fin
  | int q => cases ht; exact isinst_ok I r1 (.int q) e fin
  | str q => cases ht; exact isinst_ok I r1 (.str q) e fin
  | ty q => cases ht
  | ref p =>
    unfold tyD at ht
    cases q : M p with
    | none => simp [q] at ht
    | some o =>
      cases o with
      | lst es =>
        simp only [q] at ht
        cases ht
        obtain ⟨ys, hy, _⟩ := am.lst q
        exact isinst_ok I r1 (.lst hy) e fin
  | tup s' l =>
    cases ht
    cases (show u = Value.ref _ from r1)
    obtain ⟨its, _, ⟨o, h1, h2, _⟩, _⟩ := I.tuple s'
    exact PySem.W.kia_one PySem.W.kitx_tuple I.kIn ⟨o, h1, h2⟩ e (fun z => nomatch z) fin
  | vl hq hl' =>
    cases ht
    cases (show u = Value.ref _ from r1)
    obtain ⟨_, _, ea, sq, _⟩ := Has.il (.vl hq hl')
    cases ea
    obtain ⟨its, _, ⟨o, n, h1, h2, _⟩, _⟩ := I.list sq
    exact PySem.W.kia_one PySem.W.kitx_list I.kIn ⟨o, h1, h2⟩ e (fun z => nomatch z) fin
  | dic hq =>
    cases ht
    cases (show u = Value.ref _ from r1)
    obtain ⟨o, g1, g2⟩ := hq
    exact PySem.W.kia_one PySem.W.kitx_dict I.kIn ⟨o, (I.hok _ _ g1).1, g2⟩ e (fun z => nomatch z) fin
  | exc hq => cases ht

end
end DL

namespace DL
open PySem PySem.Spec L2
open PyProof.Rows hiding St
section
variable {X : Cx} {a b c : Expr} {ta tb tc : DTE} {pos : Pos}

noncomputable def Y0 : DXK := fun _ _ => False
theorem fit0 {K : PySem.W.Frag} {H : Hp} {E : XK} : FitX K H Y0 E := fun _ _ h => h.elim
structure FunD (K : PySem.W.Frag) (x : Str) (st : Stmt) (f : Addr) (fd : FuncData) : Prop where
  ex : ∃ (oc : Value) (od : Option Addr) (dV kV doc pm : Value) (an : Option Addr) (cdv ct : Value) (osl : Array (Option Value)),
    fd = PySem.W.fnOf x x (defArgs st) (defBody st) (defScope st) dV kV doc pm an cdv ct ∧ K.lookup f = some ⟨oc, od, .func fd, osl⟩ ∧ PySem.W.codeIn K cdv x = true
  kp : PySem.W.keepIn K (.ref f) = true
structure Df (K : PySem.W.Frag) (mg : Str → Option Value) (x : Str) (st : Stmt) (ps : List Str) : Prop where
  ex : ∃ (f : Addr) (fd : FuncData), FunD K x st f fd ∧ mg x = some (.ref f) ∧ Binds K fd ps []
structure DfL (K : PySem.W.Frag) (mg : Str → Option Value) (x : Str) (st : Stmt) (ps : List Str) : Prop where
  ex : ∃ (f : Addr) (fd : FuncData), FunD K x st f fd ∧ mg x = some (.ref f) ∧ ∀ us : List Value, us.length = ps.length → bindArgs fd ⟨us, []⟩ = pure (ps.zip us)
structure Fn (P : Program) (w : World) (K : PySem.W.Frag) (mg : Str → Option Value) (base : Heap) (x : Str) (k : Nat) (ps : List Str) (sp : DSp) : Prop where
  ex : ∃ (f : Addr) (fd : FuncData), FnOk P w K mg base CX0 k f fd ps (upSp K sp) ∧ mg x = some (.ref f) ∧ PySem.W.keepIn K (.ref f) = true ∧ Binds K fd ps []
theorem jd_callF {x : Str} {j : Nat} {ps : List Str} {sp : DSp} {p : Pos} {e : Expr} {es : List Expr} {t : DTA} (G : Fn X.prog X.w X.K X.mg X.base x j ps sp) (hr : Room j X.A) (hg : Gl X x) (ha : JA X (e :: es) t)
    (hdb : (x == ("__debug__" : Str)) = false := by decide) (he : starEach (e :: es) X.env = (false, eval e X.env) :: starEach es X.env := by rfl) (hpl : (backTo pos (starEach es X.env)).any (·.1) = false := by rfl) : JE X (.Call (.Name x p) (e :: es) [] pos) (dCall sp [] Y0 t) := ⟨have ha := ha.out; by
  obtain ⟨f, fd, F, hm, hk, hb⟩ := G.ex
  exact d_call F hr hg hm hk hb .nil (fun _ => .nil) pass0 (fun _ => fit0) ha hdb he hpl⟩
end
section
variable {P : Program} {w : World} {K : PySem.W.Frag} {mg : Str → Option Value} {base : Heap}
theorem fn_ok {x : Str} {st : Stmt} {f : Addr} {fd : FuncData} {N ps : List Str} {k : Nat} {sp : DSp} (F : FunD K x st f fd) (S : FnScope N ps (defScope st)) (len : ∀ ds M R Y, sp ds M R Y → ds.length = ps.length)
    (hbody : ∀ (cdv : Value) (A : Around) (outer : List Env) (s : Shared) (H : Hp) (E : XK) (ds : List D) (M : Mem) (R : DK) (Y : DXK), Room k (A.deeper (envOfC x (defScope st) s.heap.objs.size f cdv)) → sp ds M R Y →
      ∃ t, JSs (cxOf CX0 P w K mg base N x (defScope st) f cdv A outer s H E).nox (defBody st) t ∧ t { nx := fun _ M' => R .non M', rt := R } (dstart N ds) M) : FnOk P w K mg base CX0 (k + 1) f fd ps (upSp K sp) := by
  obtain ⟨oc, od, dV, kV, doc, pm, an, cdv, ct, osl, rfl, lk, hcd⟩ := F.ex
  refine fn_of lk hcd S (fun vs H Q E ⟨ds, M, R, Y, hl, _, hs, _, _⟩ => by rw [hl.length]; exact len ds M R Y hs) fun A outer s H vs Q E hr zz => ?_
  obtain ⟨ds, M, R, Y, hl, am, hs, fv, fx⟩ := zz
  obtain ⟨t, h1, h2⟩ := hbody cdv A outer s H E ds M R Y hr hs
  refine ⟨_, h1.out.nox, dstart N ds, M, _, EnvOk.start0 hl, am, h2, ⟨?_, fv, fun _ _ h => h.elim, fun _ _ h => h.elim⟩⟩
  exact fun e M' h σ' H' kt a o => fv .non M' h .non H' kt a .non
theorem fn_by {x : Str} {st : Stmt} {N ps : List Str} {k : Nat} {sp : DSp} (d : Df K mg x st ps) (S : FnScope N ps (defScope st)) (len : ∀ ds M R Y, sp ds M R Y → ds.length = ps.length)
    (hbody : ∀ (f : Addr) (cdv : Value) (A : Around) (outer : List Env) (s : Shared) (H : Hp) (E : XK) (ds : List D) (M : Mem) (R : DK) (Y : DXK), Room k (A.deeper (envOfC x (defScope st) s.heap.objs.size f cdv)) → sp ds M R Y →
      ∃ t, JSs (cxOf CX0 P w K mg base N x (defScope st) f cdv A outer s H E).nox (defBody st) t ∧ t { nx := fun _ M' => R .non M', rt := R } (dstart N ds) M) : Fn P w K mg base x (k + 1) ps sp := by
  obtain ⟨f, fd, F, hm, hb⟩ := d.ex
  exact ⟨f, fd, fn_ok F S len (hbody f), hm, F.kp, hb⟩
theorem df_mk {x : Str} {st : Stmt} {ps : List Str} {h : Heap} {f : Addr} {oc : Value} {od an : Option Addr} {osl : Array (Option Value)} {dV kV doc pm cdv ct : Value} (X : K.In h) (G : h.Ns mainGlobals mg)
    (n : PySem.W.nsIn K mainGlobals x = some (some (.ref f)))
    (l : K.lookup f = some ⟨oc, od, .func (PySem.W.fnOf x x (defArgs st) (defBody st) (defScope st) dV kV doc pm an cdv ct), osl⟩)
    (c : PySem.W.codeIn K cdv x = true) (k : PySem.W.keepIn K (.ref f) = true)
    (hb : ∀ us : List Value, us.length = ps.length → bindArgs (PySem.W.fnOf x x (defArgs st) (defBody st) (defScope st) dV kV doc pm an cdv ct) ⟨us, []⟩ = pure (ps.zip us)) : Df K mg x st ps :=
  ⟨f, _, ⟨⟨oc, od, dV, kV, doc, pm, an, cdv, ct, osl, rfl, l, c⟩, k⟩, PySem.W.mg_of X G n, .all hb⟩
theorem dfl_mk {x : Str} {st : Stmt} {ps : List Str} {h : Heap} {f : Addr} {oc : Value} {od an : Option Addr} {osl : Array (Option Value)} {dV kV doc pm cdv ct : Value} (X : K.In h) (G : h.Ns mainGlobals mg)
    (n : PySem.W.nsIn K mainGlobals x = some (some (.ref f)))
    (l : K.lookup f = some ⟨oc, od, .func (PySem.W.fnOf x x (defArgs st) (defBody st) (defScope st) dV kV doc pm an cdv ct), osl⟩)
    (c : PySem.W.codeIn K cdv x = true) (k : PySem.W.keepIn K (.ref f) = true)
    (hb : ∀ us : List Value, us.length = ps.length → bindArgs (PySem.W.fnOf x x (defArgs st) (defBody st) (defScope st) dV kV doc pm an cdv ct) ⟨us, []⟩ = pure (ps.zip us)) : DfL K mg x st ps :=
  ⟨f, _, ⟨⟨oc, od, dV, kV, doc, pm, an, cdv, ct, osl, rfl, l, c⟩, k⟩, PySem.W.mg_of X G n, hb⟩
theorem dfd_mk {x : Str} {st : Stmt} {ps : List Str} {h : Heap} {f : Addr} {oc : Value} {od an : Option Addr} {osl : Array (Option Value)} {dV kV doc pm cdv ct : Value} (X : K.In h) (G : h.Ns mainGlobals mg)
    (n : PySem.W.nsIn K mainGlobals x = some (some (.ref f)))
    (l : K.lookup f = some ⟨oc, od, .func (PySem.W.fnOf x x (defArgs st) (defBody st) (defScope st) dV kV doc pm an cdv ct), osl⟩)
    (c : PySem.W.codeIn K cdv x = true) (k : PySem.W.keepIn K (.ref f) = true)
    (hb : ∀ us : List Value, us.length = ps.length → ∀ S, PySem.W.peek K S (bindArgs (PySem.W.fnOf x x (defArgs st) (defBody st) (defScope st) dV kV doc pm an cdv ct) ⟨us, []⟩) = some (ps.zip us)) : Df K mg x st ps :=
  ⟨f, _, ⟨⟨oc, od, dV, kV, doc, pm, an, cdv, ct, osl, rfl, l, c⟩, k⟩, PySem.W.mg_of X G n, fun s us X' hl => by rw [List.append_nil] at hl ⊢; exact PySem.W.kp_binds X' (hb us hl)⟩
end
section
variable {X : Cx} {x : Str} {p pos : Pos} {e : Expr} {es : List Expr} {t : DTA} {id T : String} {o : Expr} {to : DTE} {a b c : Expr} {ta tb tc : DTE}
theorem jd_blt {g : DRC} (hc : DCall X (.builtin id) g) (hg : Gl X x) (hm : X.mg x = none) (hv : bootBuiltins x = some (.builtin id)) (ha : JA X (e :: es) t)
    (hn : x ≠ "__name__" := by decide) (hdb : (x == ("__debug__" : Str)) = false := by decide) (he : starEach (e :: es) X.env = (false, eval e X.env) :: starEach es X.env := by rfl) (hpl : (backTo pos (starEach es X.env)).any (·.1) = false := by rfl) : JE X (.Call (.Name x p) (e :: es) [] pos) (dCB g t) := ⟨have ha := ha.out; (pe_callB hc hg hm hv ha hn hdb he hpl).imp fun _ _ _ h => cb_up h⟩
theorem jd_blty {g : DRC} (hc : DCall X (.type T) g) (hg : Gl X x) (hm : X.mg x = none) (hv : bootBuiltins x = some (.type T)) (ha : JA X (e :: es) t)
    (hn : x ≠ "__name__" := by decide) (hdb : (x == ("__debug__" : Str)) = false := by decide) (he : starEach (e :: es) X.env = (false, eval e X.env) :: starEach es X.env := by rfl) (hpl : (backTo pos (starEach es X.env)).any (·.1) = false := by rfl) : JE X (.Call (.Name x p) (e :: es) [] pos) (dCB g t) := ⟨have ha := ha.out; (pe_callTy hc hg hm hv ha hn hdb he hpl).imp fun _ _ _ h => cb_up h⟩
theorem op_catS : OpR X (binaryOp .Add) (fun x y H Q => ∃ l b xs zs, x = .ref l ∧ y = .ref b ∧ SqL X.K H l xs ∧ SqL X.K H b zs ∧ xs.length + zs.length ≤ sizeLine ∧ ∀ p, H p = none → Q (.ref p) (upd H p (.lst (xs ++ zs)))) := by
  intro pins s σ H x y v u Q I rx ry h
  obtain ⟨l, b, xs, zs, rfl, rfl, hH, hB, hz, q⟩ := h
  cases rx
  cases ry
  obtain ⟨its, r, pl, z1⟩ := I.list hH
  obtain ⟨its2, r2, pl2, z2⟩ := I.list hB
  have hl := r.length
  have hl2 := r2.length
  obtain ⟨⟨cls, dd, data, sl⟩, ho, hc, n, hd⟩ := pl.isList
  obtain ⟨⟨cls2, dd2, data2, sl2⟩, ho2, hc2, n2, hd2⟩ := pl2.isList
  simp only at hc hd hc2 hd2
  subst hc hd hc2 hd2
  have ea : its.toArray ++ its2.toArray = (its ++ its2).toArray := by simp
  refine concat_meets ⟨_, ho, rfl⟩ ⟨_, ho2, rfl⟩ noFill_list_add seq_list_add PySem.F.slot_list_add PySem.F.entry_list_add (PySem.F.args_list_add_2 _ _) (list_addW l b its.toArray its2.toArray n n2 dd dd2 sl sl2 (by simp only [List.size_toArray]; omega)) ⟨ho, ho2, ?_⟩
  rw [ea]
  exact ⟨.ref _, _, I.lnew (t' := s.toks) (r.append r2) (by rw [List.length_append]; omega), rfl, q _ I.fresh⟩
noncomputable def itemsD (M : Mem) : D → Option (List D)
  | .ref p => match M p with
    | some (.lst ds) => some ds
    | _ => none
  | .vl ds => some ds
  | _ => none
theorem itemsD_has {K : PySem.W.Frag} {H : Hp} {M : Mem} {v : V} {d : D} {ds : List D} (am : AbsM K H M) (h : Has K H v d) (e : itemsD M d = some ds) : ∃ a xs, v = .ref a ∧ SqL K H a xs ∧ HasL K H xs ds := by
  cases h with
  | ref p =>
    unfold itemsD at e
    cases q : M p with
    | none => simp [q] at e
    | some o =>
      cases o with
      | lst es =>
        simp only [q] at e
        cases e
        obtain ⟨xs, hx, l⟩ := am.lst q
        exact ⟨p, xs, rfl, SqL.of hx, l⟩
  | vl hq hl =>
    cases e
    exact Has.il (.vl hq hl)
  | _ => cases e
end
end DL
namespace DL
open PySem PySem.Spec L2
open PyProof.Rows hiding St

end DL

namespace DL
open PySem PySem.Spec L2
open PyProof.Rows hiding St
theorem sl (n : Nat) (h : n ≤ 1000 := by decide) : n ≤ sizeLine := Nat.le_trans h (by decide)
section
variable {X : Cx}
open Classical in
/-- == and != of clean data, of scalars -/
noncomputable def gEqC (neg : Bool) : DR2 := fun x y M R => cl 60 x = true ∧ cl 60 y = true ∧ R (.bl (neg.xor (decide (x = y)))) M
theorem o_eqC (hu : X.A.units + 64 < cLine) : DOp X (compareOp .Eq) (gEqC false) := OpR.imp (o_eq hu) (by rintro _ _ _ _ ⟨dx, dy, M, R, hx, hy, am, ⟨h1, h2, h3⟩, f⟩; exact ⟨dx, dy, M, R, hx, hy, am, gEq_cl h3 h1 h2, f⟩)
theorem o_neC (hu : X.A.units + 64 < cLine) : DOp X (compareOp .NotEq) (gEqC true) := OpR.imp (o_ne hu) (by rintro _ _ _ _ ⟨dx, dy, M, R, hx, hy, am, ⟨h1, h2, h3⟩, f⟩; exact ⟨dx, dy, M, R, hx, hy, am, gEq_cl h3 h1 h2, f⟩)
theorem o_eqI : DOp X (compareOp .Eq) (gF (fI fun i j => .bl (decide (i = j)))) := OpR.imp op_eq (by
  rintro x y H Q ⟨dx, dy, M, R, hx, hy, am, ⟨z, e, r⟩, f⟩
  obtain ⟨i, j, e1, e2, e3⟩ := fI_some e
  subst e1; subst e2; subst e3
  cases hx; cases hy
  refine ⟨rfl, ?_⟩
  have e : decide (V.int i = V.int j) = decide (i = j) := by simp
  rw [e]
  exact f _ M r _ H (KT.refl H) am (.bl _))
theorem o_neI : DOp X (compareOp .NotEq) (gF (fI fun i j => .bl (!decide (i = j)))) := OpR.imp op_ne (by
  rintro x y H Q ⟨dx, dy, M, R, hx, hy, am, ⟨z, e, r⟩, f⟩
  obtain ⟨i, j, e1, e2, e3⟩ := fI_some e
  subst e1; subst e2; subst e3
  cases hx; cases hy
  refine ⟨rfl, ?_⟩
  have e : decide (V.int i = V.int j) = decide (i = j) := by simp
  rw [e]
  exact f _ M r _ H (KT.refl H) am (.bl _))
end
theorem iteD {c : Prop} [Decidable c] {A B : Prop} (h1 : c → A) (h2 : ¬ c → B) : if decide c = true then A else B := by
  by_cases h : c
  · rw [if_pos (decide_eq_true h)]; exact h1 h
  · rw [if_neg (by rw [decide_eq_false h]; exact Bool.false_ne_true)]; exact h2 h
theorem iteND {c : Prop} [Decidable c] {A B : Prop} (h1 : ¬ c → A) (h2 : c → B) : if (!decide c) = true then A else B := by
  by_cases h : c
  · rw [decide_eq_true h]; rw [if_neg (by decide)]; exact h2 h
  · rw [decide_eq_false h]; rw [if_pos (by decide)]; exact h1 h
theorem log_lt {n k : Nat} (h : n < 2 ^ k) (hk : 0 < k) : n.log2 < k := by
  rcases Nat.eq_zero_or_pos n with h0 | h0
  · subst h0; rw [Nat.log2_zero]; exact hk
  · exact (Nat.log2_lt (Nat.pos_iff_ne_zero.mp h0)).mpr h
theorem mulOk {a b : Int} (m n : Nat) (ha : a.natAbs < 2 ^ m) (hb : b.natAbs < 2 ^ n) (h : m + n ≤ 100000) : IntMulOk a b := by
  have hx : ∀ (x : Int) (k : Nat), x.natAbs < 2 ^ k → Builtin.Int.intBits x ≤ k := fun x k hx => by
    unfold Builtin.Int.intBits
    split
    · exact Nat.zero_le _
    · rename_i h0
      have : x.natAbs ≠ 0 := by
        intro z; apply h0
        first | exact (by simpa using Int.natAbs_eq_zero.mp z) | (simp; omega)
      have := (Nat.log2_lt this).mpr hx
      omega
  exact PySem.IntMulOk.of_le (hx a m ha) (hx b n hb) (by omega)
end DL
namespace DL
open PySem PySem.Spec L2
open PyProof.Rows hiding St
noncomputable def kit0 (t T : String) : Option Bool := if PySem.W.kitMeta T = true then (fastBuiltinMro t).map (·.contains (.type T)) else none
theorem subOk (K : PySem.W.Frag) : SubOk K := by
  intro t T b h
  unfold subT at h
  by_cases e : t = T
  · subst e
    rw [if_pos rfl] at h
    cases h
    unfold PySem.W.kitOne
    rw [if_pos (beq_self_eq_true _)]
  · rw [if_neg e] at h
    have hne : ¬ (Value.type t == Value.type T) = true := fun z => e (by have := eq_of_beq z; injection this)
    unfold PySem.W.kitOne
    rw [if_neg hne]
    show kit0 t T = some b
    split at h
    · cases h; decide +kernel
    · split at h
      · rename_i hh
        obtain ⟨ht, hT⟩ := hh
        simp only [List.mem_cons, List.not_mem_nil, or_false] at ht hT
        cases h
        rcases ht with rfl | rfl | rfl | rfl | rfl | rfl | rfl <;> rcases hT with rfl | rfl | rfl | rfl | rfl <;> first | exact absurd rfl e | decide +kernel | (exfalso; simp_all)
      · cases h
theorem has_script {K : PySem.W.Frag} {H : Hp} {a : Addr} {ns : List Int} (hO : Only H) (hS : SqL K H a (ns.map V.int)) : Has K H (.ref a) (.vl (ns.map D.int)) := by
  rcases hS with (h | ⟨o, h⟩) | h
  · rcases hO a with z | ⟨o, xs, z⟩
    · rw [z] at h; cases h
    · rw [z] at h; cases h
  · exact .vl (.inl ⟨o, h⟩) (HasL.ints ns)
  · exact .vl (.inr fun _ => .inr h) (HasL.ints ns)
theorem law_sp {K : PySem.W.Frag} {H : Hp} {a : Addr} {ns : List Int} {sp : DSp} (hO : Only H) (hS : SqL K H a (ns.map V.int)) (h : sp [.vl (ns.map D.int)] (fun _ => none) (fun d _ => d = .bl true) Y0) :
    upSp K sp [.ref a] H (fun v _ => v = .bl true) (fun _ _ _ => False) :=
  ⟨[.vl (ns.map D.int)], fun _ => none, fun d _ => d = .bl true, Y0, .cons (has_script hO hS) .nil, fun _ _ z => (by cases z), h, fun d M' e v H' _ _ hv => by subst e; cases hv; rfl, fun _ _ z => z.elim⟩
end DL

namespace DL
open PySem PySem.Spec L2
open PyProof.Rows hiding St
section
variable {X : Cx} {o e : Expr} {es : List Expr} {to : DTE} {t : DTA} {name : Str} {apos cpos : Pos} {id : String}

noncomputable abbrev DRM := D → List D → Mem → DK → Prop
noncomputable def upM (K : PySem.W.Frag) (g : DRM) : V → List V → Hp → VK → Prop := fun x xs H Q => ∃ dx ds M R, Has K H x dx ∧ HasL K H xs ds ∧ AbsM K H M ∧ g dx ds M R ∧ FitV K H R Q
noncomputable def DMt (X : Cx) (id : String) (g : DRM) : Prop := MtR X id (upM X.K g)
theorem MtR.imp {r r' : V → List V → Hp → VK → Prop} (h : MtR X id r) (i : ∀ x xs H Q, r' x xs H Q → r x xs H Q) : MtR X id r' := fun pins s σ H x xs v us Q I rx rv q => h pins s σ H x xs v us Q I rx rv (i x xs H Q q)
noncomputable def dLM (g : DRM) (to : DTE) (t : DTA) : DTE := fun e M R => to e M fun x M1 => (∃ l ds, x = .ref l ∧ M1 l = some (.lst ds)) ∧ t e M1 fun xs M2 => g x xs M2 R
theorem jd_lm {g : DRM} (slot : Slot "list" name id) (hty : typeOf (.builtin id) = pure (.type "method_descriptor")) (hm : DMt X id g) (ho : JE X o to) (ha : JA X (e :: es) t)
    (hbase : attributeBase o name X.env (eval o X.env) = eval o X.env := by rfl)
    (hfew : ((backTo cpos (starEach (e :: es) X.env)).all (fun x => !x.1) && (backToKw cpos (keywordEach [] X.env)).all (fun x => x.1.isSome)
      && decide ((e :: es).length + ([] : List Keyword).length + (if ([] : List Keyword).isEmpty then 0 else 1) < 30)) = true := by rfl)
    (hline : (apos.endLine == cpos.line) = true := by rfl) (hs : starEach (e :: es) X.env = (false, eval e X.env) :: starEach es X.env := by rfl) (hplain : (backTo cpos (starEach es X.env)).any (·.1) = false := by rfl) : JE X (.Call (.Attribute o name apos) (e :: es) [] cpos) (dLM g to t) := ⟨have ho := ho.out; have ha := ha.out; (pe_bm PySem.F.plainAttrs_list slot hty hm ho ha hbase hfew hline hs hplain).imp (by rintro σ H Q ⟨e, M, R, ok, am, t, f⟩; exact ⟨e, M, _, ok, am, t, fun x M1 ⟨⟨l, ds, z, hM⟩, h1⟩ v H1 k1 a1 r1 => by
    subst z
    have r1' := r1
    cases r1
    obtain ⟨xs, hx, _⟩ := a1.lst hM
    refine ⟨.inl ⟨rfl, xs, SqL.of hx⟩, e, M1, _, ok.mono k1, a1, h1, fun zs M2 h2 vs H2 k2 a2 r2 => ?_⟩
    exact ⟨_, zs, M2, R, r1'.mono k2, r2, a2, h2, f.mono (k1.trans k2)⟩⟩)⟩
noncomputable def fB (f : Bool → Bool → D) : D → D → Option D
  | .bl i, .bl j => some (f i j)
  | _, _ => none
end
end DL

namespace DL
open PySem PySem.Spec L2
open PyProof.Rows hiding St

section
variable {X : Cx}

noncomputable def gTupL : DRC := fun ds M R => ∃ x ys, ds = [x] ∧ itemsD M x = some ys ∧ R (.tup ys) M
theorem c_tupL : DCall X (.type "tuple") gTupL := CallR.imp call_tuple_of (by
  rintro xs H Q ⟨ds, M, R, hl, am, ⟨x, ys, z, e, r⟩, f⟩
  subst z
  obtain ⟨v, rfl, hv⟩ := hl.one
  obtain ⟨a, vs, rfl, s, l⟩ := itemsD_has am hv e
  exact ⟨a, vs, rfl, .inl ⟨s, fun p hp => f _ M r _ _ (KT.alloc hp) (am.alloc hp) (.tup (SqT.of upd_same) (l.mono (KT.alloc hp)))⟩⟩)

end
end DL

namespace DL
open PySem PySem.Spec L2
open PyProof.Rows hiding St

section
variable {X : Cx} {st : Stmt} {rest : List Stmt} {t u : DTS}
noncomputable def dSeqM (t u : DTS) : DTS := fun F e M => ∃ P : Ev → Mem → Prop, t { F with nx := P } e M ∧ ∀ e' M', P e' M' → u F e' M'
theorem jds_consM (h1 : JS X st t) (h2 : JSs X rest u) : JSs X (st :: rest) (dSeqM t u) := ⟨have h1 := h1.out; have h2 := h2.out; (pss_cons h1 h2).imp (by rintro E σ H ⟨e, M, F, ok, am, ⟨P, t, hP⟩, f⟩; exact ⟨e, M, { F with nx := P }, ok, am, t, ⟨fun e' M' h σ' H' k a o => ⟨e', M', F, o, a, hP e' M' h, f.mono k⟩, f.rt, f.bk, f.ct⟩⟩)⟩
end
section
variable {X : Cx}
end
structure GlD (K : PySem.W.Frag) (mg : Str → Option Value) (x : Str) (d : D) : Prop where
  ex : ∃ (v : V) (u : Value), mg x = some u ∧ RelV v u ∧ HasK K v d
theorem jd_globD {X : Cx} {x : Str} {d : D} {pos : Pos} (hg : Gl X x) (g : GlD X.K X.mg x d) (hd : (x == ("__debug__" : Str)) = false := by decide) : JE X (.Name x pos) (dC d) := ⟨by
  obtain ⟨v, u, h1, h2, h3⟩ := g.ex
  exact d_glob hg h1 h2 h3 hd⟩
theorem gl_pair {K : PySem.W.Frag} {mg : Str → Option Value} {h : Heap} {x : Str} {a : Addr} {od : Option Addr} {osl : Array (Option Value)} {i j : Int} {t u : Tok} {cap : Nat} (X : K.In h) (G : h.Ns mainGlobals mg)
    (n : PySem.W.nsIn K mainGlobals x = some (some (.ref a))) (l : K.lookup a = some ⟨.type "tuple", od, .seq #[.int i t, .int j u] cap, osl⟩) : GlD K mg x (.tup [.int i, .int j]) :=
  ⟨.ref a, .ref a, PySem.W.mg_of X G n, rfl, fun H => .tup (xs := [.int i, .int j]) (.inr ⟨_, _, _, l, rfl, rfl, (show 2 ≤ sizeLine by decide), .cons (show RelV (.int i) (.int i t) from ⟨t, rfl⟩) (.cons (show RelV (.int j) (.int j u) from ⟨u, rfl⟩) .nil)⟩) (.cons (.int i) (.cons (.int j) .nil))⟩
noncomputable def fS (f : Str → Str → D) : D → D → Option D
  | .str i, .str j => some (f i j)
  | _, _ => none
theorem fS_some {f : Str → Str → D} {x y z : D} (h : fS f x y = some z) : ∃ i j, x = .str i ∧ y = .str j ∧ z = f i j := by
  cases x with
  | str i =>
    cases y with
    | str j => exact ⟨i, j, rfl, rfl, (Option.some.inj h).symm⟩
    | _ => cases h
  | _ => cases h
section
variable {X : Cx}
theorem o_eqS : DOp X (compareOp .Eq) (gF (fS fun i j => .bl (decide (i = j)))) := OpR.imp op_eq (by
  rintro x y H Q ⟨dx, dy, M, R, hx, hy, am, ⟨z, e, r⟩, f⟩
  obtain ⟨i, j, e1, e2, e3⟩ := fS_some e
  subst e1; subst e2; subst e3
  cases hx; cases hy
  refine ⟨rfl, ?_⟩
  have e : decide (V.str i = V.str j) = decide (i = j) := by simp
  rw [e]
  exact f _ M r _ H (KT.refl H) am (.bl _))
end
end DL

namespace DL
open PySem PySem.Spec L2
open PyProof.Rows hiding St

structure Walk (K : PySem.W.Frag) (H1 : Hp) (J : It) (ds : List D) (stay : Mem → Prop) : Prop where
  go : ∀ i H' M', i < ds.length → KT H1 H' → AbsM K H' M' → stay M' → J.go i H'
  yld : ∀ i H' M' x H'', i < ds.length → KT H1 H' → AbsM K H' M' → stay M' → J.yld i H' x H'' → ∃ d, ds[i]? = some d ∧ KT H' H'' ∧ AbsM K H'' M' ∧ Has K H'' x d
  stop : ∀ i H' M', ds.length ≤ i → KT H1 H' → AbsM K H' M' → stay M' → J.stop i H'
  up : ∀ M' p o, stay M' → M' p = none → stay (updM M' p o)
noncomputable def upI (K : PySem.W.Frag) (ti : DTI) : TI := fun σ H R => ∃ e M R', EnvOk K H σ e ∧ AbsM K H M ∧ ti e M R' ∧ ∀ ds stay M1, R' ds stay M1 → ∀ H1, KT H H1 → AbsM K H1 M1 → ∀ J, Walk K H1 J ds stay → R J H1
noncomputable def DPI (X : Cx) (tg iter : Expr) (ti : DTI) : Prop := PI X tg iter (upI X.K ti)
structure JI (X : Cx) (tg iter : Expr) (ti : DTI) : Prop where
  out : DPI X tg iter ti
theorem PI.imp {X : Cx} {tg iter : Expr} {wi wi' : TI} (h : PI X tg iter wi) (i : ∀ σ H R, wi' σ H R → wi σ H R) : PI X tg iter wi' := fun pins s σ H R I q => h pins s σ H R I (i σ H R q)
section
variable {X : Cx} {tg iter : Expr} {ti : DTE} {ta : DTA}
theorem walk_tup {K : PySem.W.Frag} {H1 : Hp} {a : Addr} {xs : List V} {ds : List D} (s : SqT K H1 a xs) (l : HasL K H1 xs ds) : Walk K H1 (Itt K a) ds (fun _ => True) where
  go := fun i H' M' hi k _ _ => ⟨xs, _, k.sq s, List.getElem?_eq_getElem (by rw [l.length]; exact hi)⟩
  yld := fun i H' M' x H'' hi k am _ zz => by
    obtain ⟨e, y⟩ := zz
    subst e
    obtain ⟨d, hd, r⟩ := l.getV (y xs (k.sq s))
    exact ⟨d, hd, KT.refl _, am, r.mono k⟩
  stop := fun i H' M' hi k _ _ => ⟨xs, k.sq s, by rw [l.length]; exact hi⟩
  up := fun _ _ _ _ _ => trivial
theorem walk_lst {K : PySem.W.Frag} {H1 : Hp} {p : Addr} {ds : List D} : Walk K H1 (Itl K p) ds (fun M' => M' p = some (.lst ds)) where
  go := fun i H' M' hi k am st => by
    obtain ⟨ys, hy, ly⟩ := am.lst st
    exact ⟨ys, _, SqL.of hy, List.getElem?_eq_getElem (by rw [ly.length]; exact hi)⟩
  yld := fun i H' M' x H'' hi k am st zz => by
    obtain ⟨e, y⟩ := zz
    subst e
    obtain ⟨ys, hy, ly⟩ := am.lst st
    obtain ⟨d, hd, r⟩ := ly.getV (y ys (SqL.of hy))
    exact ⟨d, hd, KT.refl _, am, r⟩
  stop := fun i H' M' hi k am st => by
    obtain ⟨ys, hy, ly⟩ := am.lst st
    exact ⟨ys, SqL.of hy, by rw [ly.length]; exact hi⟩
  up := fun M' q o st hq => by rw [updM_ne (by intro e; subst e; rw [hq] at st; cases st)]; exact st
theorem walk_rng {K : PySem.W.Frag} {H1 : Hp} {lo : Int} {n : Nat} : Walk K H1 (Itr lo n) (rangeD lo n) (fun _ => True) where
  go := fun i H' M' hi k am st => by rw [rangeD_length] at hi; exact hi
  yld := fun i H' M' x H'' hi k am st zz => by
    obtain ⟨e, y⟩ := zz
    subst e; subst y
    rw [rangeD_length] at hi
    exact ⟨_, rangeD_get hi, KT.refl _, am, .int _⟩
  stop := fun i H' M' hi k am st => by rw [rangeD_length] at hi; exact hi
  up := fun _ _ _ _ _ => trivial
theorem jpd_rng {a : Expr} {p p2 : Pos} (hr : Gl X "range") (hm : X.mg "range" = none) (ha : JA X [a] ta) (hs0 : starEach [a] X.env = [(false, eval a X.env)] := by rfl) : JI X tg (.Call (.Name "range" p) [a] [] p2) (diRng ta) := ⟨have ha := ha.out; PI.imp (pi_range1 hr hm ha hs0) (by rintro σ H R ⟨e, M, R', ok, am, t, f⟩; exact ⟨e, M, _, ok, am, t, fun ds M1 ⟨j, z, b1, b2, r⟩ vs H1 k1 a1 r1 => by
    subst z
    obtain ⟨v, rfl, hv⟩ := r1.one
    cases hv
    exact ⟨j, rfl, b1, b2, f _ _ M1 r H1 k1 a1 _ walk_rng⟩⟩)⟩
noncomputable def seqD (M : Mem) (x : D) (ds : List D) : Prop := x = .tup ds ∨ (∃ p, x = .ref p ∧ M p = some (.lst ds)) ∨ x = .vl ds
noncomputable def kindD : D → Bool
  | .tup _ => false
  | _ => true
theorem seqD_has {K : PySem.W.Frag} {H : Hp} {M : Mem} {v : V} {x : D} {ds : List D} (h : seqD M x ds) (am : AbsM K H M) (r : Has K H v x) : ∃ a xs, v = .ref a ∧ SqK K (kindD x) H a xs ∧ HasL K H xs ds := by
  rcases h with rfl | ⟨p, rfl, m⟩ | rfl
  rotate_left 2
  · obtain ⟨a, xs, e, sq, l⟩ := r.il
    exact ⟨a, xs, e, sq, l⟩
  · cases r with
    | tup s l => exact ⟨_, _, rfl, s, l⟩
  · cases r
    obtain ⟨xs, hx, l⟩ := am.lst m
    exact ⟨p, xs, rfl, SqL.of hx, l⟩
theorem seqD_up {M : Mem} {x : D} {ds : List D} {q : Addr} {o : MO} (h : seqD M x ds) (hq : M q = none) : seqD (updM M q o) x ds := by
  rcases h with h | ⟨p, e, h⟩ | h
  · exact .inl h
  · exact .inr (.inl ⟨p, e, by rw [updM_ne (by intro e; subst e; rw [hq] at h; cases h)]; exact h⟩)
  · exact .inr (.inr h)
noncomputable def zipD (ds es : List D) : List D := List.zipWith (fun a b => .tup [a, b]) ds es
theorem zipD_length (ds es : List D) : (zipD ds es).length = min ds.length es.length := by simp [zipD]
theorem zipD_get {ds es : List D} {i : Nat} {a b : D} (h1 : ds[i]? = some a) (h2 : es[i]? = some b) : (zipD ds es)[i]? = some (.tup [a, b]) := by
  unfold zipD
  rw [List.getElem?_zipWith, h1, h2]
theorem walk_zip {K : PySem.W.Frag} {H1 : Hp} {x y : D} {l1 l2 : Addr} {ds es : List D} (h1 : Has K H1 (.ref l1) x) (h2 : Has K H1 (.ref l2) y) :
    Walk K H1 (Itz K (kindD x) (kindD y) l1 l2) (zipD ds es) (fun M' => seqD M' x ds ∧ seqD M' y es) where
  go := fun i H' M' hi k am zz => by
    obtain ⟨s1, s2⟩ := zz
    rw [zipD_length] at hi
    obtain ⟨a, xs, e1, q1, m1⟩ := seqD_has s1 am (h1.mono k)
    obtain ⟨b, ys, e2, q2, m2⟩ := seqD_has s2 am (h2.mono k)
    cases e1; cases e2
    exact ⟨xs, ys, _, _, q1, q2, List.getElem?_eq_getElem (by rw [m1.length]; omega), List.getElem?_eq_getElem (by rw [m2.length]; omega)⟩
  yld := fun i H' M' v H'' hi k am ⟨s1, s2⟩ ⟨T, a, b, hT, ev, eH, u1, u2⟩ => by
    subst ev; subst eH
    obtain ⟨a', xs, e1, q1, m1⟩ := seqD_has s1 am (h1.mono k)
    obtain ⟨b', ys, e2, q2, m2⟩ := seqD_has s2 am (h2.mono k)
    cases e1; cases e2
    obtain ⟨d1, g1, r1⟩ := m1.getV (u1 xs q1)
    obtain ⟨d2, g2, r2⟩ := m2.getV (u2 ys q2)
    have kt : KT H' (upd H' T (.tup [a, b])) := KT.alloc hT
    exact ⟨_, zipD_get g1 g2, kt, am.alloc hT, .tup (SqT.of upd_same) (.cons (r1.mono kt) (.cons (r2.mono kt) .nil))⟩
  stop := fun i H' M' hi k am zz => by
    obtain ⟨s1, s2⟩ := zz
    rw [zipD_length] at hi
    obtain ⟨a, xs, e1, q1, m1⟩ := seqD_has s1 am (h1.mono k)
    obtain ⟨b, ys, e2, q2, m2⟩ := seqD_has s2 am (h2.mono k)
    cases e1; cases e2
    refine ⟨xs, ys, q1, q2, ?_⟩
    rw [m1.length, m2.length]
    omega
  up := fun _ _ _ st hq => ⟨seqD_up st.1 hq, seqD_up st.2 hq⟩
noncomputable def diZip (ta : DTA) : DTI := fun e M R => ta e M fun xs M1 => ∃ x y ds es, xs = [x, y] ∧ seqD M1 x ds ∧ seqD M1 y es ∧ R (zipD ds es) (fun M' => seqD M' x ds ∧ seqD M' y es) M1
theorem jpd_zip {elts : List Expr} {kx : Nat} {tp : Pos} {a b : Expr} {p pos : Pos} (hg : Gl X "zip") (hm : X.mg "zip" = none) (ha : JA X [a, b] ta)
    (hs : starEach [a, b] X.env = [(false, eval a X.env), (false, eval b X.env)] := by rfl) (hs2 : starEach [b] X.env = [(false, eval b X.env)] := by rfl) : JI X (.Tuple elts kx tp) (.Call (.Name "zip" p) [a, b] [] pos) (diZip ta) := ⟨have ha := ha.out; PI.imp (pi_zip hg hm ha hs hs2) (by rintro σ H R ⟨e, M, R', ok, am, t, f⟩; exact ⟨e, M, _, ok, am, t, fun xs M1 ⟨x, y, ds, es, z, s1, s2, r⟩ vs H1 k1 a1 r1 => by
    subst z
    obtain ⟨v, v', rfl, hv, hv'⟩ := r1.two
    obtain ⟨a, zs, rfl, q1, m1⟩ := seqD_has s1 a1 hv
    obtain ⟨b, ws, rfl, q2, m2⟩ := seqD_has s2 a1 hv'
    exact ⟨_, _, a, b, rfl, ⟨zs, q1⟩, ⟨ws, q2⟩, f _ _ M1 r H1 k1 a1 _ (walk_zip hv hv')⟩⟩)⟩
end

section
variable {X : Cx} {tg iter : Expr} {body : List Stmt} {ti : DTI} {g : DTG} {tb : DTS} {pos : Pos}
theorem jds_forI (hp : PassesOwn (model X.prog X.w) X.A X.env X.xe) (hc : X.calm = true) (hi : JI X tg iter ti) (hg : JG X tg g) (hb : JSs X body tb)
    (hs : ∀ x, foldedSetIterable iter X.env x = pure x := by intro _; rfl) : JS X (.For tg iter body [] pos) (dFor ti g tb) := ⟨have hi := hi.out; have hg := hg.out; have hb := hb.out; (ps_for hp hc hi hg hb hs).imp (by rintro E σ H ⟨e, M, F, ok, am, t, f⟩; exact ⟨e, M, _, ok, am, t, fun ds stay M1 ⟨W, w0, hst, step, done⟩ H1 k1 a1 J wk => by
    refine ⟨fun i m σ' H' => m = ds.length - i ∧ i ≤ ds.length ∧ ∃ e' M', KT H1 H' ∧ EnvOk X.K H' σ' e' ∧ AbsM X.K H' M' ∧ W i e' M', ⟨ds.length, by simp, Nat.zero_le _, e, M1, KT.refl H1, ok.mono k1, a1, w0⟩, ?_⟩
    rintro i m σ2 H2 ⟨rfl, hi, e2, M2, k2, ok2, a2, w2⟩
    have st := hst i e2 M2 hi w2
    by_cases hlt : i < ds.length
    · refine .inr ⟨wk.go i H2 M2 hlt k2 a2 st, fun σ' H' => ∃ e' M', KT H1 H' ∧ EnvOk X.K H' σ' e' ∧ AbsM X.K H' M' ∧ W (i + 1) e' M', fun σ' H' h => ⟨ds.length - (i + 1), by omega, rfl, hlt, h⟩, fun y H' yl => ?_⟩
      obtain ⟨d, hd, k3, a3, r⟩ := wk.yld i H2 M2 y H' hlt k2 a2 st yl
      exact for_turn f k1 (k2.trans k3) (ok2.mono k3) a3 r (step i d e2 M2 hd w2)
    · have e' : i = ds.length := by omega
      subst e'
      exact .inl ⟨wk.stop _ H2 M2 (Nat.le_refl _) k2 a2 st, f.nx e2 M2 (done e2 M2 w2) σ2 H2 (k1.trans k2) a2 ok2⟩⟩)⟩
end

noncomputable def capE (n : Nat) (caps : List Nat) (e : Ev) : Ev := List.replicate n none ++ caps.map fun i => (e[i]?).getD none
theorem env_cap {K : PySem.W.Frag} {H : Hp} {σ : St} {e : Ev} (n : Nat) (caps : List Nat) (ok : EnvOk K H σ e) : EnvOk K H (capF n caps σ) (capE n caps e) := by
  refine ⟨by simp [capF, capE], fun i d h => ?_⟩
  unfold capE at h
  unfold capF
  rw [List.getElem?_append] at h ⊢
  rw [List.length_replicate] at h ⊢
  by_cases hi : i < n
  · rw [if_pos hi] at h
    rw [List.getElem?_replicate] at h
    split at h <;> cases h
  · rw [if_neg hi] at h ⊢
    rw [List.getElem?_map] at h ⊢
    cases hj : caps[i - n]? with
    | none => rw [hj] at h; cases h
    | some j =>
      rw [hj] at h
      have h' : (e[j]?).getD none = some d := by simpa using h
      have he : e[j]? = some (some d) := by
        cases q : e[j]? with
        | none => rw [q] at h'; cases h'
        | some z => rw [q] at h'; rw [show z = some d by simpa using h']
      obtain ⟨v, h1, h2⟩ := ok.has j d he
      exact ⟨v, by simp [h1], h2⟩
theorem all1 {p : Str → Prop} {a : Str} (h : p a) : ∀ x ∈ [a], p x := fun x hx => by
  simp only [List.mem_cons, List.not_mem_nil, or_false] at hx
  subst hx; exact h
theorem all2 {p : Str → Prop} {a b : Str} (h : p a) (h2 : p b) : ∀ x ∈ [a, b], p x := fun x hx => by
  simp only [List.mem_cons, List.not_mem_nil, or_false] at hx
  rcases hx with rfl | rfl
  · exact h
  · exact h2
end DL

namespace DL
open PySem PySem.Spec L2
open PyProof.Rows hiding St

section
variable {X : Cx}
noncomputable def iSeq (K : PySem.W.Frag) (tl : TE) : TI := fun σ H R => tl σ H fun x H1 => ∃ (a : Addr) (k : Bool), x = .ref a ∧ (∃ xs, SqK K k H1 a xs) ∧ R (if k = true then Itl K a else Itt K a) H1
theorem pi_seq {tg l : Expr} {tl : TE} (hl : PE X l tl) : PI X tg l (iSeq X.K tl) := by
  intro pins s σ H R I h
  refine thn (hl pins s σ H _ I h) fun v s1 zz => ?_
  obtain ⟨x, H1, I1, r1, q1⟩ := zz
  obtain ⟨a, k, e, ⟨xs, hq⟩, q⟩ := q1
  subst e
  cases r1
  obtain ⟨its, rv, p⟩ := I1.sqk hq
  have nf : ∀ b ∈ [s1.heap.objs.size], FpOk X pins H1 b := fun b hb => by
    have e : b = s1.heap.objs.size := by simpa using hb
    subst e
    exact I1.fpOk (Nat.le_refl _) (I1.hok.fresh (Nat.le_refl _))
  cases k with
  | true => exact wpAny_pyIter_list p ⟨s1.heap.objs.size, [s1.heap.objs.size], _, _, H1, rfl, I1.kept (t' := s1.toks) fun b o e => Heap.get?_push_of_some _ e, turn_list a _, ⟨_, Heap.get?_push_size _ rfl, rfl, rfl⟩, nf, q⟩
  | false => exact wpAny_pyIter_tuple p ⟨s1.heap.objs.size, [s1.heap.objs.size], _, _, H1, rfl, I1.kept (t' := s1.toks) fun b o e => Heap.get?_push_of_some _ e, turn_tuple a _, ⟨_, Heap.get?_push_size _ rfl, rfl, rfl⟩, nf, q⟩
noncomputable def diSeq (ti : DTE) : DTI := fun e M R => ti e M fun x M1 => ∃ ds, seqD M1 x ds ∧ R ds (fun M' => seqD M' x ds) M1
theorem jpd_seq {tg iter : Expr} {ti : DTE} (hi : JE X iter ti) : JI X tg iter (diSeq ti) := ⟨have hi := hi.out; PI.imp (pi_seq hi) (by rintro σ H R ⟨e, M, R', ok, am, t, f⟩; exact ⟨e, M, _, ok, am, t, fun x M1 ⟨ds, sq, r⟩ v H1 k1 a1 r1 => by
  have sq' := sq
  rcases sq with rfl | ⟨p, rfl, hm⟩ | rfl
  rotate_left 2
  · obtain ⟨a, xs, rfl, sq, l⟩ := r1.il
    have wk : Walk X.K H1 (Itl X.K a) ds (fun M' => seqD M' (.vl ds) ds) := ⟨fun i H' M' hi k am _ => by
        obtain ⟨a', ys, e, sq', l'⟩ := (r1.mono k).il
        cases e
        exact ⟨ys, _, sq', List.getElem?_eq_getElem (by rw [l'.length]; exact hi)⟩,
      fun i H' M' x H'' hi k am _ zz => by
        obtain ⟨e, y⟩ := zz
        subst e
        obtain ⟨a', ys, e, sq', l'⟩ := (r1.mono k).il
        cases e
        obtain ⟨d, hd, r⟩ := l'.getV (y ys sq')
        exact ⟨d, hd, KT.refl _, am, r⟩,
      fun i H' M' hi k am _ => by
        obtain ⟨a', ys, e, sq', l'⟩ := (r1.mono k).il
        cases e
        exact ⟨ys, sq', by rw [l'.length]; exact hi⟩, fun _ _ _ st hq => seqD_up st hq⟩
    exact ⟨a, true, rfl, ⟨xs, sq⟩, f ds _ M1 r H1 k1 a1 _ wk⟩
  · cases r1 with
    | tup s l =>
      refine ⟨_, false, rfl, ⟨_, s⟩, f ds _ M1 r H1 k1 a1 _ ?_⟩
      have w := walk_tup (K := X.K) s l
      exact ⟨fun i H' M' a b c _ => w.go i H' M' a b c trivial, fun i H' M' y H2 a b c _ g => w.yld i H' M' y H2 a b c trivial g, fun i H' M' a b c _ => w.stop i H' M' a b c trivial, fun _ _ _ st hq => seqD_up st hq⟩
  · cases r1
    obtain ⟨xs, hx, l⟩ := a1.lst hm
    refine ⟨p, true, rfl, ⟨xs, SqL.of hx⟩, f ds _ M1 r H1 k1 a1 _ ?_⟩
    have w := walk_lst (K := X.K) (H1 := H1) (p := p) (ds := ds)
    have cv : ∀ {M' : Mem}, seqD M' (.ref p) ds → M' p = some (.lst ds) := fun z => by
      rcases z with z | ⟨p', z, h⟩ | z
      · cases z
      · cases z; exact h
      · cases z
    exact ⟨fun i H' M' a b c z => w.go i H' M' a b c (cv z), fun i H' M' y H2 a b c z g => w.yld i H' M' y H2 a b c (cv z) g, fun i H' M' a b c z => w.stop i H' M' a b c (cv z), fun _ _ _ st hq => seqD_up st hq⟩⟩)⟩
end

theorem gl_ray {K : PySem.W.Frag} {mg : Str → Option Value} {h : Heap} {x : Str} {a b c : Addr} {od od1 od2 : Option Addr} {osl osl1 osl2 : Array (Option Value)} {i j k l : Int} {t1 t2 t3 t4 : Tok} {cap cap1 cap2 : Nat} (X : K.In h) (G : h.Ns mainGlobals mg)
    (n : PySem.W.nsIn K mainGlobals x = some (some (.ref a))) (l0 : K.lookup a = some ⟨.type "tuple", od, .seq #[.ref b, .ref c] cap, osl⟩)
    (l1 : K.lookup b = some ⟨.type "tuple", od1, .seq #[.int i t1, .int j t2] cap1, osl1⟩) (l2 : K.lookup c = some ⟨.type "tuple", od2, .seq #[.int k t3, .int l t4] cap2, osl2⟩) : GlD K mg x (.tup [.tup [.int i, .int j], .tup [.int k, .int l]]) := by
  have two : (2 : Nat) ≤ sizeLine := by decide
  have p1 : ∀ H : Hp, Has K H (.ref b) (.tup [.int i, .int j]) := fun H => .tup (xs := [.int i, .int j]) (.inr ⟨_, _, _, l1, rfl, rfl, two, .cons (show RelV (.int i) (.int i t1) from ⟨t1, rfl⟩) (.cons (show RelV (.int j) (.int j t2) from ⟨t2, rfl⟩) .nil)⟩) (.cons (.int i) (.cons (.int j) .nil))
  have p2 : ∀ H : Hp, Has K H (.ref c) (.tup [.int k, .int l]) := fun H => .tup (xs := [.int k, .int l]) (.inr ⟨_, _, _, l2, rfl, rfl, two, .cons (show RelV (.int k) (.int k t3) from ⟨t3, rfl⟩) (.cons (show RelV (.int l) (.int l t4) from ⟨t4, rfl⟩) .nil)⟩) (.cons (.int k) (.cons (.int l) .nil))
  exact ⟨.ref a, .ref a, PySem.W.mg_of X G n, rfl, fun H => .tup (xs := [.ref b, .ref c]) (.inr ⟨_, _, _, l0, rfl, rfl, two, .cons (show RelV (.ref b) (.ref b) from rfl) (.cons (show RelV (.ref c) (.ref c) from rfl) .nil)⟩) (.cons (p1 H) (.cons (p2 H) .nil))⟩
theorem lenD_lst {M : Mem} {p : Addr} {ds : List D} (h : M p = some (.lst ds)) : lenD M (.ref p) = some ds.length := by
  unfold lenD; simp only [h]
theorem atI_mem {ds : List D} {r : Int} (h0 : 0 ≤ r) (h1 : r < ds.length) : ∃ d, atI ds r = some d ∧ d ∈ ds := by
  unfold atI ixN
  rw [if_pos h0, if_pos h1]
  have hl : r.toNat < ds.length := by omega
  exact ⟨ds[r.toNat], by simp [hl], List.getElem_mem hl⟩
section
variable {X : Cx}
end
section
variable {X : Cx}
noncomputable def gAppend : DRM := fun x xs M R => ∃ l ds v, x = .ref l ∧ xs = [v] ∧ M l = some (.lst ds) ∧ ds.length < sizeLine ∧ R .non (updM M l (.lst (ds ++ [v])))
theorem dm_append : DMt X "list.append" gAppend := MtR.imp (r := rAppend) mt_append (by
  rintro x xs H Q ⟨dx, ds, M, R, hx, hl, am, ⟨l, es, v, e1, e2, hM, hz, r⟩, f⟩
  subst e1; subst e2
  cases hx
  obtain ⟨w, rfl, hw⟩ := hl.one
  obtain ⟨ys, hy, ly⟩ := am.lst hM
  exact ⟨l, ys, w, rfl, rfl, hy, by rw [ly.length]; exact hz, f _ _ r _ _ (KT.write hy) (am.write hy (ly.append (.cons hw .nil))) .non⟩)
end
end DL

namespace DL
open PySem PySem.Spec L2
open PyProof.Rows hiding St
theorem tyD_lst {M : Mem} {p : Addr} {ds : List D} (h : M p = some (.lst ds)) : tyD M (.ref p) = some "list" := by
  unfold tyD; simp only [h]
theorem atI_last {xs : List D} {x : D} : atI (xs ++ [x]) (-1) = some x := by
  unfold atI ixN
  rw [if_neg (by decide), List.length_append, List.length_singleton]
  rw [if_pos (by omega)]
  have e : ((-1 : Int) + ((xs.length + 1 : Nat) : Int)).toNat = xs.length := by omega
  rw [e]
  simp
section
variable {X : Cx}
end
end DL

namespace DL
open PySem PySem.Spec L2
open PyProof.Rows hiding St

noncomputable abbrev DTO := Ev → Mem → (Option Int → Mem → Prop) → Prop
noncomputable def upO (K : PySem.W.Frag) (t : DTO) : TO := fun σ H Q => ∃ e M R, EnvOk K H σ e ∧ AbsM K H M ∧ t e M R ∧ ∀ o M', R o M' → ∀ H', KT H H' → AbsM K H' M' → Q o H'
noncomputable def DPO (X : Cx) (e : Option Expr) (t : DTO) : Prop := PO X e (upO X.K t)
structure JO (X : Cx) (e : Option Expr) (t : DTO) : Prop where
  out : DPO X e t
noncomputable def dNoPart : DTO := fun _ M R => R none M
noncomputable def dPart (t : DTE) : DTO := fun e M R => t e M fun x M1 => ∃ i, x = .int i ∧ R (some i) M1
theorem PO.imp {X : Cx} {e : Option Expr} {t t' : TO} (h : PO X e t) (i : ∀ σ H Q, t' σ H Q → t σ H Q) : PO X e t' := fun pins s σ H Q I q => h pins s σ H Q I (i σ H Q q)
section
variable {X : Cx} {e : Expr} {te : DTE} {lo hi : Option Expr} {tl th : DTO} {pos p2 : Pos}
theorem jdpo_none  : JO X none dNoPart := ⟨PO.imp po_none (by rintro σ H Q ⟨e, M, R, ok, am, t, f⟩; exact f none M t H (KT.refl H) am)⟩
theorem jdpo_some (h : JE X e te) : JO X (some e) (dPart te) := ⟨have h := h.out; PO.imp (po_some h) (by rintro σ H Q ⟨e, M, R, ok, am, t, f⟩; exact ⟨e, M, _, ok, am, t, fun x M1 ⟨i, z, r⟩ v H1 k1 a1 r1 => by
  subst z; cases r1
  exact ⟨i, rfl, f (some i) M1 r H1 k1 a1⟩⟩)⟩
noncomputable def cutD (ds : List D) (lo hi : Option Int) : List D := (ds.drop (HT.sIx ds.length 0 lo)).take (HT.sIx ds.length ds.length hi - HT.sIx ds.length 0 lo)
theorem HasL.cut {K : PySem.W.Frag} {H : Hp} {xs : List V} {ds : List D} (h : HasL K H xs ds) (lo hi : Option Int) : HasL K H (cutV xs lo hi) (cutD ds lo hi) := by
  unfold cutV cutD
  rw [h.length]
  exact (h.drop _).take _
end
end DL

namespace DL
open PySem PySem.Spec L2
open PyProof.Rows hiding St

noncomputable def enumD (ds : List D) : List D := ds.mapIdx fun i d => .tup [.int i, d]
theorem enumD_length (ds : List D) : (enumD ds).length = ds.length := by simp [enumD]
theorem enumD_get {ds : List D} {i : Nat} {d : D} (h : ds[i]? = some d) : (enumD ds)[i]? = some (.tup [.int i, d]) := by
  unfold enumD
  rw [List.getElem?_mapIdx, h]; rfl
theorem enumD_of {ds : List D} {i : Nat} {x : D} (h : (enumD ds)[i]? = some x) : ∃ d, ds[i]? = some d ∧ x = .tup [.int i, d] := by
  unfold enumD at h
  rw [List.getElem?_mapIdx] at h
  cases e : ds[i]? with
  | none => rw [e] at h; cases h
  | some d => rw [e] at h; exact ⟨d, rfl, (Option.some.inj h).symm⟩
theorem walk_enum {K : PySem.W.Frag} {H1 : Hp} {x : D} {l : Addr} {ds : List D} (h1 : Has K H1 (.ref l) x) : Walk K H1 (Ite K (kindD x) l) (enumD ds) (fun M' => seqD M' x ds) where
  go := fun i H' M' hi k am s1 => by
    rw [enumD_length] at hi
    obtain ⟨a, xs, e1, q1, m1⟩ := seqD_has s1 am (h1.mono k)
    cases e1
    exact ⟨xs, _, q1, List.getElem?_eq_getElem (by rw [m1.length]; omega)⟩
  yld := fun i H' M' v H'' hi k am s1 zz => by
    obtain ⟨T, a, hT, ev, eH, u1⟩ := zz
    subst ev; subst eH
    obtain ⟨a', xs, e1, q1, m1⟩ := seqD_has s1 am (h1.mono k)
    cases e1
    obtain ⟨d1, g1, r1⟩ := m1.getV (u1 xs q1)
    have kt : KT H' (upd H' T (.tup [.int i, a])) := KT.alloc hT
    exact ⟨_, enumD_get g1, kt, am.alloc hT, .tup (SqT.of upd_same) (.cons (.int _) (.cons (r1.mono kt) .nil))⟩
  stop := fun i H' M' hi k am s1 => by
    rw [enumD_length] at hi
    obtain ⟨a, xs, e1, q1, m1⟩ := seqD_has s1 am (h1.mono k)
    cases e1
    exact ⟨xs, q1, by rw [m1.length]; exact hi⟩
  up := fun _ _ _ st hq => seqD_up st hq
section
variable {X : Cx} {ta : DTA}
noncomputable def diEnum (ta : DTA) : DTI := fun e M R => ta e M fun xs M1 => ∃ x ds, xs = [x] ∧ seqD M1 x ds ∧ R (enumD ds) (fun M' => seqD M' x ds) M1
theorem jpd_enum {elts : List Expr} {kx : Nat} {tp : Pos} {a : Expr} {p pos : Pos} (hg : Gl X "enumerate") (hm : X.mg "enumerate" = none) (ha : JA X [a] ta) (hs : starEach [a] X.env = [(false, eval a X.env)] := by rfl) : JI X (.Tuple elts kx tp) (.Call (.Name "enumerate" p) [a] [] pos) (diEnum ta) := ⟨have ha := ha.out; PI.imp (pi_enum hg hm ha hs) (by rintro σ H R ⟨e, M, R', ok, am, t, f⟩; exact ⟨e, M, _, ok, am, t, fun xs M1 ⟨x, ds, z, s1, r⟩ vs H1 k1 a1 r1 => by
    subst z
    obtain ⟨v, rfl, hv⟩ := r1.one
    obtain ⟨a, zs, rfl, q1, m1⟩ := seqD_has s1 a1 hv
    exact ⟨_, a, rfl, ⟨zs, q1⟩, f _ _ M1 r H1 k1 a1 _ (walk_enum hv)⟩⟩)⟩
end
end DL

namespace DL
open PySem PySem.Spec L2
open PyProof.Rows hiding St

noncomputable def delM (M : Mem) (a : Addr) : Mem := fun b => if b = a then none else M b
theorem delM_ne {M : Mem} {a b : Addr} (h : b ≠ a) : delM M a b = M b := by unfold delM; rw [if_neg h]
theorem delM_upd {M : Mem} {a : Addr} {o : MO} (h : M a = none) : delM (updM M a o) a = M := by
  funext b; unfold delM updM; by_cases e : b = a
  · rw [if_pos e, e, h]
  · rw [if_neg e, if_neg e]
section
variable {K : PySem.W.Frag} {H : Hp} {M : Mem} {p : Addr}
theorem AbsM.at {o : HO} (h : AbsM K H M) (k : KT0 H (upd H p o)) (hp : M p = none) : AbsM K (upd H p o) M := fun a u m => by
  cases u with
  | lst ds =>
    obtain ⟨xs, z, l⟩ := h a _ m
    have hn : a ≠ p := by intro e; subst e; rw [hp] at m; cases m
    exact ⟨xs, by rw [upd_ne hn]; exact z, l.mono0 k⟩
theorem AbsM.del (h : AbsM K H M) : AbsM K H (delM M p) := fun a u m => by
  by_cases e : a = p
  · subst e; unfold delM at m; rw [if_pos rfl] at m; cases m
  · rw [delM_ne e] at m; exact h a u m
theorem delM_same : delM M p p = none := by unfold delM; rw [if_pos rfl]
theorem AbsM.none_ext {φ : Heap → Prop} (h : AbsM K H M) (e : H p = some (.ext φ)) : M p = none := by
  cases q : M p with
  | none => rfl
  | some o =>
    cases o with
    | lst ds => obtain ⟨xs, z, _⟩ := h p _ q; rw [e] at z; cases z
end
section
variable {X : Cx} {x : Expr} {t : DTE} {es : List Expr} {tr : DTA} {pos : Pos}
noncomputable def dFrz (t : DTE) : DTE := fun e M R => t e M fun x M1 => ∃ p ds, x = .ref p ∧ M1 p = some (.lst ds) ∧ R (.vl ds) (delM M1 p)
theorem jd_frz (h : JE X x t) : JE X x (dFrz t) := ⟨have h := h.out; (pe_frz h).imp (by rintro σ H Q ⟨e, M, R, ok, am, t, f⟩; exact ⟨e, M, _, ok, am, t, fun d M1 ⟨p, ds, z, hm, r⟩ v H1 k1 a1 r1 => by
  subst z
  cases r1
  obtain ⟨xs, hx, lx⟩ := a1.lst hm
  exact ⟨p, xs, rfl, hx, fun o => f _ _ r _ _ (k1.trans (KT.any hx)) (a1.del.at (KT.any hx).toKT0 delM_same) (.vl (.inl ⟨o, upd_same⟩) (lx.mono (KT.any hx)))⟩⟩)⟩
noncomputable def dFgt (t : DTE) : DTE := fun e M R => t e M fun x M1 => ∃ M2 : Mem, (∀ b o, M2 b = some o → M1 b = some o) ∧ R x M2
theorem jd_fgt (h : JE X x t) : JE X x (dFgt t) := ⟨have h := h.out; PE.imp h (by rintro σ H Q ⟨e, M, R, ok, am, t, f⟩; exact ⟨e, M, _, ok, am, t, fun d M1 ⟨M2, hs, r⟩ v H1 k1 a1 r1 => f d M2 r v H1 k1 (fun a o q => a1 a o (hs a o q)) r1⟩)⟩
noncomputable def dLstV (t : DTA) : DTE := fun e M R => t e M fun ds M1 => ds.length ≤ sizeLine ∧ R (.vl ds) M1
theorem frz_new {K : PySem.W.Frag} {H0 H : Hp} {M : Mem} {R : DK} {Q : VK} {vs : List V} {ds : List D} (f : FitV K H0 R Q) (k : KT H0 H) (am : AbsM K H M) (l : HasL K H vs ds) (r : R (.vl ds) M) (p : Addr) (hp : H p = none) :
    ∃ q xs, V.ref p = .ref q ∧ upd H p (.lst vs) q = some (.lst xs) ∧ ∀ o, Q (.ref p) (upd (upd H p (.lst vs)) q (.frz o (.lst xs))) :=
  ⟨p, vs, rfl, upd_same, fun o => by
    rw [upd_upd]
    exact f _ M r _ _ (k.trans (KT.alloc hp)) (am.alloc hp) (.vl (.inl ⟨o, upd_same⟩) (l.mono (KT.alloc hp)))⟩
theorem jd_lstV (h : JA X es tr) : JE X (.List es pos) (dLstV tr) := ⟨have h := h.out; (pe_frz (pe_lst h)).imp (by rintro σ H Q ⟨e, M, R, ok, am, t, f⟩; exact ⟨e, M, _, ok, am, t, fun ds M1 ⟨hz, h1⟩ vs H1 k1 a1 r1 => ⟨by rw [r1.length]; exact hz, fun p hp => frz_new f k1 a1 r1 h1 p hp⟩⟩)⟩
noncomputable def gCatV (x y : D) (M : Mem) (R : DK) : Prop := ∃ xs ys, itemsD M x = some xs ∧ itemsD M y = some ys ∧ xs.length + ys.length ≤ sizeLine ∧ R (.vl (xs ++ ys)) M
noncomputable def dCatV (ta tb : DTE) : DTE := fun e M R => ta e M fun x M1 => tb e M1 fun y M2 => gCatV x y M2 R
theorem jd_catV {a b : Expr} {ta tb : DTE} (ha : JE X a ta) (hb : JE X b tb) : JE X (.BinOp a .Add b pos) (dCatV ta tb) := ⟨have ha := ha.out; have hb := hb.out; (pe_frz (pe_op op_catS ha hb)).imp (by rintro σ H Q ⟨e, M, R, ok, am, t, f⟩; exact ⟨e, M, _, ok, am, t, fun x M1 h1 v H1 k1 a1 r1 => ⟨e, M1, _, ok.mono k1, a1, h1, fun y M2 ⟨xs, ys, e1, e2, hz, r⟩ u H2 k2 a2 r2 => by
    obtain ⟨a, vs, rfl, s1, l1⟩ := itemsD_has a2 (r1.mono k2) e1
    obtain ⟨b, ws, rfl, s2, l2⟩ := itemsD_has a2 r2 e2
    exact ⟨a, b, vs, ws, rfl, rfl, s1, s2, by rw [l1.length, l2.length]; exact hz, fun p hp => frz_new f (k1.trans k2) a2 (l1.append l2) r p hp⟩⟩⟩)⟩
noncomputable def gSlV (x : D) (lo hi : Option Int) (M : Mem) (R : DK) : Prop := (∃ ds, itemsD M x = some ds ∧ R (.vl (cutD ds lo hi)) M) ∨ ∃ ds, x = .tup ds ∧ ¬ (HT.sIx ds.length 0 lo = 0 ∧ HT.sIx ds.length ds.length hi = ds.length) ∧ R (.tup (cutD ds lo hi)) M
noncomputable def dSlV (te : DTE) (tl th : DTO) : DTE := fun e M R => te e M fun x M1 => tl e M1 fun l M2 => th e M2 fun u M3 => gSlV x l u M3 R
theorem jd_sliceV {e : Expr} {te : DTE} {lo hi : Option Expr} {tl th : DTO} {p2 : Pos} (he : JE X e te) (hl : JO X lo tl) (hu : JO X hi th) : JE X (.Subscript e (.Slice lo hi none p2) pos) (dSlV te tl th) := ⟨have he := he.out; have hl := hl.out; have hu := hu.out; (pe_frzM (pe_slice (SlR.or sl_list sl_tup) he hl hu)).imp (by rintro σ H Q ⟨e, M, R, ok, am, t, f⟩; exact ⟨e, M, _, ok, am, t, fun x M1 h1 v H1 k1 a1 r1 => ⟨e, M1, _, ok.mono k1, a1, h1, fun l M2 h2 H2 k2 a2 => ⟨e, M2, _, (ok.mono k1).mono k2, a2, h2, fun u M3 h3 H3 k3 a3 => by
    rcases h3 with ⟨ds, hi, r⟩ | ⟨ds, rfl, hw, r⟩
    · obtain ⟨a, xs, rfl, sq, lx⟩ := itemsD_has a3 ((r1.mono k2).mono k3) hi
      exact .inl ⟨a, xs, rfl, sq, fun p hp => .inl (frz_new f (k1.trans (k2.trans k3)) a3 (lx.cut l u) r p hp)⟩
    · cases (r1.mono k2).mono k3 with
      | tup sq lx =>
        exact .inr ⟨_, _, rfl, sq, by rw [lx.length]; exact hw, fun p hp => .inr (f _ M3 r _ _ ((k1.trans (k2.trans k3)).trans (KT.alloc hp)) (a3.alloc hp) (.tup (SqT.of upd_same) ((lx.cut l u).mono (KT.alloc hp))))⟩⟩⟩⟩)⟩
noncomputable def gListV (ds : List D) (M : Mem) (R : DK) : Prop := ∃ x ys, ds = [x] ∧ seqD M x ys ∧ R (.vl ys) M
noncomputable def dListV (t : DTA) : DTE := fun e M R => t e M fun ds M1 => gListV ds M1 R
end
section
variable {X : Cx} {e : Expr} {es : List Expr} {t : DTA} {x : Str} {p pos : Pos}
theorem jd_listV (hg : Gl X x) (hm : X.mg x = none) (hv : bootBuiltins x = some (.type "list")) (ha : JA X (e :: es) t)
    (hn : x ≠ "__name__" := by decide) (hdb : (x == ("__debug__" : Str)) = false := by decide) (he : starEach (e :: es) X.env = (false, eval e X.env) :: starEach es X.env := by rfl) (hpl : (backTo pos (starEach es X.env)).any (·.1) = false := by rfl) : JE X (.Call (.Name x p) (e :: es) [] pos) (dListV t) := ⟨have ha := ha.out; (pe_frz (pe_callTy call_list_of hg hm hv ha hn hdb he hpl)).imp (by rintro σ H Q ⟨e, M, R, ok, am, t, f⟩; exact ⟨e, M, _, ok, am, t, fun ds M1 ⟨d, ys, z, sq, r⟩ vs H1 k1 a1 r1 => by
    subst z
    obtain ⟨v, rfl, hv⟩ := r1.one
    obtain ⟨a, xs, rfl, q1, m1⟩ := seqD_has sq a1 hv
    refine ⟨a, xs, rfl, ?_, fun p hp => frz_new f k1 a1 m1 r p hp⟩
    cases hk : kindD d with
    | true => rw [hk] at q1; exact .inl q1
    | false => rw [hk] at q1; exact .inr q1⟩)⟩
variable {te : DTE} {pos' : Pos}
end
section
variable {X : Cx}

noncomputable def gInC (neg : Bool) : DR2 := fun x y M R => ∃ ds, cl 60 x = true ∧ seqD M y ds ∧ clL 59 ds = true ∧ R (.bl (neg.xor (@decide (x ∈ ds) (Classical.propDecidable _)))) M
noncomputable def sameAs (h : Heap) (p : PyData) (y : Value) : Bool := @decide (∃ d as, Reads h y d as ∧ PyData.eqv d p = true) (Classical.propDecidable _)
theorem sameAs_of {h : Heap} {p d : PyData} {y : Value} {as : List Addr} (c : d.canLay0 = true) (r : Reads h y d as) : sameAs h p y = PyData.eqv d p := by
  unfold sameAs
  cases e : PyData.eqv d p with
  | true => exact @decide_eq_true _ (Classical.propDecidable _) ⟨d, as, r, e⟩
  | false =>
    refine @decide_eq_false _ (Classical.propDecidable _) ?_
    rintro ⟨d', as', r', e'⟩
    rw [← SeqAt.Reads.unique d d' y as as' c r r', e] at e'
    cases e'
theorem same_items {X : Cx} {pins : List (Addr × Obj)} {s : Shared} {σ : St} {H : Hp} {M : Mem} {B : Around} {x : D} {u : Value} {bs : List Addr} (I : Inv X pins σ H s) (am : AbsM X.K H M) (hB : B.units + 62 < cLine) (cx : cl 60 x = true) (rx : Reads s.heap u (pyD x) bs) :
    ∀ {ds : List D} {vs : List V} {us : List Value}, clL 59 ds = true → HasL X.K H vs ds → Vals vs us → (∀ w ∈ us, SeqAt.EqAt B s w u (sameAs s.heap (pyD x) w)) ∧ us.any (sameAs s.heap (pyD x)) = @decide (x ∈ ds) (Classical.propDecidable _)
  | [], _, _, _, h, r => by
    cases h; cases r
    refine ⟨fun w hw => (nomatch hw), ?_⟩
    rw [List.any_nil]
    exact (@decide_eq_false _ (Classical.propDecidable _) (fun z => nomatch z)).symm
  | d :: ds, _, _, c, h, r => by
    cases h with
    | cons h hl =>
      cases r with
      | cons r rl =>
        have c' : cl 59 d = true ∧ clL 59 ds = true := by simpa [clL] using c
        obtain ⟨ih1, ih2⟩ := same_items I am hB cx rx c'.2 hl rl
        obtain ⟨p1, p2, p3⟩ := cl_py (M := M) c'.1
        obtain ⟨q1, q2, q3⟩ := cl_py (M := M) cx
        obtain ⟨as, rd⟩ := reads_of I am p1 h r
        have es := sameAs_of (p := pyD x) p2 rd
        refine ⟨fun w hw => ?_, ?_⟩
        · rcases List.mem_cons.mp hw with rfl | hw
          · rw [es]
            exact SeqAt.eqAt_reads _ _ B s _ _ _ _ rd rx p2 q2 (by have := Nat.min_le_left (pyD d).depth (pyD x).depth; omega)
          · exact ih1 w hw
        · rw [List.any_cons, es, ih2]
          have ev := cl_eqv c'.1 cx
          by_cases e : d = x
          · rw [ev.mpr e]
            exact (@decide_eq_true _ (Classical.propDecidable _) (by rw [e]; exact List.mem_cons_self)).symm
          · have : PyData.eqv (pyD d) (pyD x) = false := by
              cases z : PyData.eqv (pyD d) (pyD x) with
              | false => rfl
              | true => exact absurd (ev.mp z) e
            rw [this, Bool.false_or]
            congr 1
            refine propext ⟨fun z => List.mem_cons_of_mem _ z, fun z => ?_⟩
            rcases List.mem_cons.mp z with z | z
            · exact absurd z.symm e
            · exact z
theorem o_notinC (hu : X.A.units + 64 < cLine) : DOp X (compareOp .NotIn) (gInC true) := by
  intro pins s σ H x y v u Q I rx ry h
  obtain ⟨dx, dy, M, R, hx, hy, am, ⟨ds, c1, sq, c2, r⟩, f⟩ := h
  obtain ⟨a, xs, rfl, q1, m1⟩ := seqD_has sq am hy
  cases ry
  obtain ⟨bs, rd⟩ := reads_of I am (cl_py (M := M) c1).1 hx rx
  have fin := f _ M r _ H (KT.refl H) am (.bl _)
  cases hk : kindD dy with
  | true =>
    rw [hk] at q1
    obtain ⟨its, rv, pl, hz⟩ := I.list q1
    obtain ⟨i1, i2⟩ := same_items (B := X.A.in1) I am (by show X.A.units + 1 + 62 < cLine; omega) c1 rd c2 m1 rv
    refine SeqAt.notIn_listAt (sameAs s.heap (pyD dx)) pl.isList (fun w hw => i1 w (by simpa using hw)) ⟨.bl _, H, I, rfl, ?_⟩
    rw [show its.toArray.any (sameAs s.heap (pyD dx)) = its.any (sameAs s.heap (pyD dx)) by simp, i2]
    simpa using fin
  | false =>
    rw [hk] at q1
    obtain ⟨its, rv, pl, hz⟩ := I.tuple q1
    obtain ⟨i1, i2⟩ := same_items (B := X.A.in1) I am (by show X.A.units + 1 + 62 < cLine; omega) c1 rd c2 m1 rv
    refine SeqAt.notIn_tupleAt (sameAs s.heap (pyD dx)) pl (fun w hw => i1 w (by simpa using hw)) ⟨.bl _, H, I, rfl, ?_⟩
    rw [show its.toArray.any (sameAs s.heap (pyD dx)) = its.any (sameAs s.heap (pyD dx)) by simp, i2]
    simpa using fin
open Classical in
/-- == and != of a list that may still be written and a value -/
noncomputable def gEqR (neg : Bool) : DR2 := fun x y M R => ∃ p xs ys, x = .ref p ∧ y = .vl ys ∧ M p = some (.lst xs) ∧ clL 50 xs = true ∧ clL 50 ys = true ∧ R (.bl (neg.xor (decide (xs = ys)))) M
open Classical in
theorem gEqR_gEq {neg : Bool} {x y : D} {M : Mem} {R : DK} (h : gEqR neg x y M R) : gEq neg x y M R := by
  obtain ⟨p, xs, ys, rfl, rfl, h1, c1, c2, r⟩ := h
  obtain ⟨a, b, c⟩ := clL_py (M := M) c1
  obtain ⟨a2, b2, c2'⟩ := clL_py (M := M) c2
  refine ⟨_, _, .lst h1 a, .vl a2, ?_, ?_, ?_⟩
  · simp only [SeqAt.shaped, PyData.canLay0, b, Bool.true_and, PyData.depth]; exact decide_eq_true (by omega)
  · simp only [SeqAt.shaped, PyData.canLay0, b2, Bool.true_and, PyData.depth]; exact decide_eq_true (by omega)
  · have e : PyData.eqv (.list (pyDL xs)) (.list (pyDL ys)) = decide (xs = ys) := by
      have := clL_eqv c1 c2
      simp only [PyData.eqv]
      by_cases q : xs = ys
      · rw [decide_eq_true q]; exact this.mpr q
      · rw [decide_eq_false q]
        cases z : PyData.eqvAll (pyDL xs) (pyDL ys) with
        | false => rfl
        | true => exact absurd (this.mp z) q
    rw [e]; exact r
theorem o_eqR (hu : X.A.units + 64 < cLine) : DOp X (compareOp .Eq) (gEqR false) := OpR.imp (o_eq hu) (by rintro _ _ _ _ ⟨dx, dy, M, R, hx, hy, am, h, f⟩; exact ⟨dx, dy, M, R, hx, hy, am, gEqR_gEq h, f⟩)
end

noncomputable abbrev DTIfs := Ev → Mem → (Bool → Mem → Prop) → Prop
noncomputable abbrev DPIfs (X : Cx) (ifs : List Expr) (t : DTIfs) : Prop := PIfs X ifs (upT X.K t)
structure JIfs (X : Cx) (ifs : List Expr) (t : DTIfs) : Prop where
  out : DPIfs X ifs t
noncomputable def dYes : DTIfs := fun _ M R => R true M
theorem PIfs.imp {X : Cx} {ifs : List Expr} {t t' : TT} (h : PIfs X ifs t) (i : ∀ σ H Q, t' σ H Q → t σ H Q) : PIfs X ifs t' := fun pins s σ H Q I q => h pins s σ H Q I (i σ H Q q)
theorem jdifs_nil {X : Cx} : JIfs X [] dYes := ⟨PIfs.imp pifs_nil (by rintro σ H Q ⟨e, M, R, ok, am, t, f⟩; exact f true M t H (KT.refl H) am)⟩
theorem jdifs_one {X : Cx} {c : Expr} {t : DTT} (h : JT X c t) : JIfs X [c] t := ⟨have h := h.out; pifs_one h⟩
structure CompW (e0 : Ev) (g : DTG) (tc : DTIfs) (te : DTE) (ds : List D) (stay : Mem → Prop) (M1 : Mem) (E : List D → Mem → Prop) (W : Nat → List D → Mem → Prop) : Prop where
  start : W 0 [] M1
  stays : ∀ i ys M, i ≤ ds.length → W i ys M → stay M
  turn : ∀ (i : Nat) (d : D) ys M, ds[i]? = some d → W i ys M → g d e0 M fun e2 M2 => tc e2 M2 fun b M3 => if b = true then te e2 M3 fun v M4 => ys.length < sizeLine ∧ W (i + 1) (ys ++ [v]) M4 else W (i + 1) ys M3
  done : ∀ ys M, W ds.length ys M → E ys M
noncomputable def CompV (e0 : Ev) (g : DTG) (tc : DTIfs) (te : DTE) (ds : List D) (stay : Mem → Prop) (M1 : Mem) (R : DK) : Prop := ∃ W, CompW e0 g tc te ds stay M1 (fun ys M => R (.vl ys) M) W
noncomputable def dCompV (n : Nat) (caps : List Nat) (ti : DTI) (g : DTG) (tc : DTIfs) (te : DTE) : DTE := fun e M R => ti e M fun ds stay M1 => CompV (capE n caps e) g tc te ds stay M1 R
section
variable {X : Cx} {elt tg iter : Expr} {scope : Scope} {tgs cps : List Str} {caps : List Nat} {ti : DTI} {g : DTG} {tc : DTIfs} {te : DTE} {pos : Pos} {ifs : List Expr}
noncomputable def CWH (K : PySem.W.Frag) (H1 : Hp) (D0 : Addr) (len : Nat) (W : Nat → List D → Mem → Prop) (i m : Nat) (H' : Hp) : Prop := m = len - i ∧ i ≤ len ∧ ∃ M' ys xs, KT H1 H' ∧ AbsM K H' M' ∧ H' D0 = some (.lst xs) ∧ M' D0 = none ∧ HasL K H' xs ys ∧ W i ys M'
theorem comp_loop {K : PySem.W.Frag} {H1 : Hp} {J : It} {ds : List D} {stay : Mem → Prop} {M1 : Mem} {n : Nat} {caps : List Nat} {σ : St} {e : Ev} {E : List D → Mem → Prop} {W : Nat → List D → Mem → Prop} {D0 : Addr} {Qd : Hp → Prop} (ok : EnvOk K H1 σ e) (a1 : AbsM K H1 M1) (wk : Walk K H1 J ds stay) (hD : H1 D0 = none)
    (C : CompW (capE n caps e) g tc te ds stay M1 E W) (fin : ∀ ys M xs H', KT H1 H' → AbsM K H' M → H' D0 = some (.lst xs) → M D0 = none → HasL K H' xs ys → E ys M → Qd H') (i m : Nat) (H2 : Hp) (w : CWH K H1 D0 ds.length W i m H2) :
    (J.stop i H2 ∧ Qd H2) ∨ (J.go i H2 ∧ ∀ x H', J.yld i H2 x H' → (∃ p, tHideG p (upG K g) x (capF n caps σ) H' fun σ2 H3 => ∃ p, tHideT p (upT K tc) σ2 H3 fun b H3' => if b = true then ∃ p, tHide p (up K te) σ2 H3' fun v H4 =>
      ∃ ys, H4 D0 = some (.lst ys) ∧ ys.length < sizeLine ∧ ∃ m', m' < m ∧ CWH K H1 D0 ds.length W (i + 1) m' (upd H4 D0 (.lst (ys ++ [v]))) else ∃ m', m' < m ∧ CWH K H1 D0 ds.length W (i + 1) m' H3')) := by
  obtain ⟨rfl, hi, M2, ys, xs, k2, a2, hx, hM, lx, w2⟩ := w
  have a2' : AbsM K H2 (updM M2 D0 (.lst ys)) := fun a o q => by
    by_cases e : a = D0
    · subst e; rw [updM_same] at q; cases q; exact ⟨xs, hx, lx⟩
    · rw [updM_ne e] at q; exact a2 a o q
  have st := wk.up _ D0 (.lst ys) (C.stays i ys M2 hi w2) hM
  by_cases hlt : i < ds.length
  · refine .inr ⟨wk.go i H2 _ hlt k2 a2' st, fun y H' yl => ?_⟩
    obtain ⟨d, hd, k3, a3', r⟩ := wk.yld i H2 _ y H' hlt k2 a2' st yl
    obtain ⟨xs', hx', lx'⟩ := a3'.lst updM_same
    have a3 : AbsM K H' M2 := fun a o q => by
      have e : a ≠ D0 := by intro e; subst e; rw [hM] at q; cases q
      exact a3' a o (by rw [updM_ne e]; exact q)
    have kh : KT H' (upd H' D0 (hidO D0 xs')) := KT.any hx'
    have k1h := (k2.trans k3).trans kh
    have same : ∀ {H3 : Hp}, H3 D0 = some (hidO D0 xs') → upd (upd H3 D0 (.lst xs')) D0 (hidO D0 xs') = H3 := fun {H3} q => by
      rw [upd_upd]; funext b; by_cases e : b = D0
      · subst e; rw [upd_same, q]
      · rw [upd_ne e]
    refine ⟨D0, xs', hx', d, capE n caps e, M2, _, r.mono kh, env_cap n caps (ok.mono k1h), a3.at kh.toKT0 hM, C.turn i d ys M2 hd w2, fun e3 M3 h3 σ3 H3 k4 a4 ok3 => ?_⟩
    have q3 : H3 D0 = some (hidO D0 xs') := k4.ex D0 _ upd_same
    refine ⟨q3, D0, xs', upd_same, ?_⟩
    rw [same q3]
    refine ⟨e3, M3, _, ok3, a4, h3, fun b M4 h4 H4 k5 a5 => ?_⟩
    have q4 : H4 D0 = some (hidO D0 xs') := k5.ex D0 _ q3
    refine ⟨q4, ?_⟩
    have kk := k1h.trans (k4.trans k5)
    cases b with
    | false =>
      have h4' : W (i + 1) ys M4 := h4
      show ∃ m', m' < ds.length - i ∧ CWH K H1 D0 ds.length W (i + 1) m' (upd H4 D0 (.lst xs'))
      exact ⟨ds.length - (i + 1), by omega, rfl, hlt, M4, ys, xs', kk.new hD, a5.at (KT0.ext q4) (a5.none_ext q4), upd_same, a5.none_ext q4, (lx'.mono (kh.trans (k4.trans k5))).mono0 (KT0.ext q4), h4'⟩
    | true =>
      show ∃ p, tHide p (up K te) σ3 (upd H4 D0 (.lst xs')) _
      refine ⟨D0, xs', upd_same, ?_⟩
      rw [same q4]
      refine ⟨e3, M4, _, ok3.mono k5, a5, h4, fun dv M5 ⟨hz, w5⟩ vv H5 k6 a6 r6 => ?_⟩
      have q5 : H5 D0 = some (hidO D0 xs') := k6.ex D0 _ q4
      refine ⟨q5, xs', upd_same, by rw [lx'.length]; exact hz, ds.length - (i + 1), by omega, rfl, hlt, M5, ys ++ [dv], xs' ++ [vv], ?_, ?_, upd_same, a6.none_ext q5, ?_, w5⟩
      · rw [upd_upd]; exact (kk.trans k6).new hD
      · rw [upd_upd]; exact a6.at (KT0.ext q5) (a6.none_ext q5)
      · rw [upd_upd]; exact ((lx'.mono (kh.trans (k4.trans (k5.trans k6)))).mono0 (KT0.ext q5)).append (.cons (r6.mono0 (KT0.ext q5)) .nil)
  · have e' : i = ds.length := by omega
    subst e'
    exact .inl ⟨wk.stop _ H2 _ (Nat.le_refl _) k2 a2' st, fin ys M2 xs H2 k2 a2 hx hM lx (C.done ys M2 w2)⟩
theorem jd_compV (caps : List Nat) (tgs cps : List Str) (hc : X.calm = true) (hcell : ∀ x ∈ scope.names, x.2 ≠ .cell) (hkind : scope.kind = .function) (hnames : ∀ x ∈ scope.names, x.2 = .local → scope.names.lookup x.1 = some .local)
    (hfr : ∀ x ∈ scope.names, x.2 = .free → x.1 ∈ cps) (hN : caps.map (fun i => X.N[i]?) = cps.map some) (hX : ∀ x ∈ cps, X.env.scope.names.lookup x = some .cell ∧ scope.names.lookup x = some .free)
    (hsc : ∀ x ∈ cps, (relabel scope X.env).names.lookup x = some .cell ∨ (relabel scope X.env).names.lookup x = some .free)
    (hi : JI X tg iter ti) (hg : ∀ cl s3 H3 C fp pins, JG (cxF X scope cl (tgs ++ cps) s3 H3 C fp pins) tg g) (hq : ∀ cl s3 H3 C fp pins, JIfs (cxF X scope cl (tgs ++ cps) s3 H3 C fp pins) ifs tc) (he : ∀ cl s3 H3 C fp pins, JE (cxF X scope cl (tgs ++ cps) s3 H3 C fp pins) elt te)
    (hs : ∀ x, foldedSetIterable iter X.env x = pure x := by intro _; rfl) : JE X (.ListComp elt [⟨tg, iter, ifs, 0⟩] scope pos) (dCompV tgs.length caps ti g tc te) := ⟨have hi := hi.out; have hg := fun v0 v1 v2 v3 v4 v5 => (hg v0 v1 v2 v3 v4 v5).out; have hq := fun v0 v1 v2 v3 v4 v5 => (hq v0 v1 v2 v3 v4 v5).out; have he := fun v0 v1 v2 v3 v4 v5 => (he v0 v1 v2 v3 v4 v5).out; (pe_frz (pe_compF (tgs := tgs) (cps := cps) (caps := caps) hc hcell hkind hnames hfr hN hX hsc hi (fun cl s3 H3 C fp pins => pg_hide (hg cl s3 H3 C fp pins)) (fun cl s3 H3 C fp pins => pifs_hide (hq cl s3 H3 C fp pins)) (fun cl s3 H3 C fp pins => pe_hide (he cl s3 H3 C fp pins)) hs)).imp (by rintro σ H Q ⟨e, M, R, ok, am, t, f⟩; exact ⟨e, M, _, ok, am, t, fun ds stay M1 hW H1 k1 a1 J wk => by
    intro D0 hD
    obtain ⟨W, C⟩ := hW
    refine ⟨fun i m H' => CWH X.K H1 D0 ds.length W i m H', ⟨ds.length, by simp, Nat.zero_le _, M1, [], [], KT.alloc hD, a1.alloc hD, upd_same, a1.fresh hD, .nil, C.start⟩, fun i m H2 w => comp_loop (Qd := fun H' => ∃ p xs, V.ref D0 = .ref p ∧ H' p = some (.lst xs) ∧ ∀ o, Q (.ref D0) (upd H' p (.frz o (.lst xs)))) (ok.mono k1) a1 wk hD C (fun ys M2 xs H' k2 a2 hx hM lx r => ?_) i m H2 w⟩
    exact ⟨D0, xs, rfl, hx, fun o => f _ M2 r _ _ (k1.trans (k2.trans (KT.any hx))) (a2.at (KT.any hx).toKT0 hM) (.vl (.inl ⟨o, upd_same⟩) (lx.mono (KT.any hx)))⟩⟩)⟩
theorem jds_setCompV {i : Nat} {x : Str} {pos' pos2 : Pos} (caps : List Nat) (tgs cps : List Str) (hNd : X.N.Nodup) (hxi : X.N[i]? = some x) (hx : Loc X.env.scope x) (hc : X.calm = true) (hcell : ∀ x ∈ scope.names, x.2 ≠ .cell) (hkind : scope.kind = .function) (hnames : ∀ x ∈ scope.names, x.2 = .local → scope.names.lookup x.1 = some .local)
    (hfr : ∀ x ∈ scope.names, x.2 = .free → x.1 ∈ cps) (hN : caps.map (fun i => X.N[i]?) = cps.map some) (hX : ∀ x ∈ cps, X.env.scope.names.lookup x = some .cell ∧ scope.names.lookup x = some .free)
    (hsc : ∀ x ∈ cps, (relabel scope X.env).names.lookup x = some .cell ∨ (relabel scope X.env).names.lookup x = some .free)
    (hi : JI X tg iter ti) (hg : ∀ cl s3 H3 C fp pins, JG (cxF X scope cl (tgs ++ cps) s3 H3 C fp pins) tg g) (hq : ∀ cl s3 H3 C fp pins, JIfs (cxF X scope cl (tgs ++ cps) s3 H3 C fp pins) ifs tc) (he : ∀ cl s3 H3 C fp pins, JE (cxF X scope cl (tgs ++ cps) s3 H3 C fp pins) elt te)
    (hsw : swapsWith (.ListComp elt [⟨tg, iter, ifs, 0⟩] scope pos) (some (.Name x pos')) pos2.line X.env = pure true := by rfl) (hs : ∀ x, foldedSetIterable iter X.env x = pure x := by intro _; rfl) (hf : X.fn x = true ∨ X.env.scope.names.lookup x = some .local := by first | exact .inl rfl | exact .inr rfl | assumption) : JS X (.Assign [.Name x pos'] (.ListComp elt [⟨tg, iter, ifs, 0⟩] scope pos) pos2) (dAsg (dCompV tgs.length caps ti g tc te) (dgName i)) := ⟨have hi := hi.out; have hg := fun v0 v1 v2 v3 v4 v5 => (hg v0 v1 v2 v3 v4 v5).out; have hq := fun v0 v1 v2 v3 v4 v5 => (hq v0 v1 v2 v3 v4 v5).out; have he := fun v0 v1 v2 v3 v4 v5 => (he v0 v1 v2 v3 v4 v5).out; (ps_setU (pu_frz (pu_compF (tgs := tgs) (cps := cps) (caps := caps) hc hcell hkind hnames hfr hN hX hsc hi (fun cl s3 H3 C fp pins => pg_hide (hg cl s3 H3 C fp pins)) (fun cl s3 H3 C fp pins => pifs_hide (hq cl s3 H3 C fp pins)) (fun cl s3 H3 C fp pins => pe_hide (he cl s3 H3 C fp pins)) hNd hxi hx hf hs)) hsw).imp (by rintro E σ H ⟨e, M, F, ok, am, t, f⟩; exact ⟨e, M, _, ok, am, t, fun ds stay M1 hW H1 k1 a1 J wk => by
    intro D0 hD
    obtain ⟨W, C⟩ := hW
    refine ⟨fun i m H' => CWH X.K H1 D0 ds.length W i m H', ⟨ds.length, by simp, Nat.zero_le _, M1, [], [], KT.alloc hD, a1.alloc hD, upd_same, a1.fresh hD, .nil, C.start⟩, fun j m H2 w => comp_loop (Qd := fun H' => ∃ p xs, V.ref D0 = .ref p ∧ H' p = some (.lst xs) ∧ ∀ o, E.nx (σ.set i (some (.ref D0))) (upd H' p (.frz o (.lst xs)))) (ok.mono k1) a1 wk hD C (fun ys M2 xs H' k2 a2 hx hM lx r => ?_) j m H2 w⟩
    exact ⟨D0, xs, rfl, hx, fun o => f.nx _ M2 r _ _ (k1.trans (k2.trans (KT.any hx))) (a2.at (KT.any hx).toKT0 hM) ((ok.mono (k1.trans (k2.trans (KT.any hx)))).set (.vl (.inl ⟨o, upd_same⟩) (lx.mono (KT.any hx))) i)⟩⟩)⟩
end
section
variable {X : Cx} {e : Expr} {te : DTE} {p1 p2 pos pos2 : Pos}
theorem SqL.upd {K : PySem.W.Frag} {H : Hp} {a it : Addr} {xs : List V} {o : HO} (h : SqL K H a xs) (ne : a ≠ it) : SqL K (upd H it o) a xs := h.elim (fun z => .inl (by unfold Rd at z ⊢; rw [upd_ne ne]; exact z)) .inr
theorem SqK.upd {K : PySem.W.Frag} {k : Bool} {H : Hp} {a it : Addr} {xs : List V} {o : HO} (h : SqK K k H a xs) (ne : a ≠ it) : SqK K k (L2.upd H it o) a xs := by
  cases k with
  | true => exact SqL.upd (show SqL K H a xs from h) ne
  | false => exact (show SqT K H a xs from h).elim (fun z => .inl (by unfold Rd at z ⊢; rw [upd_ne ne]; exact z)) .inr
noncomputable def dgTupL (n : Nat) (t : DTGs) : DTG := fun d e M R => ∃ ds, itemsD M d = some ds ∧ ds.length = n ∧ t ds e M R
theorem jdg_tupL {xs : List Expr} {k : Nat} {t : DTGs} {n : Nat} (hc : X.calm = true) (h : JGs X xs t)
    (hn : (assignEach xs X.env).length = n := by rfl) (hst : (assignEach xs X.env).findIdx? (·.1) = none := by rfl) : JG X (.Tuple xs k pos) (dgTupL n t) := ⟨have h := h.out; PG.imp (pg_tupL hc h hn hst) (by
    rintro v σ H Q ⟨d, e, M, R, r, ok, am, ⟨ds, hi, hl, g⟩, f⟩
    obtain ⟨a, xs, e1, sq, lx⟩ := itemsD_has am r hi
    exact ⟨a, xs, e1, sq, by rw [lx.length]; exact hl, ds, e, M, R, lx, ok, am, g, f⟩)⟩
end
end DL
namespace L2
open PySem PySem.Spec PyProof.Rows

section
variable {X : Cx} {pos : Pos}
end
end L2
namespace DL
open PySem PySem.Spec L2
open PyProof.Rows hiding St
end DL

namespace DL
open PySem PySem.Spec L2
open PyProof.Rows hiding St

section
variable {X : Cx}
end
end DL
namespace DL
open PySem PySem.Spec L2
open PyProof.Rows hiding St

section
variable {X : Cx}
end
section
variable {X : Cx} {a b c : Expr} {ta tb tc : DTE} {pos : Pos}
noncomputable def dChain (g g' : DR2) (ta tb tc : DTE) : DTE := fun e M R => ta e M fun x M1 => tb e M1 fun y M2 => g x y M2 fun z M3 => ∃ k, z = .bl k ∧ (if k = true then tc e M3 fun w M4 => g' y w M4 R else R (.bl false) M3)
theorem chain_up {ta tb tc : DTE} {g g' : DR2} {σ : St} {H : Hp} {Q : VK} (h : up X.K (dChain g g' ta tb tc) σ H Q) : tChain (upR X.K g) (upR X.K g') (up X.K ta) (up X.K tb) (up X.K tc) σ H Q := by
  obtain ⟨e, M, R, ok, am, t, f⟩ := h
  refine ⟨e, M, _, ok, am, t, fun x M1 h1 v H1 k1 a1 r1 => ?_⟩
  refine ⟨e, M1, _, ok.mono k1, a1, h1, fun y M2 h2 u H2 k2 a2 r2 => ?_⟩
  refine ⟨x, y, M2, _, r1.mono k2, r2, a2, h2, fun z M3 h3 v3 H3 k3 a3 r3 => ?_⟩
  obtain ⟨k, rfl, h3⟩ := h3
  cases r3
  refine ⟨k, rfl, ?_⟩
  have k13 := (k1.trans k2).trans k3
  cases k with
  | true =>
    refine ⟨e, M3, _, ok.mono k13, a3, h3, fun q M4 h4 v4 H4 k4 a4 r4 => ?_⟩
    exact ⟨y, q, M4, R, r2.mono (k3.trans k4), r4, a4, h4, f.mono (k13.trans k4)⟩
  | false => exact f _ M3 h3 _ H3 k13 a3 (.bl _)
theorem jd_tchain {op op' : CmpOp} {g g' : DR2} (ho : DOp X (compareOp op) g) (ho' : DOp X (compareOp op') g') (ha : JE X a ta) (hb : JE X b tb) (hc : JE X c tc) (hm : lastMarks [op, op'] [b, c] = false := by with_unfolding_all rfl) : JT X (.Compare a [op, op'] [b, c] pos) (dTest (dChain g g' ta tb tc)) := ⟨have ha := ha.out; have hb := hb.out; have hc := hc.out; (pt_chain ho ho' ha hb hc hm).imp (by rintro σ H Q ⟨e, M, R, ok, am, t, f⟩; exact chain_up (Q := fun x H' => ∃ k, x = .bl k ∧ Q k H') ⟨e, M, _, ok, am, t, test_fit f⟩)⟩
end

section
variable {K : PySem.W.Frag}
end
end DL
namespace DL
open PySem PySem.Spec L2
open PyProof.Rows hiding St

section
variable {X : Cx} {x : Expr} {t : DTE}
end
end DL

namespace DL
open PySem PySem.Spec L2
open PyProof.Rows hiding St
noncomputable def nones (X : Cx) : St := List.replicate X.N.length none
noncomputable def Cov (B s0 : Heap) (H' : Hp) (fs : List Addr) (h : Heap) : Prop := ∀ b o, h.get? b = some o → ((∃ u, H' b = some u) ∨ ∃ o0, s0.get? b = some o0) → b ∉ fs → B.get? b = some o
noncomputable def Air (B : Heap) (l : List Env) (a : Addr) (cls a0 : Value) (h : Heap) : Prop := Heap.FlyingW B l a cls a0 h ∨ ∃ env l' L, l = env :: l' ∧ env.frame = some L ∧ Heap.HeldW B l a cls a0 L h
section
variable {M : Model} {A : Around} {E : Value → Shared → Prop} {s : Shared} {B : Heap} {l outer : List Env} {env : Env} {L a : Addr} {cls a0 : Value} {Q : Unit → Shared → Prop}
theorem Air.frames {h : Heap} (x : Air B l a cls a0 h) : h.FunFrames B l := by
  rcases x with x | ⟨_, _, _, _, _, x⟩
  · exact x.2.2.1
  · exact x.2.2.1
theorem Air.base {h : Heap} (x : Air B l a cls a0 h) : B.StaysIn h ∧ B.get? a = none := by
  rcases x with x | ⟨_, _, _, _, _, x⟩
  · exact ⟨x.1, x.2.1⟩
  · exact ⟨x.1, x.2.1⟩
theorem Air.data {h : Heap} (x : Air B l a cls a0 h) : ∃ oe vs, h.get? a = some oe ∧ oe.data = .fields vs := by
  rcases x with ⟨_, _, _, oe, vs, _, _, _, h1, _, h2, _⟩ | ⟨_, _, _, _, _, _, _, _, oe, vs, _, _, _, h1, _, h2, _⟩ <;> exact ⟨oe, vs, h1, h2⟩
end
noncomputable def XP (X : Cx) (mk : Bool) (EX : Value → Hp → Prop) : Value → Shared → Prop := fun e s' =>
  (mk = true ∧ ∃ a cls h vs H', e = .ref a ∧ EX cls H' ∧ Heap.MadeExcOf h s'.heap a cls vs ∧ Inv X [] (nones X) H' { s' with heap := h }) ∨
  (∃ pins σ Hc sc a cls a0 H' B, Inv X pins σ Hc sc ∧ e = .ref a ∧ s'.os = sc.os ∧ AllBare s'.gens ∧ Un (frs X.stack) [] Hc H' sc.heap s'.heap ∧ HOk X.prog X.w H' s'.heap ∧
    X.base.StaysIn B ∧ Cov B sc.heap H' (frs X.stack) s'.heap ∧ Air B X.stack a cls a0 s'.heap ∧ EX cls H')
section
variable {P : Program} {w : World} {K : PySem.W.Frag} {mg : Str → Option Value} {base : Heap} {N : List Str} {qual : Str} {scope : Scope} {f : Addr} {cd : Value} {A : Around} {outer : List Env} {s : Shared} {H : Hp} {E : XK}
end
noncomputable def xN (x : Str) : Value := .str x 0
noncomputable def EXof (X : Cx) (H₀ : Hp) (Y : DXK) : Value → Hp → Prop := fun c H' => KT H₀ H' ∧ ∃ (x : Str) (C : Addr) (M' : Mem), c = .ref C ∧ X.mg x = some (.ref C) ∧ AbsM X.K H' M' ∧ Y (xN x) M'
noncomputable abbrev Cx.ex' (X : Cx) (mk : Bool) (H₀ : Hp) (Y : DXK) : Cx := X.wish (XP X mk (EXof X H₀ Y))
section
variable {X : Cx} {mk : Bool} {H₀ : Hp} {Y : DXK} {st : Stmt} {rest : List Stmt} {t u : DTS} {pos : Pos}
end
section
variable {P : Program} {w : World} {K : PySem.W.Frag} {mg : Str → Option Value} {base : Heap}
end
section
variable {X : Cx} {mk : Bool} {H₀ : Hp} {Y : DXK} {pos cpos : Pos} {x : Str} {j : Nat} {ps : List Str} {sp : DSp} {p : Pos} {e : Expr} {es : List Expr} {t : DTA}
end
section
variable {X : Cx} {mk : Bool} {H₀ : Hp} {Y : DXK} {pos : Pos} {e : Expr} {te : DTE}
end
section
variable {X : Cx} {mk : Bool} {EX : Value → Hp → Prop}
end
section
variable {X : Cx} {mk : Bool} {H₀ : Hp} {Y : DXK} {pos : Pos} {c : Expr} {body : List Stmt} {tc : DTT} {tb : DTS}
end
section
variable {X : Cx} {H₀ : Hp} {Y : DXK} {pos cpos np : Pos} {x : Str} {e₀ : Expr} {te : DTE}
end
noncomputable abbrev Cx.pinned (X : Cx) (pn : List (Addr × Obj)) : Cx := { X with pn := pn }
noncomputable abbrev Cx.hand (X : Cx) (a : Addr) : Cx := { X with A := X.A.mark (some (.ref a)), calm := false }
section
variable {X : Cx} {pins pn : List (Addr × Obj)} {σ : St} {H : Hp} {s : Shared}
end
section
variable {X : Cx} {body suite : List Stmt} {b0 : Stmt} {c : Str} {np hpos pos : Pos} {tb : DXK → DTS} {ts : DTS}
end
section
variable {X : Cx} {body suite : List Stmt} {b0 : Stmt} {c : Str} {np hpos pos : Pos} {tb : DXK → DTS} {ts : DTS}
end
end DL

namespace DL
open PySem PySem.Spec L2
noncomputable def BlK (x : D) (M : Mem) (Q : Bool → Mem → Prop) : Prop := ∃ k, x = .bl k ∧ Q k M
noncomputable def IfK (c : Bool) (A B : Prop) : Prop := if c = true then A else B
noncomputable def SzK (n : Nat) (A : Prop) : Prop := n ≤ sizeLine ∧ A
noncomputable def ParK (i j : Nat) (ds : List D) (F : DEnds) (e : Ev) (M : Mem) : Prop := ∃ x y, ds = [x, y] ∧ F.nx ((e.set i (some x)).set j (some y)) M
noncomputable def SeqK (x : D) (M : Mem) (Q : List D → (Mem → Prop) → Mem → Prop) : Prop := ∃ ds, seqD M x ds ∧ Q ds (fun M' => seqD M' x ds) M
noncomputable def EnumK (xs : List D) (M : Mem) (Q : List D → (Mem → Prop) → Mem → Prop) : Prop := ∃ x ds, xs = [x] ∧ seqD M x ds ∧ Q (enumD ds) (fun M' => seqD M' x ds) M
noncomputable def ZipK (xs : List D) (M : Mem) (Q : List D → (Mem → Prop) → Mem → Prop) : Prop := ∃ x y ds es, xs = [x, y] ∧ seqD M x ds ∧ seqD M y es ∧ Q (zipD ds es) (fun M' => seqD M' x ds ∧ seqD M' y es) M
noncomputable def RngK (xs : List D) (M : Mem) (Q : List D → (Mem → Prop) → Mem → Prop) : Prop := ∃ j : Int, xs = [.int j] ∧ -(2 ^ 62) ≤ j ∧ j < 2 ^ 62 ∧ Q (rangeD 0 j.toNat) (fun _ => True) M
noncomputable def ForK (g : DTG) (tb : DTS) (F : DEnds) (ds : List D) (stay : Mem → Prop) (e : Ev) (M1 : Mem) : Prop := ∃ W : Nat → Ev → Mem → Prop, W 0 e M1 ∧ (∀ i e M, i ≤ ds.length → W i e M → stay M) ∧
  (∀ (i : Nat) (d : D) e M, ds[i]? = some d → W i e M → g d e M fun e2 M2 => tb { F with nx := W (i + 1), ct := W (i + 1), bk := F.nx } e2 M2) ∧ ∀ e M, W ds.length e M → F.nx e M
noncomputable def FrzK (x : D) (M1 : Mem) (R : DK) : Prop := ∃ p ds, x = .ref p ∧ M1 p = some (.lst ds) ∧ R (.vl ds) (delM M1 p)
noncomputable def PartK (x : D) (M : Mem) (Q : Option Int → Mem → Prop) : Prop := ∃ i, x = .int i ∧ Q (some i) M
noncomputable def FgtK (x : D) (M1 : Mem) (R : DK) : Prop := ∃ M2 : Mem, (∀ b o, M2 b = some o → M1 b = some o) ∧ R x M2
noncomputable def LMK (x : D) (M : Mem) (A : Prop) : Prop := (∃ l ds, x = .ref l ∧ M l = some (.lst ds)) ∧ A
end DL
namespace DL
open PySem PySem.Spec L2
open PyProof.Rows hiding St

section
variable {e : Ev} {M : Mem} {R : DK} {F : DEnds} {ta tb tc : DTE} {tA tB : DTT} {tr : DTA} {t u : DTS}
theorem z_C {d : D} : dC d e M R = R d M := rfl
theorem z_Op {g : DR2} : dOp g ta tb e M R = ta e M fun x M1 => tb e M1 fun y M2 => g x y M2 R := rfl
theorem z_Un {g : D → Mem → DK → Prop} : dUn g ta e M R = ta e M fun x M1 => g x M1 R := rfl
theorem z_fI {f : Int → Int → D} {i j : Int} : gF (fI f) (.int i) (.int j) M R = R (f i j) M := propext ⟨fun zz => by obtain ⟨_, h, r⟩ := zz; cases h; exact r, fun r => ⟨_, rfl, r⟩⟩
theorem z_fB {f : Bool → Bool → D} {i j : Bool} : gF (fB f) (.bl i) (.bl j) M R = R (f i j) M := propext ⟨fun zz => by obtain ⟨_, h, r⟩ := zz; cases h; exact r, fun r => ⟨_, rfl, r⟩⟩
theorem z_fS {f : Str → Str → D} {i j : Str} : gF (fS f) (.str i) (.str j) M R = R (f i j) M := propext ⟨fun zz => by obtain ⟨_, h, r⟩ := zz; cases h; exact r, fun r => ⟨_, rfl, r⟩⟩
theorem z_gI {C : Int → Int → Prop} {f : Int → Int → D} {i j : Int} : gI C f (.int i) (.int j) M R = (C i j ∧ R (f i j) M) := propext ⟨fun zz => by obtain ⟨_, _, h1, h2, c, r⟩ := zz; cases h1; cases h2; exact ⟨c, r⟩, fun ⟨c, r⟩ => ⟨_, _, rfl, rfl, c, r⟩⟩
theorem z_gU {f : Int → D} {i : Int} : gU f (.int i) M R = R (f i) M := propext ⟨fun zz => by obtain ⟨_, h, r⟩ := zz; cases h; exact r, fun r => ⟨_, rfl, r⟩⟩
theorem z_Test {Q : Bool → Mem → Prop} : dTest ta e M Q = ta e M fun x M' => BlK x M' Q := rfl
theorem z_BlK {b : Bool} {Q : Bool → Mem → Prop} : BlK (.bl b) M Q = Q b M := propext ⟨fun zz => by obtain ⟨_, h, r⟩ := zz; cases h; exact r, fun r => ⟨_, rfl, r⟩⟩
theorem z_And {Q : Bool → Mem → Prop} : dAnd tA tB e M Q = tA e M fun c M1 => IfK c (tB e M1 Q) (Q false M1) := rfl
theorem z_Or {Q : Bool → Mem → Prop} : dOr tA tB e M Q = tA e M fun c M1 => IfK c (Q true M1) (tB e M1 Q) := rfl
theorem z_Not {Q : Bool → Mem → Prop} : dNot tA e M Q = tA e M fun c M1 => Q (!c) M1 := rfl
theorem z_AndV : dAndV ta tb e M R = ta e M fun x M1 => BlK x M1 fun c M1 => IfK c (tb e M1 R) (R (.bl false) M1) := rfl
theorem z_NotV : dNotV ta e M R = ta e M fun x M1 => BlK x M1 fun c M1 => R (.bl (!c)) M1 := rfl
theorem z_If : dIf tA ta tb e M R = tA e M fun c M1 => IfK c (ta e M1 R) (tb e M1 R) := rfl
theorem z_IfS : dIfS tA t u F e M = tA e M fun c M1 => IfK c (t F e M1) (u F e M1) := rfl
theorem z_Nil {Q : List D → Mem → Prop} : dNil e M Q = Q [] M := rfl
theorem z_Cons {Q : List D → Mem → Prop} : dCons ta tr e M Q = ta e M fun x M1 => tr e M1 fun xs M2 => Q (x :: xs) M2 := rfl
theorem z_Tup : dTup tr e M R = tr e M fun ds M1 => SzK ds.length (R (.tup ds) M1) := rfl
theorem z_Lst : dLst tr e M R = tr e M fun ds M1 => SzK ds.length (∀ p, M1 p = none → R (.ref p) (updM M1 p (.lst ds))) := rfl
theorem z_Ix {x y z : D} (h : ixD M x y = some z) : gIx x y M R = R z M := propext ⟨fun zz => by obtain ⟨_, h', r⟩ := zz; rw [h] at h'; cases h'; exact r, fun r => ⟨_, h, r⟩⟩
theorem z_Is {neg : Bool} {x y : D} {b : Bool} (h : isD x y = some b) : gIs neg x y M R = R (.bl (neg.xor b)) M := propext ⟨fun zz => by obtain ⟨_, h', r⟩ := zz; rw [h] at h'; cases h'; exact r, fun r => ⟨_, h, r⟩⟩
theorem z_EqC {neg : Bool} {x y : D} : gEqC neg x y M R = (cl 60 x = true ∧ cl 60 y = true ∧ R (.bl (neg.xor (@decide (x = y) (Classical.propDecidable _)))) M) := rfl
theorem z_Call {sp : DSp} {dds : List D} {Y : DXK} : dCall sp dds Y tr e M R = tr e M fun ds M1 => sp (ds ++ dds) M1 R Y := rfl
theorem z_CB {g : DRC} : dCB g tr e M R = tr e M fun ds M1 => g ds M1 R := rfl
theorem z_Next : dNext F e M = F.nx e M := rfl
theorem z_Seq : dSeq t u F e M = t { F with nx := u F } e M := rfl
theorem z_Drop : dDrop ta F e M = ta e M fun _ M1 => F.nx e M1 := rfl
theorem z_Ret : dRet ta F e M = ta e M F.rt := rfl
theorem z_Never : dNever F e M = False := rfl
variable {Q : Ev → Mem → Prop}
theorem z_gName {i : Nat} {d : D} : dgName i d e M Q = Q (e.set i (some d)) M := rfl
theorem z_gNil : dgNil [] e M Q = Q e M := propext ⟨fun h => h.2, fun h => ⟨rfl, h⟩⟩
theorem z_gCons {g : DTG} {gs : DTGs} {d : D} {ds : List D} : dgCons g gs (d :: ds) e M Q = g d e M fun e' M' => gs ds e' M' Q := propext ⟨fun zz => by obtain ⟨_, _, h, r⟩ := zz; cases h; exact r, fun r => ⟨_, _, rfl, r⟩⟩
theorem z_gTupLs {n : Nat} {gs : DTGs} {ds : List D} (h : ds.length = n) : dgTupL n gs (.vl ds) e M Q = gs ds e M Q := propext ⟨fun zz => by obtain ⟨_, h', _, r⟩ := zz; cases h'; exact r, fun r => ⟨_, rfl, h, r⟩⟩
theorem z_gTup {n : Nat} {gs : DTGs} {ds : List D} (h : ds.length = n) : dgTup n gs (.tup ds) e M Q = gs ds e M Q := propext ⟨fun zz => by obtain ⟨_, h', _, r⟩ := zz; cases h'; exact r, fun r => ⟨_, rfl, h, r⟩⟩
theorem z_gSub {to ti : DTE} {ts : DTSet} {d : D} : dgSub to ti ts d e M Q = to e M fun o M1 => ti e M1 fun i M2 => ts o i d M2 fun M3 => Q e M3 := rfl
theorem z_Asg {g : DTG} : dAsg ta g F e M = ta e M fun x M1 => g x e M1 F.nx := rfl
theorem z_Par {i j : Nat} : dPar i j tr F e M = tr e M fun ds M1 => ParK i j ds F e M1 := rfl
theorem z_ParK {i j : Nat} {x y : D} : ParK i j [x, y] F e M = F.nx ((e.set i (some x)).set j (some y)) M := propext ⟨fun zz => by obtain ⟨_, _, h, r⟩ := zz; cases h; exact r, fun r => ⟨_, _, rfl, r⟩⟩
theorem z_Abs {i : Int} : gAbs [.int i] M R = R (.int (i.natAbs : Int)) M := propext ⟨fun zz => by obtain ⟨_, h, r⟩ := zz; cases h; exact r, fun r => ⟨_, rfl, r⟩⟩
theorem z_Max {i j : Int} : gMax [.int i, .int j] M R = R (.int (max i j)) M := propext ⟨fun zz => by obtain ⟨_, _, h, r⟩ := zz; cases h; exact r, fun r => ⟨_, _, rfl, r⟩⟩
theorem z_Len {d : D} {n : Nat} (h : lenD M d = some n) : gLen [d] M R = R (.int (n : Int)) M := propext ⟨fun zz => by obtain ⟨_, _, h', h2, r⟩ := zz; cases h'; rw [h] at h2; cases h2; exact r, fun r => ⟨_, _, rfl, h, r⟩⟩
theorem z_Isi {d : D} {ty T : String} {b : Bool} (h1 : tyD M d = some ty) (h2 : subT ty T = some b) : gIsi [d, .ty T] M R = R (.bl b) M := propext ⟨fun zz => by
  obtain ⟨_, _, _, _, h, h1', h2', r⟩ := zz
  injection h with h h'; subst h; injection h' with h'; injection h' with h'; subst h'
  rw [h1] at h1'; cases h1'; rw [h2] at h2'; cases h2'; exact r, fun r => ⟨_, _, _, _, rfl, h1, h2, r⟩⟩
theorem z_IfK {c : Bool} {A B : Prop} : IfK c A B = ((c = true → A) ∧ (c = false → B)) := by cases c <;> simp [IfK]
theorem z_IfT {A B : Prop} : IfK true A B = A := by simp [IfK]
theorem z_IfF {A B : Prop} : IfK false A B = B := by simp [IfK]
theorem z_SzK {n : Nat} {A : Prop} (h : n ≤ 1000) : SzK n A = A := propext ⟨fun h => h.2, fun a => ⟨sl n h, a⟩⟩

theorem z_v0 {d : D} {r : Ev} : dVar 0 (some d :: r) M R = R d M := propext ⟨fun zz => by obtain ⟨_, h, q⟩ := zz; cases h; exact q, fun q => ⟨_, rfl, q⟩⟩
theorem z_s0 {y z : Option D} {r : Ev} : (y :: r : Ev).set 0 z = z :: r := rfl
theorem z_v1 {x0 : Option D} {d : D} {r : Ev} : dVar 1 (x0 :: some d :: r) M R = R d M := propext ⟨fun zz => by obtain ⟨_, h, q⟩ := zz; cases h; exact q, fun q => ⟨_, rfl, q⟩⟩
theorem z_s1 {x0 : Option D} {y z : Option D} {r : Ev} : (x0 :: y :: r : Ev).set 1 z = x0 :: z :: r := rfl
theorem z_v2 {x0 x1 : Option D} {d : D} {r : Ev} : dVar 2 (x0 :: x1 :: some d :: r) M R = R d M := propext ⟨fun zz => by obtain ⟨_, h, q⟩ := zz; cases h; exact q, fun q => ⟨_, rfl, q⟩⟩
theorem z_s2 {x0 x1 : Option D} {y z : Option D} {r : Ev} : (x0 :: x1 :: y :: r : Ev).set 2 z = x0 :: x1 :: z :: r := rfl
theorem z_v3 {x0 x1 x2 : Option D} {d : D} {r : Ev} : dVar 3 (x0 :: x1 :: x2 :: some d :: r) M R = R d M := propext ⟨fun zz => by obtain ⟨_, h, q⟩ := zz; cases h; exact q, fun q => ⟨_, rfl, q⟩⟩
theorem z_s3 {x0 x1 x2 : Option D} {y z : Option D} {r : Ev} : (x0 :: x1 :: x2 :: y :: r : Ev).set 3 z = x0 :: x1 :: x2 :: z :: r := rfl
theorem z_v4 {x0 x1 x2 x3 : Option D} {d : D} {r : Ev} : dVar 4 (x0 :: x1 :: x2 :: x3 :: some d :: r) M R = R d M := propext ⟨fun zz => by obtain ⟨_, h, q⟩ := zz; cases h; exact q, fun q => ⟨_, rfl, q⟩⟩
theorem z_s4 {x0 x1 x2 x3 : Option D} {y z : Option D} {r : Ev} : (x0 :: x1 :: x2 :: x3 :: y :: r : Ev).set 4 z = x0 :: x1 :: x2 :: x3 :: z :: r := rfl
theorem z_v5 {x0 x1 x2 x3 x4 : Option D} {d : D} {r : Ev} : dVar 5 (x0 :: x1 :: x2 :: x3 :: x4 :: some d :: r) M R = R d M := propext ⟨fun zz => by obtain ⟨_, h, q⟩ := zz; cases h; exact q, fun q => ⟨_, rfl, q⟩⟩
theorem z_s5 {x0 x1 x2 x3 x4 : Option D} {y z : Option D} {r : Ev} : (x0 :: x1 :: x2 :: x3 :: x4 :: y :: r : Ev).set 5 z = x0 :: x1 :: x2 :: x3 :: x4 :: z :: r := rfl
theorem z_v6 {x0 x1 x2 x3 x4 x5 : Option D} {d : D} {r : Ev} : dVar 6 (x0 :: x1 :: x2 :: x3 :: x4 :: x5 :: some d :: r) M R = R d M := propext ⟨fun zz => by obtain ⟨_, h, q⟩ := zz; cases h; exact q, fun q => ⟨_, rfl, q⟩⟩
theorem z_s6 {x0 x1 x2 x3 x4 x5 : Option D} {y z : Option D} {r : Ev} : (x0 :: x1 :: x2 :: x3 :: x4 :: x5 :: y :: r : Ev).set 6 z = x0 :: x1 :: x2 :: x3 :: x4 :: x5 :: z :: r := rfl
theorem z_v7 {x0 x1 x2 x3 x4 x5 x6 : Option D} {d : D} {r : Ev} : dVar 7 (x0 :: x1 :: x2 :: x3 :: x4 :: x5 :: x6 :: some d :: r) M R = R d M := propext ⟨fun zz => by obtain ⟨_, h, q⟩ := zz; cases h; exact q, fun q => ⟨_, rfl, q⟩⟩
theorem z_s7 {x0 x1 x2 x3 x4 x5 x6 : Option D} {y z : Option D} {r : Ev} : (x0 :: x1 :: x2 :: x3 :: x4 :: x5 :: x6 :: y :: r : Ev).set 7 z = x0 :: x1 :: x2 :: x3 :: x4 :: x5 :: x6 :: z :: r := rfl
theorem z_v8 {x0 x1 x2 x3 x4 x5 x6 x7 : Option D} {d : D} {r : Ev} : dVar 8 (x0 :: x1 :: x2 :: x3 :: x4 :: x5 :: x6 :: x7 :: some d :: r) M R = R d M := propext ⟨fun zz => by obtain ⟨_, h, q⟩ := zz; cases h; exact q, fun q => ⟨_, rfl, q⟩⟩
theorem z_s8 {x0 x1 x2 x3 x4 x5 x6 x7 : Option D} {y z : Option D} {r : Ev} : (x0 :: x1 :: x2 :: x3 :: x4 :: x5 :: x6 :: x7 :: y :: r : Ev).set 8 z = x0 :: x1 :: x2 :: x3 :: x4 :: x5 :: x6 :: x7 :: z :: r := rfl
theorem z_v9 {x0 x1 x2 x3 x4 x5 x6 x7 x8 : Option D} {d : D} {r : Ev} : dVar 9 (x0 :: x1 :: x2 :: x3 :: x4 :: x5 :: x6 :: x7 :: x8 :: some d :: r) M R = R d M := propext ⟨fun zz => by obtain ⟨_, h, q⟩ := zz; cases h; exact q, fun q => ⟨_, rfl, q⟩⟩
theorem z_s9 {x0 x1 x2 x3 x4 x5 x6 x7 x8 : Option D} {y z : Option D} {r : Ev} : (x0 :: x1 :: x2 :: x3 :: x4 :: x5 :: x6 :: x7 :: x8 :: y :: r : Ev).set 9 z = x0 :: x1 :: x2 :: x3 :: x4 :: x5 :: x6 :: x7 :: x8 :: z :: r := rfl
theorem z_v10 {x0 x1 x2 x3 x4 x5 x6 x7 x8 x9 : Option D} {d : D} {r : Ev} : dVar 10 (x0 :: x1 :: x2 :: x3 :: x4 :: x5 :: x6 :: x7 :: x8 :: x9 :: some d :: r) M R = R d M := propext ⟨fun zz => by obtain ⟨_, h, q⟩ := zz; cases h; exact q, fun q => ⟨_, rfl, q⟩⟩
theorem z_s10 {x0 x1 x2 x3 x4 x5 x6 x7 x8 x9 : Option D} {y z : Option D} {r : Ev} : (x0 :: x1 :: x2 :: x3 :: x4 :: x5 :: x6 :: x7 :: x8 :: x9 :: y :: r : Ev).set 10 z = x0 :: x1 :: x2 :: x3 :: x4 :: x5 :: x6 :: x7 :: x8 :: x9 :: z :: r := rfl
theorem z_v11 {x0 x1 x2 x3 x4 x5 x6 x7 x8 x9 x10 : Option D} {d : D} {r : Ev} : dVar 11 (x0 :: x1 :: x2 :: x3 :: x4 :: x5 :: x6 :: x7 :: x8 :: x9 :: x10 :: some d :: r) M R = R d M := propext ⟨fun zz => by obtain ⟨_, h, q⟩ := zz; cases h; exact q, fun q => ⟨_, rfl, q⟩⟩
theorem z_s11 {x0 x1 x2 x3 x4 x5 x6 x7 x8 x9 x10 : Option D} {y z : Option D} {r : Ev} : (x0 :: x1 :: x2 :: x3 :: x4 :: x5 :: x6 :: x7 :: x8 :: x9 :: x10 :: y :: r : Ev).set 11 z = x0 :: x1 :: x2 :: x3 :: x4 :: x5 :: x6 :: x7 :: x8 :: x9 :: x10 :: z :: r := rfl
theorem z_v12 {x0 x1 x2 x3 x4 x5 x6 x7 x8 x9 x10 x11 : Option D} {d : D} {r : Ev} : dVar 12 (x0 :: x1 :: x2 :: x3 :: x4 :: x5 :: x6 :: x7 :: x8 :: x9 :: x10 :: x11 :: some d :: r) M R = R d M := propext ⟨fun zz => by obtain ⟨_, h, q⟩ := zz; cases h; exact q, fun q => ⟨_, rfl, q⟩⟩
theorem z_s12 {x0 x1 x2 x3 x4 x5 x6 x7 x8 x9 x10 x11 : Option D} {y z : Option D} {r : Ev} : (x0 :: x1 :: x2 :: x3 :: x4 :: x5 :: x6 :: x7 :: x8 :: x9 :: x10 :: x11 :: y :: r : Ev).set 12 z = x0 :: x1 :: x2 :: x3 :: x4 :: x5 :: x6 :: x7 :: x8 :: x9 :: x10 :: x11 :: z :: r := rfl
theorem z_v13 {x0 x1 x2 x3 x4 x5 x6 x7 x8 x9 x10 x11 x12 : Option D} {d : D} {r : Ev} : dVar 13 (x0 :: x1 :: x2 :: x3 :: x4 :: x5 :: x6 :: x7 :: x8 :: x9 :: x10 :: x11 :: x12 :: some d :: r) M R = R d M := propext ⟨fun zz => by obtain ⟨_, h, q⟩ := zz; cases h; exact q, fun q => ⟨_, rfl, q⟩⟩
theorem z_s13 {x0 x1 x2 x3 x4 x5 x6 x7 x8 x9 x10 x11 x12 : Option D} {y z : Option D} {r : Ev} : (x0 :: x1 :: x2 :: x3 :: x4 :: x5 :: x6 :: x7 :: x8 :: x9 :: x10 :: x11 :: x12 :: y :: r : Ev).set 13 z = x0 :: x1 :: x2 :: x3 :: x4 :: x5 :: x6 :: x7 :: x8 :: x9 :: x10 :: x11 :: x12 :: z :: r := rfl
theorem seqD_tup {M : Mem} {ds es : List D} : seqD M (.tup ds) es = (es = ds) := by
  apply propext
  constructor
  · intro h
    rcases h with h | ⟨_, h, _⟩ | h
    · injection h with h; exact h.symm
    · exact absurd h (by intro z; cases z)
    · exact absurd h (by intro z; cases z)
  · intro h; exact .inl (by rw [h])
theorem seqD_vl {M : Mem} {ds es : List D} : seqD M (.vl ds) es = (es = ds) := by
  apply propext
  constructor
  · intro h
    rcases h with h | ⟨_, h, _⟩ | h
    · exact absurd h (by intro z; cases z)
    · exact absurd h (by intro z; cases z)
    · injection h with h; exact h.symm
  · intro h; exact .inr (.inr (by rw [h]))
theorem atI_lit {ds : List D} {n : Nat} {d : D} (h : ds[n]? = some d) : atI ds (n : Int) = some d := by
  obtain ⟨hl, _⟩ := List.getElem?_eq_some_iff.mp h
  unfold atI ixN
  rw [if_pos (Int.natCast_nonneg n), if_pos (by omega)]
  simpa using h
theorem seqD_ref {M : Mem} {p : Addr} {ds : List D} (h : M p = some (.lst ds)) : seqD M (.ref p) ds := .inr (.inl ⟨p, rfl, h⟩)
theorem z_LstV : dLstV tr e M R = tr e M fun ds M1 => SzK ds.length (R (.vl ds) M1) := rfl
theorem z_CatV : dCatV ta tb e M R = ta e M fun x M1 => tb e M1 fun y M2 => gCatV x y M2 R := rfl
theorem z_SlV {tl th : DTO} : dSlV ta tl th e M R = ta e M fun x M1 => tl e M1 fun l M2 => th e M2 fun u M3 => gSlV x l u M3 R := rfl
theorem z_NoPart {Q : Option Int → Mem → Prop} : dNoPart e M Q = Q none M := rfl
theorem z_Part {Q : Option Int → Mem → Prop} : dPart ta e M Q = ta e M fun x M1 => PartK x M1 Q := rfl
theorem z_PartK {i : Int} {Q : Option Int → Mem → Prop} : PartK (.int i) M Q = Q (some i) M := propext ⟨fun zz => by obtain ⟨_, h, r⟩ := zz; cases h; exact r, fun r => ⟨_, rfl, r⟩⟩
theorem z_ListV : dListV tr e M R = tr e M fun ds M1 => gListV ds M1 R := rfl
theorem z_gListT {ds : List D} : gListV [.tup ds] M R = R (.vl ds) M := propext ⟨fun zz => by obtain ⟨_, _, h, h2, r⟩ := zz; cases h; rw [seqD_tup] at h2; subst h2; exact r, fun r => ⟨_, _, rfl, .inl rfl, r⟩⟩
theorem z_InCV {neg : Bool} {x : D} {ds : List D} : gInC neg x (.vl ds) M R = (cl 60 x = true ∧ clL 59 ds = true ∧ R (.bl (neg.xor (@decide (x ∈ ds) (Classical.propDecidable _)))) M) := propext ⟨fun zz => by obtain ⟨_, a, b, c, r⟩ := zz; rw [seqD_vl] at b; subst b; exact ⟨a, c, r⟩, fun ⟨a, c, r⟩ => ⟨ds, a, by rw [seqD_vl], c, r⟩⟩
open Classical in
theorem gEqR_of {neg : Bool} {p : Addr} {xs ys : List D} (h : M p = some (.lst xs)) (c1 : clL 50 xs = true) (c2 : clL 50 ys = true) (r : R (.bl (neg.xor (decide (xs = ys)))) M) : gEqR neg (.ref p) (.vl ys) M R := ⟨p, xs, ys, rfl, rfl, h, c1, c2, r⟩
theorem z_gListVl {ds : List D} : gListV [.vl ds] M R = R (.vl ds) M := propext ⟨fun zz => by obtain ⟨_, _, h, h2, r⟩ := zz; cases h; rw [seqD_vl] at h2; subst h2; exact r, fun r => ⟨_, _, rfl, .inr (.inr rfl), r⟩⟩
theorem z_gTupVl {ds : List D} : gTupL [.vl ds] M R = R (.tup ds) M := propext ⟨fun zz => by obtain ⟨_, _, h, h2, r⟩ := zz; cases h; cases h2; exact r, fun r => ⟨_, _, rfl, rfl, r⟩⟩
theorem z_gCatVl {xs ys : List D} : gCatV (.vl xs) (.vl ys) M R = SzK (xs.length + ys.length) (R (.vl (xs ++ ys)) M) := propext ⟨fun zz => by obtain ⟨_, _, h, h2, z, r⟩ := zz; cases h; cases h2; exact ⟨z, r⟩, fun ⟨z, r⟩ => ⟨_, _, rfl, rfl, z, r⟩⟩
theorem z_gSlVl {xs : List D} {lo hi : Option Int} : gSlV (.vl xs) lo hi M R = R (.vl (cutD xs lo hi)) M := propext ⟨fun h => by
  rcases h with ⟨_, h, r⟩ | ⟨_, h, _⟩
  · cases h; exact r
  · exact (nomatch h), fun r => .inl ⟨_, rfl, r⟩⟩
theorem z_gSlVt {xs : List D} {lo hi : Option Int} : gSlV (.tup xs) lo hi M R = (¬ (HT.sIx xs.length 0 lo = 0 ∧ HT.sIx xs.length xs.length hi = xs.length) ∧ R (.tup (cutD xs lo hi)) M) := propext ⟨fun h => by
  rcases h with ⟨_, h, r⟩ | ⟨_, h, hw, r⟩
  · cases h
  · cases h; exact ⟨hw, r⟩, fun ⟨hw, r⟩ => .inr ⟨_, rfl, hw, r⟩⟩
theorem z_Frz : dFrz ta e M R = ta e M fun x M1 => FrzK x M1 R := rfl
theorem z_FrzK {p : Addr} {ds : List D} (h : M p = some (.lst ds)) : FrzK (.ref p) M R = R (.vl ds) (delM M p) := propext ⟨fun zz => by obtain ⟨_, _, e, h', r⟩ := zz; cases e; rw [h] at h'; cases h'; exact r, fun r => ⟨_, _, rfl, h, r⟩⟩
theorem z_CompV {n : Nat} {caps : List Nat} {ti : DTI} {g : DTG} {tc : DTIfs} {te : DTE} : dCompV n caps ti g tc te e M R = ti e M fun ds stay M1 => CompV (capE n caps e) g tc te ds stay M1 R := rfl
theorem z_Yes {Q : Bool → Mem → Prop} : dYes e M Q = Q true M := rfl
section
variable {Q : List D → (Mem → Prop) → Mem → Prop}
theorem z_diSeq : diSeq ta e M Q = ta e M fun x M1 => SeqK x M1 Q := rfl
theorem z_SeqT {ds : List D} : SeqK (.tup ds) M Q = Q ds (fun M' => seqD M' (.tup ds) ds) M := propext ⟨fun zz => by obtain ⟨_, h, r⟩ := zz; rw [seqD_tup] at h; subst h; exact r, fun r => ⟨_, .inl rfl, r⟩⟩
theorem z_SeqV {ds : List D} : SeqK (.vl ds) M Q = Q ds (fun M' => seqD M' (.vl ds) ds) M := propext ⟨fun zz => by obtain ⟨_, h, r⟩ := zz; rw [seqD_vl] at h; subst h; exact r, fun r => ⟨_, .inr (.inr rfl), r⟩⟩
theorem z_diEnum : diEnum tr e M Q = tr e M fun xs M1 => EnumK xs M1 Q := rfl
theorem z_EnumT {ds : List D} : EnumK [.tup ds] M Q = Q (enumD ds) (fun M' => seqD M' (.tup ds) ds) M := propext ⟨fun zz => by obtain ⟨_, _, h, h2, r⟩ := zz; cases h; rw [seqD_tup] at h2; subst h2; exact r, fun r => ⟨_, _, rfl, .inl rfl, r⟩⟩
theorem z_EnumV {ds : List D} : EnumK [.vl ds] M Q = Q (enumD ds) (fun M' => seqD M' (.vl ds) ds) M := propext ⟨fun zz => by obtain ⟨_, _, h, h2, r⟩ := zz; cases h; rw [seqD_vl] at h2; subst h2; exact r, fun r => ⟨_, _, rfl, .inr (.inr rfl), r⟩⟩
theorem z_diZip : diZip tr e M Q = tr e M fun xs M1 => ZipK xs M1 Q := rfl
theorem z_ZipTT {ds es : List D} : ZipK [.tup ds, .tup es] M Q = Q (zipD ds es) (fun M' => seqD M' (.tup ds) ds ∧ seqD M' (.tup es) es) M := propext ⟨fun zz => by obtain ⟨_, _, _, _, h, h2, h3, r⟩ := zz; cases h; rw [seqD_tup] at h2 h3; subst h2; subst h3; exact r, fun r => ⟨_, _, _, _, rfl, .inl rfl, .inl rfl, r⟩⟩
theorem z_ZipVV {ds es : List D} : ZipK [.vl ds, .vl es] M Q = Q (zipD ds es) (fun M' => seqD M' (.vl ds) ds ∧ seqD M' (.vl es) es) M := propext ⟨fun zz => by obtain ⟨_, _, _, _, h, h2, h3, r⟩ := zz; cases h; rw [seqD_vl] at h2 h3; subst h2; subst h3; exact r, fun r => ⟨_, _, _, _, rfl, .inr (.inr rfl), .inr (.inr rfl), r⟩⟩
theorem z_ZipTV {ds es : List D} : ZipK [.tup ds, .vl es] M Q = Q (zipD ds es) (fun M' => seqD M' (.tup ds) ds ∧ seqD M' (.vl es) es) M := propext ⟨fun zz => by obtain ⟨_, _, _, _, h, h2, h3, r⟩ := zz; cases h; rw [seqD_tup] at h2; rw [seqD_vl] at h3; subst h2; subst h3; exact r, fun r => ⟨_, _, _, _, rfl, .inl rfl, .inr (.inr rfl), r⟩⟩
theorem z_ZipVT {ds es : List D} : ZipK [.vl ds, .tup es] M Q = Q (zipD ds es) (fun M' => seqD M' (.vl ds) ds ∧ seqD M' (.tup es) es) M := propext ⟨fun zz => by obtain ⟨_, _, _, _, h, h2, h3, r⟩ := zz; cases h; rw [seqD_vl] at h2; rw [seqD_tup] at h3; subst h2; subst h3; exact r, fun r => ⟨_, _, _, _, rfl, .inr (.inr rfl), .inl rfl, r⟩⟩
theorem z_diRng : diRng tr e M Q = tr e M fun xs M1 => RngK xs M1 Q := rfl
theorem z_RngK {j : Int} : RngK [.int j] M Q = ((-(2 ^ 62) ≤ j ∧ j < 2 ^ 62) ∧ Q (rangeD 0 j.toNat) (fun _ => True) M) := propext ⟨fun zz => by obtain ⟨_, h, a, b, r⟩ := zz; cases h; exact ⟨⟨a, b⟩, r⟩, fun ⟨⟨a, b⟩, r⟩ => ⟨_, rfl, a, b, r⟩⟩
end
theorem z_For {ti : DTI} {g : DTG} : dFor ti g t F e M = ti e M fun ds stay M1 => ForK g t F ds stay e M1 := rfl
theorem ForK.by {g : DTG} {ds : List D} {stay : Mem → Prop} {M1 : Mem} (W : Nat → Ev → Mem → Prop) (w0 : W 0 e M1) (st : ∀ i e M, i ≤ ds.length → W i e M → stay M)
    (turn : ∀ (i : Nat) (d : D) e M, ds[i]? = some d → W i e M → g d e M fun e2 M2 => t { F with nx := W (i + 1), ct := W (i + 1), bk := F.nx } e2 M2) (done : ∀ e M, W ds.length e M → F.nx e M) : ForK g t F ds stay e M1 := ⟨W, w0, st, turn, done⟩
theorem WhileBy {F : DEnds} (W : Nat → Ev → Mem → Prop) (m : Nat) (w0 : W m e M) (turn : ∀ m e M, W m e M → tA e M fun b M1 => IfK b (t { F with nx := fun e' M' => ∃ m', m' < m ∧ W m' e' M', ct := fun e' M' => ∃ m', m' < m ∧ W m' e' M', bk := F.nx } e M1) (F.nx e M1)) : dWhile tA t F e M := ⟨W, ⟨m, w0⟩, turn⟩
theorem JoinBy {F : DEnds} (P : Ev → Mem → Prop) (h1 : t { F with nx := P } e M) (h2 : ∀ e' M', P e' M' → u F e' M') : dSeqM t u F e M := ⟨P, h1, h2⟩
theorem z_LM {g : DRM} : dLM g ta tr e M R = ta e M fun x M1 => LMK x M1 (tr e M1 fun xs M2 => g x xs M2 R) := rfl
theorem z_ixT0 {x0 : D} {r : List D} : gIx (.tup (x0 :: r)) (.int 0) M R = R x0 M := z_Ix (atI_lit (n := 0) rfl)
theorem z_ixV0 {x0 : D} {r : List D} : gIx (.vl (x0 :: r)) (.int 0) M R = R x0 M := z_Ix (atI_lit (n := 0) rfl)
theorem z_ixT1 {x0 x1 : D} {r : List D} : gIx (.tup (x0 :: x1 :: r)) (.int 1) M R = R x1 M := z_Ix (atI_lit (n := 1) rfl)
theorem z_ixV1 {x0 x1 : D} {r : List D} : gIx (.vl (x0 :: x1 :: r)) (.int 1) M R = R x1 M := z_Ix (atI_lit (n := 1) rfl)
theorem z_ixT2 {x0 x1 x2 : D} {r : List D} : gIx (.tup (x0 :: x1 :: x2 :: r)) (.int 2) M R = R x2 M := z_Ix (atI_lit (n := 2) rfl)
theorem z_ixV2 {x0 x1 x2 : D} {r : List D} : gIx (.vl (x0 :: x1 :: x2 :: r)) (.int 2) M R = R x2 M := z_Ix (atI_lit (n := 2) rfl)
theorem z_ixT3 {x0 x1 x2 x3 : D} {r : List D} : gIx (.tup (x0 :: x1 :: x2 :: x3 :: r)) (.int 3) M R = R x3 M := z_Ix (atI_lit (n := 3) rfl)
theorem z_ixV3 {x0 x1 x2 x3 : D} {r : List D} : gIx (.vl (x0 :: x1 :: x2 :: x3 :: r)) (.int 3) M R = R x3 M := z_Ix (atI_lit (n := 3) rfl)
theorem z_ixT4 {x0 x1 x2 x3 x4 : D} {r : List D} : gIx (.tup (x0 :: x1 :: x2 :: x3 :: x4 :: r)) (.int 4) M R = R x4 M := z_Ix (atI_lit (n := 4) rfl)
theorem z_ixV4 {x0 x1 x2 x3 x4 : D} {r : List D} : gIx (.vl (x0 :: x1 :: x2 :: x3 :: x4 :: r)) (.int 4) M R = R x4 M := z_Ix (atI_lit (n := 4) rfl)
theorem z_ixT5 {x0 x1 x2 x3 x4 x5 : D} {r : List D} : gIx (.tup (x0 :: x1 :: x2 :: x3 :: x4 :: x5 :: r)) (.int 5) M R = R x5 M := z_Ix (atI_lit (n := 5) rfl)
theorem z_ixV5 {x0 x1 x2 x3 x4 x5 : D} {r : List D} : gIx (.vl (x0 :: x1 :: x2 :: x3 :: x4 :: x5 :: r)) (.int 5) M R = R x5 M := z_Ix (atI_lit (n := 5) rfl)
theorem z_ixT6 {x0 x1 x2 x3 x4 x5 x6 : D} {r : List D} : gIx (.tup (x0 :: x1 :: x2 :: x3 :: x4 :: x5 :: x6 :: r)) (.int 6) M R = R x6 M := z_Ix (atI_lit (n := 6) rfl)
theorem z_ixV6 {x0 x1 x2 x3 x4 x5 x6 : D} {r : List D} : gIx (.vl (x0 :: x1 :: x2 :: x3 :: x4 :: x5 :: x6 :: r)) (.int 6) M R = R x6 M := z_Ix (atI_lit (n := 6) rfl)
theorem z_ixT7 {x0 x1 x2 x3 x4 x5 x6 x7 : D} {r : List D} : gIx (.tup (x0 :: x1 :: x2 :: x3 :: x4 :: x5 :: x6 :: x7 :: r)) (.int 7) M R = R x7 M := z_Ix (atI_lit (n := 7) rfl)
theorem z_ixV7 {x0 x1 x2 x3 x4 x5 x6 x7 : D} {r : List D} : gIx (.vl (x0 :: x1 :: x2 :: x3 :: x4 :: x5 :: x6 :: x7 :: r)) (.int 7) M R = R x7 M := z_Ix (atI_lit (n := 7) rfl)
theorem z_sz0 {A : Prop} : SzK (0) A = A := z_SzK (by decide)
theorem z_sz1 {A : Prop} : SzK (0 + 1) A = A := z_SzK (by decide)
theorem z_sz2 {A : Prop} : SzK (0 + 1 + 1) A = A := z_SzK (by decide)
theorem z_sz3 {A : Prop} : SzK (0 + 1 + 1 + 1) A = A := z_SzK (by decide)
theorem z_sz4 {A : Prop} : SzK (0 + 1 + 1 + 1 + 1) A = A := z_SzK (by decide)
theorem z_sz5 {A : Prop} : SzK (0 + 1 + 1 + 1 + 1 + 1) A = A := z_SzK (by decide)
theorem z_sz6 {A : Prop} : SzK (0 + 1 + 1 + 1 + 1 + 1 + 1) A = A := z_SzK (by decide)
theorem z_sz7 {A : Prop} : SzK (0 + 1 + 1 + 1 + 1 + 1 + 1 + 1) A = A := z_SzK (by decide)
theorem z_sz8 {A : Prop} : SzK (0 + 1 + 1 + 1 + 1 + 1 + 1 + 1 + 1) A = A := z_SzK (by decide)
theorem z_sz9 {A : Prop} : SzK (0 + 1 + 1 + 1 + 1 + 1 + 1 + 1 + 1 + 1) A = A := z_SzK (by decide)
theorem z_clI60 {i : Int} : cl 60 (.int i) = true := rfl
theorem z_clN60 : cl 60 .non = true := rfl
theorem z_clT60 {ds : List D} : cl 60 (.tup ds) = clL 59 ds := rfl
theorem z_clV60 {ds : List D} : cl 60 (.vl ds) = clL 59 ds := rfl
theorem z_cln59 : clL 59 [] = true := rfl
theorem z_clc59 {d : D} {r : List D} : clL 59 (d :: r) = (cl 59 d && clL 59 r) := rfl
theorem z_clI59 {i : Int} : cl 59 (.int i) = true := rfl
theorem z_clN59 : cl 59 .non = true := rfl
theorem z_clT59 {ds : List D} : cl 59 (.tup ds) = clL 58 ds := rfl
theorem z_clV59 {ds : List D} : cl 59 (.vl ds) = clL 58 ds := rfl
theorem z_cln58 : clL 58 [] = true := rfl
theorem z_clc58 {d : D} {r : List D} : clL 58 (d :: r) = (cl 58 d && clL 58 r) := rfl
theorem z_clI58 {i : Int} : cl 58 (.int i) = true := rfl
theorem z_clN58 : cl 58 .non = true := rfl
theorem z_clT58 {ds : List D} : cl 58 (.tup ds) = clL 57 ds := rfl
theorem z_clV58 {ds : List D} : cl 58 (.vl ds) = clL 57 ds := rfl
theorem z_cln57 : clL 57 [] = true := rfl
theorem z_clc57 {d : D} {r : List D} : clL 57 (d :: r) = (cl 57 d && clL 57 r) := rfl
theorem z_clI57 {i : Int} : cl 57 (.int i) = true := rfl
theorem z_clN57 : cl 57 .non = true := rfl
theorem z_clT57 {ds : List D} : cl 57 (.tup ds) = clL 56 ds := rfl
theorem z_clV57 {ds : List D} : cl 57 (.vl ds) = clL 56 ds := rfl
theorem z_cln56 : clL 56 [] = true := rfl
theorem z_clc56 {d : D} {r : List D} : clL 56 (d :: r) = (cl 56 d && clL 56 r) := rfl
theorem z_clI56 {i : Int} : cl 56 (.int i) = true := rfl
theorem z_clN56 : cl 56 .non = true := rfl
theorem z_clT56 {ds : List D} : cl 56 (.tup ds) = clL 55 ds := rfl
theorem z_clV56 {ds : List D} : cl 56 (.vl ds) = clL 55 ds := rfl
theorem z_cln55 : clL 55 [] = true := rfl
theorem z_clc55 {d : D} {r : List D} : clL 55 (d :: r) = (cl 55 d && clL 55 r) := rfl
theorem z_clI55 {i : Int} : cl 55 (.int i) = true := rfl
theorem z_clN55 : cl 55 .non = true := rfl
theorem z_clT55 {ds : List D} : cl 55 (.tup ds) = clL 54 ds := rfl
theorem z_clV55 {ds : List D} : cl 55 (.vl ds) = clL 54 ds := rfl
theorem z_cln54 : clL 54 [] = true := rfl
theorem z_clc54 {d : D} {r : List D} : clL 54 (d :: r) = (cl 54 d && clL 54 r) := rfl
theorem z_LenV {xs : List D} : gLen [.vl xs] M R = R (.int (xs.length : Int)) M := z_Len rfl
theorem z_LenT {xs : List D} : gLen [.tup xs] M R = R (.int (xs.length : Int)) M := z_Len rfl
theorem z_szk1 {A : Prop} : SzK 1 A = A := z_SzK (by decide)
theorem z_szk2 {A : Prop} : SzK 2 A = A := z_SzK (by decide)
theorem z_szk3 {A : Prop} : SzK 3 A = A := z_SzK (by decide)
theorem z_szk4 {A : Prop} : SzK 4 A = A := z_SzK (by decide)
theorem z_szk5 {A : Prop} : SzK 5 A = A := z_SzK (by decide)
theorem z_szk6 {A : Prop} : SzK 6 A = A := z_SzK (by decide)
theorem z_szk7 {A : Prop} : SzK 7 A = A := z_SzK (by decide)
theorem z_szk8 {A : Prop} : SzK 8 A = A := z_SzK (by decide)
theorem z_szk9 {A : Prop} : SzK 9 A = A := z_SzK (by decide)
theorem z_szk10 {A : Prop} : SzK 10 A = A := z_SzK (by decide)
theorem z_szk11 {A : Prop} : SzK 11 A = A := z_SzK (by decide)
theorem z_szk12 {A : Prop} : SzK 12 A = A := z_SzK (by decide)
theorem z_isiDTuple : gIsi [.dic, .ty "tuple"] M R = R (.bl false) M := z_Isi rfl rfl
theorem z_isiDList : gIsi [.dic, .ty "list"] M R = R (.bl false) M := z_Isi rfl rfl
theorem z_isiDInt : gIsi [.dic, .ty "int"] M R = R (.bl false) M := z_Isi rfl rfl
theorem z_isiDBool : gIsi [.dic, .ty "bool"] M R = R (.bl false) M := z_Isi rfl rfl
theorem z_isiDStr : gIsi [.dic, .ty "str"] M R = R (.bl false) M := z_Isi rfl rfl
theorem z_isiTTuple {ds : List D} : gIsi [.tup ds, .ty "tuple"] M R = R (.bl true) M := z_Isi rfl rfl
theorem z_isiTList {ds : List D} : gIsi [.tup ds, .ty "list"] M R = R (.bl false) M := z_Isi rfl rfl
theorem z_isiTInt {ds : List D} : gIsi [.tup ds, .ty "int"] M R = R (.bl false) M := z_Isi rfl rfl
theorem z_isiTBool {ds : List D} : gIsi [.tup ds, .ty "bool"] M R = R (.bl false) M := z_Isi rfl rfl
theorem z_isiTStr {ds : List D} : gIsi [.tup ds, .ty "str"] M R = R (.bl false) M := z_Isi rfl rfl
theorem z_isiVTuple {ds : List D} : gIsi [.vl ds, .ty "tuple"] M R = R (.bl false) M := z_Isi rfl rfl
theorem z_isiVList {ds : List D} : gIsi [.vl ds, .ty "list"] M R = R (.bl true) M := z_Isi rfl rfl
theorem z_isiVInt {ds : List D} : gIsi [.vl ds, .ty "int"] M R = R (.bl false) M := z_Isi rfl rfl
theorem z_isiVBool {ds : List D} : gIsi [.vl ds, .ty "bool"] M R = R (.bl false) M := z_Isi rfl rfl
theorem z_isiVStr {ds : List D} : gIsi [.vl ds, .ty "str"] M R = R (.bl false) M := z_Isi rfl rfl
theorem z_isiITuple {i : Int} : gIsi [.int i, .ty "tuple"] M R = R (.bl false) M := z_Isi rfl rfl
theorem z_isiIList {i : Int} : gIsi [.int i, .ty "list"] M R = R (.bl false) M := z_Isi rfl rfl
theorem z_isiIInt {i : Int} : gIsi [.int i, .ty "int"] M R = R (.bl true) M := z_Isi rfl rfl
theorem z_isiIBool {i : Int} : gIsi [.int i, .ty "bool"] M R = R (.bl false) M := z_Isi rfl rfl
theorem z_isiIStr {i : Int} : gIsi [.int i, .ty "str"] M R = R (.bl false) M := z_Isi rfl rfl
theorem z_isiNTuple : gIsi [.non, .ty "tuple"] M R = R (.bl false) M := z_Isi rfl rfl
theorem z_isiNList : gIsi [.non, .ty "list"] M R = R (.bl false) M := z_Isi rfl rfl
theorem z_isiNInt : gIsi [.non, .ty "int"] M R = R (.bl false) M := z_Isi rfl rfl
theorem z_isiNBool : gIsi [.non, .ty "bool"] M R = R (.bl false) M := z_Isi rfl rfl
theorem z_isiNStr : gIsi [.non, .ty "str"] M R = R (.bl false) M := z_Isi rfl rfl
theorem z_isiSTuple {x : Str} : gIsi [.str x, .ty "tuple"] M R = R (.bl false) M := z_Isi rfl rfl
theorem z_isiSList {x : Str} : gIsi [.str x, .ty "list"] M R = R (.bl false) M := z_Isi rfl rfl
theorem z_isiSInt {x : Str} : gIsi [.str x, .ty "int"] M R = R (.bl false) M := z_Isi rfl rfl
theorem z_isiSBool {x : Str} : gIsi [.str x, .ty "bool"] M R = R (.bl false) M := z_Isi rfl rfl
theorem z_isiSStr {x : Str} : gIsi [.str x, .ty "str"] M R = R (.bl true) M := z_Isi rfl rfl
theorem z_isiBTuple {b : Bool} : gIsi [.bl b, .ty "tuple"] M R = R (.bl false) M := z_Isi rfl rfl
theorem z_isiBList {b : Bool} : gIsi [.bl b, .ty "list"] M R = R (.bl false) M := z_Isi rfl rfl
theorem z_isiBInt {b : Bool} : gIsi [.bl b, .ty "int"] M R = R (.bl true) M := z_Isi rfl rfl
theorem z_isiBBool {b : Bool} : gIsi [.bl b, .ty "bool"] M R = R (.bl true) M := z_Isi rfl rfl
theorem z_isiBStr {b : Bool} : gIsi [.bl b, .ty "str"] M R = R (.bl false) M := z_Isi rfl rfl
theorem z_Fgt : dFgt ta e M R = ta e M fun x M1 => FgtK x M1 R := rfl
theorem SeqK_of {x : D} {ds : List D} {Q : List D → (Mem → Prop) → Mem → Prop} (h : seqD M x ds) (r : Q ds (fun M' => seqD M' x ds) M) : SeqK x M Q := ⟨ds, h, r⟩
theorem EnumK_of {x : D} {ds : List D} {Q : List D → (Mem → Prop) → Mem → Prop} (h : seqD M x ds) (r : Q (enumD ds) (fun M' => seqD M' x ds) M) : EnumK [x] M Q := ⟨x, ds, rfl, h, r⟩
theorem LMK_of {l : Addr} {ds : List D} {A : Prop} (h : M l = some (.lst ds)) (a : A) : LMK (.ref l) M A := ⟨⟨l, ds, rfl, h⟩, a⟩
theorem App_of {l : Addr} {ds : List D} {v : D} (h : M l = some (.lst ds)) (hz : ds.length < 1000) (r : R .non (updM M l (.lst (ds ++ [v])))) : gAppend (.ref l) [v] M R := ⟨l, ds, v, rfl, rfl, h, Nat.lt_of_lt_of_le hz (by decide), r⟩
theorem Fgt_of {x : D} {M1 M2 : Mem} (h : ∀ b o, M2 b = some o → M1 b = some o) (r : R x M2) : FgtK x M1 R := ⟨M2, h, r⟩
theorem z_Chain {g g' : DR2} {tc : DTE} : dChain g g' ta tb tc e M R = ta e M fun x M1 => tb e M1 fun y M2 => g x y M2 fun z M3 => BlK z M3 fun k M4 => IfK k (tc e M4 fun w M5 => g' y w M5 R) (R (.bl false) M4) := rfl
end
end DL

namespace DL
open PySem PySem.Spec L2
open PyProof.Rows hiding St
theorem all0 {p : Str → Prop} : ∀ x ∈ ([] : List Str), p x := fun _ h => nomatch h
section
variable {e0 : Ev} {g : DTG} {te : DTE} {tc : DTIfs} {ds : List D} {stay : Mem → Prop} {M1 : Mem} {E : List D → Mem → Prop}
theorem compV_map {α : Type} {xs : List α} {enc : α → D} (f : α → D) (hn : xs.length ≤ 1000) (hst : stay M1) (step : ∀ x ∈ xs, ∀ Q : DK, Q (f x) M1 → g (enc x) e0 M1 fun e2 M2 => te e2 M2 Q) (h : E (xs.map f) M1) : ∃ W, CompW e0 g dYes te (xs.map enc) stay M1 E W := by
  refine ⟨fun i ys M => M = M1 ∧ ys = (xs.take i).map f, ⟨⟨rfl, rfl⟩, fun i ys M _ w => by rw [w.1]; exact hst, fun i d ys M hd w => ?_, fun ys M w => ?_⟩⟩
  · obtain ⟨rfl, rfl⟩ := w
    rw [List.getElem?_map] at hd
    cases hx : xs[i]? with
    | none => rw [hx] at hd; cases hd
    | some x =>
      rw [hx] at hd
      obtain rfl : enc x = d := by simpa using hd
      refine step x (List.mem_of_getElem? hx) _ ⟨?_, rfl, ?_⟩
      · rw [List.length_map, List.length_take]
        exact Nat.lt_of_le_of_lt (Nat.le_trans (Nat.min_le_right _ _) hn) (by decide)
      · obtain ⟨hl, he⟩ := List.getElem?_eq_some_iff.mp hx
        rw [List.take_succ_eq_append_getElem hl, List.map_append, he]; rfl
  · obtain ⟨rfl, rfl⟩ := w
    rw [List.length_map, List.take_length]; exact h
theorem compV_filter {α : Type} {xs : List α} {enc : α → D} (p : α → Bool) (f : α → D) (hn : xs.length ≤ 1000) (hst : stay M1)
    (step : ∀ x ∈ xs, ∀ (Q : DK) (N : Prop), (p x = true → Q (f x) M1) → (p x = false → N) → g (enc x) e0 M1 fun e2 M2 => tc e2 M2 fun b M3 => IfK b (te e2 M3 Q) (M3 = M1 ∧ N)) (h : E ((xs.filter p).map f) M1) : ∃ W, CompW e0 g tc te (xs.map enc) stay M1 E W := by
  refine ⟨fun i ys M => M = M1 ∧ ys = ((xs.take i).filter p).map f, ⟨⟨rfl, rfl⟩, fun i ys M _ w => by rw [w.1]; exact hst, fun i d ys M hd w => ?_, fun ys M w => ?_⟩⟩
  · obtain ⟨rfl, rfl⟩ := w
    rw [List.getElem?_map] at hd
    cases hx : xs[i]? with
    | none => rw [hx] at hd; cases hd
    | some x =>
      rw [hx] at hd
      obtain rfl : enc x = d := by simpa using hd
      obtain ⟨hl, he⟩ := List.getElem?_eq_some_iff.mp hx
      have hle : (((xs.take i).filter p).map f).length < sizeLine := by
        rw [List.length_map]
        have h1 := List.length_filter_le p (xs.take i)
        rw [List.length_take] at h1
        exact Nat.lt_of_le_of_lt (Nat.le_trans h1 (Nat.le_trans (Nat.min_le_right _ _) hn)) (by decide)
      have hs := step x (List.mem_of_getElem? hx) (fun v M4 => (((xs.take i).filter p).map f).length < sizeLine ∧ M4 = M ∧ ((xs.take i).filter p).map f ++ [v] = ((xs.take (i + 1)).filter p).map f) (((xs.take i).filter p).map f = ((xs.take (i + 1)).filter p).map f)
        (fun hp => ⟨hle, rfl, by rw [List.take_succ_eq_append_getElem hl, List.filter_append, List.map_append, he]; simp [hp]⟩)
        (fun hp => by rw [List.take_succ_eq_append_getElem hl, List.filter_append, List.map_append, he]; simp [hp])
      exact hs
  · obtain ⟨rfl, rfl⟩ := w
    rw [List.length_map, List.take_length]; exact h
theorem compV_draw {α : Type} (enc : α → D) (ok : α → Prop) (St : Mem → Mem → Prop) (n : Nat) (hl : ds.length = n) (hn : n ≤ 1000) (hst : ∀ M, St M1 M → stay M) (s0 : St M1 M1)
    (step : ∀ d ∈ ds, ∀ M, St M1 M → ∀ Q : DK, (∀ x M', ok x → St M1 M' → Q (enc x) M') → g d e0 M fun e2 M2 => te e2 M2 Q) (h : ∀ (xs : List α) M, xs.length = n → (∀ x ∈ xs, ok x) → St M1 M → E (xs.map enc) M) : ∃ W, CompW e0 g dYes te ds stay M1 E W := by
  refine ⟨fun i ys M => St M1 M ∧ ∃ xs : List α, xs.length = i ∧ (∀ x ∈ xs, ok x) ∧ ys = xs.map enc, ⟨⟨s0, [], rfl, (fun _ z => nomatch z), rfl⟩, fun i ys M _ w => hst M w.1, fun i d ys M hd w => ?_, fun ys M w => ?_⟩⟩
  · obtain ⟨sM, xs, hl, hok, rfl⟩ := w
    have hi : i < ds.length := (List.getElem?_eq_some_iff.mp hd).1
    refine step d (List.mem_of_getElem? hd) M sM _ fun x M' hx sM' => ⟨?_, sM', xs ++ [x], by simp [hl], fun z hz => ?_, by simp⟩
    · rw [List.length_map, hl]; exact Nat.lt_of_lt_of_le (Nat.lt_of_lt_of_le hi (by omega)) (show 1000 ≤ sizeLine by decide)
    · rcases List.mem_append.mp hz with z1 | z1
      · exact hok z z1
      · rw [List.mem_singleton.mp z1]; exact hx
  · obtain ⟨sM, xs, hl, hok, rfl⟩ := w
    exact h xs M (by omega) hok sM
end

section
variable {X : Cx} {pos : Pos}
theorem jc {x : Str} {j k : Nat} {ps : List Str} {sp : DSp} {p : Pos} {e : Expr} {es : List Expr} {t : DTA} (G : Fn X.prog X.w X.K X.mg X.base x j ps sp) (hr : Room k X.A) (ha : JA X (e :: es) t) (hk : j ≤ k := by decide) (hg : Gl X x := by rfl)
    (hdb : (x == ("__debug__" : Str)) = false := by decide) (he : starEach (e :: es) X.env = (false, eval e X.env) :: starEach es X.env := by rfl) (hpl : (backTo pos (starEach es X.env)).any (·.1) = false := by rfl) : JE X (.Call (.Name x p) (e :: es) [] pos) (dCall sp [] Y0 t) := jd_callF G (hr.mono hk) hg ha hdb he hpl
theorem jx {a b : Expr} {ta tb : DTE} (ha : JE X a ta) (hb : JE X b tb) (hs : PlainIx b := by exact fun _ _ => rfl) : JE X (.Subscript a b pos) (dOp gIx ta tb) := jd_ix i_any ha hb hs
theorem jst (i : Nat) {x : Str} {e : Expr} {tx : DTE} {q : Pos} (hN : X.N.Nodup) (he : JE X e tx) (hi : X.N[i]? = some x := by rfl) (hx : Loc X.env.scope x := by first | exact .inl rfl | exact .inr rfl) (hs : swapsWith e (some (.Name x q)) pos.line X.env = pure false := by rfl)
    (hf : X.fn x = true ∨ X.env.scope.names.lookup x = some .local := by first | exact .inl rfl | exact .inr rfl | assumption) : JS X (.Assign [.Name x q] e pos) (dAsg tx (dgName i)) := jds_set hN hi hx he hs hf
theorem jn (i : Nat) {x : Str} (hN : X.N.Nodup) (hi : X.N[i]? = some x := by rfl) (hx : Loc X.env.scope x := by first | exact .inl rfl | exact .inr rfl) (hf : X.fn x = true ∨ X.env.scope.names.lookup x = some .local := by first | exact .inl rfl | exact .inr rfl | assumption) : JG X (.Name x pos) (dgName i) := jdg_name hN hi hx hf
theorem jm {op : CmpOp} {g : DR2} {a b : Expr} {ta tb : DTE} (ho : DOp X (compareOp op) g) (ha : JE X a ta) (hb : JE X b tb) (hm : behindInMarks op b = false := by first | exact nomark _ | with_unfolding_all rfl) : JE X (.Compare a [op] [b] pos) (dOp g ta tb) := jd_cmp ho ha hb hm
theorem jtm {op : CmpOp} {g : DR2} {a b : Expr} {ta tb : DTE} (ho : DOp X (compareOp op) g) (ha : JE X a ta) (hb : JE X b tb) (hm : behindInMarks op b = false := by first | exact nomark _ | with_unfolding_all rfl) : JT X (.Compare a [op] [b] pos) (dTest (dOp g ta tb)) := jd_tcmp ho ha hb hm
end
end DL

namespace GM
open PySem PySem.Spec L2 DL
open PyProof.Rows hiding St
noncomputable def ratD (q : Rat) : D := .tup [.int q.num, .int (q.den : Int)]
theorem ratD_inj {q r : Rat} (h : ratD q = ratD r) : q = r := by
  unfold ratD at h
  injection h with h
  injection h with h1 h2
  injection h1 with h1
  injection h2 with h2 _
  injection h2 with h2
  exact Rat.ext h1 (by omega)
theorem ratD_iff {q r : Rat} : ratD q = ratD r ↔ q = r := ⟨ratD_inj, fun h => by rw [h]⟩
structure PoolAt (M : Mem) (p : Addr) : Prop where
  ex : ∃ x y z : Int, M p = some (.lst [.int x, .int y, .int z])
noncomputable def MK (M M' : Mem) : Prop := ∀ b o, M b = some o → M' b = some o
theorem MK.refl (M : Mem) : MK M M := fun _ _ h => h
theorem MK.trans {M M1 M2 : Mem} (a : MK M M1) (b : MK M1 M2) : MK M M2 := fun c o h => b c o (a c o h)
theorem MK.new {M : Mem} {p : Addr} {o : MO} (h : M p = none) : MK M (updM M p o) := fun b u e => by
  have : b ≠ p := by intro z; subst z; rw [h] at e; cases e
  rw [updM_ne this]; exact e
theorem MK.pool {M M' : Mem} (k : MK M M') {p : Addr} (h : PoolAt M p) : PoolAt M' p := let ⟨x, y, z, e⟩ := h.ex; ⟨x, y, z, k _ _ e⟩
structure PStep (p : Addr) (M M' : Mem) : Prop where
  keep : ∀ b o, b ≠ p → M b = some o → M' b = some o
  pool : PoolAt M' p
theorem PStep.refl {p : Addr} {M : Mem} (h : PoolAt M p) : PStep p M M := ⟨fun _ _ _ h => h, h⟩
theorem PStep.trans {p : Addr} {M M1 M2 : Mem} (a : PStep p M M1) (b : PStep p M1 M2) : PStep p M M2 := ⟨fun c o n h => b.keep c o n (a.keep c o n h), b.pool⟩
theorem PStep.upd {p : Addr} {M : Mem} (x y z : Int) : PStep p M (updM M p (.lst [.int x, .int y, .int z])) := ⟨fun b o n h => by rw [updM_ne n]; exact h, ⟨x, y, z, updM_same⟩⟩
theorem PoolAt.ne {M : Mem} {p l : Addr} (h : PoolAt M p) (hl : M l = none) : l ≠ p := by
  intro e; subst e; obtain ⟨x, y, z, q⟩ := h.ex; rw [hl] at q; cases q
noncomputable def spPool : DSp := fun ds M R _ => ∃ c : Int, ds = [.int c] ∧ ∀ p M', M p = none → MK M M' → PoolAt M' p → R (.ref p) M'
noncomputable def spNext : DSp := fun ds M R _ => ∃ (p : Addr) (b : Int), ds = [.ref p, .int b] ∧ PoolAt M p ∧ 0 < b ∧ b.natAbs.log2 < 9000 ∧ ∀ (r : Int) M', 0 ≤ r → r < b → PStep p M M' → R (.int r) M'
noncomputable def spLow : DSp := fun ds M R _ => ∃ a b : Int, ds = [.int a, .int b] ∧ b ≠ 0 ∧ b.natAbs.log2 < 9000 ∧ R (ratD (Rat.divInt a b)) M
noncomputable def spNumber : DSp := fun ds M R _ => ∃ p : Addr, ds = [.ref p] ∧ PoolAt M p ∧ ∀ (q : Rat) M', RM.sz q ≤ 41 → PStep p M M' → R (ratD q) M'
theorem cp18 : CPow 10 18 := ⟨by decide, by decide, by decide⟩
theorem cp12 : CPow 10 12 := ⟨by decide, by decide, by decide⟩
theorem m64l {a b : Int} (h1 : -(2 ^ 64) < a) (h2 : a < 2 ^ 64) : IntMulOk a b := .of_left (intBits_le_64 h1 h2)
theorem mmod {x m k b : Int} (hm : 0 < m) (hm2 : m < 2 ^ 60) (hk : 0 ≤ k) (hk2 : k < 2 ^ 60) : IntMulOk (x % m + k) b := by
  have h1 := Int.emod_nonneg x (show m ≠ 0 by omega)
  have h2 := Int.emod_lt_of_pos x hm
  exact m64l (by omega) (by omega)
theorem mmod0 {x m b : Int} (hm : 0 < m) (hm2 : m < 2 ^ 60) : IntMulOk (x % m) b := by
  have h1 := Int.emod_nonneg x (show m ≠ 0 by omega)
  have h2 := Int.emod_lt_of_pos x hm
  exact m64l (by omega) (by omega)
theorem cfd8 {i : Int} : CFd i 8 := ⟨by decide, by decide⟩
theorem fdiv_nn {a b : Int} (ha : 0 ≤ a) (hb : 0 ≤ b) : a.fdiv b = a / b := Int.fdiv_eq_ediv_of_nonneg a hb
theorem gcd_log {a b : Int} (hb : b ≠ 0) (h : b.natAbs.log2 < 9000) : ((Nat.gcd a.natAbs b.natAbs : Nat) : Int).natAbs.log2 < 9000 := by
  have hp : 0 < b.natAbs := Int.natAbs_pos.mpr hb
  have hle : Nat.gcd a.natAbs b.natAbs ≤ b.natAbs := Nat.gcd_le_right _ hp
  have h1 : b.natAbs < 2 ^ 9000 := (Nat.log2_lt (by omega)).mp h
  rw [Int.natAbs_natCast]
  exact log_lt (Nat.lt_of_le_of_lt hle h1) (by decide)
theorem gcd_ne {a b : Int} (hb : b ≠ 0) : ((Nat.gcd a.natAbs b.natAbs : Nat) : Int) ≠ 0 := by
  have hp : 0 < b.natAbs := Int.natAbs_pos.mpr hb
  have := Nat.gcd_pos_of_pos_right a.natAbs hp
  omega
theorem low_fin {a b s : Int} (hb : b ≠ 0) (hs : s = if b < 0 then -((Nat.gcd a.natAbs b.natAbs : Nat) : Int) else ((Nat.gcd a.natAbs b.natAbs : Nat) : Int)) {M : Mem} {R : DK} (k : R (ratD (Rat.divInt a b)) M) :
    R (.tup [.int (a.fdiv s), .int (b.fdiv s)]) M := by
  obtain ⟨h1, h2⟩ := RM.low_eq a b hb s hs
  rw [h1, h2]; exact k
theorem low_sz {a b : Int} {n : Nat} (hn : 0 < n) (h1 : a.natAbs < 2 ^ n) (h2 : b.natAbs < 2 ^ n) (hb : b ≠ 0) : RM.sz (Rat.divInt a b) ≤ n :=
  Nat.le_trans (RM.sz_divInt a b hb) (Nat.max_le.mpr ⟨RM.bl_le h1 hn, RM.bl_le h2 hn⟩)
end GM
namespace GM
open PySem PySem.Spec L2 DL
open PyProof.Rows hiding St
end GM
namespace GM
open PySem PySem.Spec L2 DL
open PyProof.Rows hiding St
noncomputable def spWhole : DSp := fun ds M R _ => ∃ n : Int, ds = [.int n] ∧ R (.bl true) M
end GM
namespace GM
open PySem PySem.Spec L2 DL
end GM
namespace GM
open PySem PySem.Spec L2 DL
end GM
namespace GM
open PySem PySem.Spec L2 DL
noncomputable def spLaw : DSp := fun ds _ R _ => ∃ ns : List Int, ds = [.vl (ns.map D.int)] ∧ ns.length ≤ 63 ∧ ∀ M', R (.bl true) M'
end GM

namespace GM
open PySem PySem.Spec L2 DL
open RM (sz)
noncomputable def spDivisor : DSp := fun ds M R _ => ∃ a b : Nat, ds = [.int (a : Int), .int (b : Int)] ∧ R (.int ((Nat.gcd a b : Nat) : Int)) M
noncomputable def spOpp : DSp := fun ds M R _ => ∃ q : Rat, ds = [ratD q] ∧ R (ratD (-q)) M
noncomputable def spPlus : DSp := fun ds M R _ => ∃ q r : Rat, ds = [ratD q, ratD r] ∧ sz q + sz r ≤ 8900 ∧ R (ratD (q + r)) M
noncomputable def spMinus : DSp := fun ds M R _ => ∃ q r : Rat, ds = [ratD q, ratD r] ∧ sz q + sz r ≤ 8900 ∧ R (ratD (q - r)) M
noncomputable def spTimes : DSp := fun ds M R _ => ∃ q r : Rat, ds = [ratD q, ratD r] ∧ sz q + sz r ≤ 8900 ∧ R (ratD (q * r)) M
noncomputable def spOver : DSp := fun ds M R _ => ∃ q r : Rat, ds = [ratD q, ratD r] ∧ r ≠ 0 ∧ sz q + sz r ≤ 8900 ∧ R (ratD (q / r)) M
noncomputable def spLess : DSp := fun ds M R _ => ∃ q r : Rat, ds = [ratD q, ratD r] ∧ sz q + sz r ≤ 8900 ∧ R (.bl (decide (q < r))) M
theorem num_lt (q : Rat) : q.num.natAbs < 2 ^ sz q := Nat.lt_of_lt_of_le (RM.lt_bl _) (Nat.pow_le_pow_right (by decide) (RM.sz_num q))
theorem den_lt (q : Rat) : ((q.den : Int)).natAbs < 2 ^ sz q := by rw [Int.natAbs_natCast]; exact Nat.lt_of_lt_of_le (RM.lt_bl _) (Nat.pow_le_pow_right (by decide) (RM.sz_den q))
theorem mNN {q r : Rat} (h : sz q + sz r ≤ 8900) : IntMulOk q.num r.num := mulOk _ _ (num_lt q) (num_lt r) (by omega)
theorem mND {q r : Rat} (h : sz q + sz r ≤ 8900) : IntMulOk q.num (r.den : Int) := mulOk _ _ (num_lt q) (den_lt r) (by omega)
theorem mDD {q r : Rat} (h : sz q + sz r ≤ 8900) : IntMulOk (q.den : Int) (r.den : Int) := mulOk _ _ (den_lt q) (den_lt r) (by omega)
theorem mDN {q r : Rat} (h : sz q + sz r ≤ 8900) : IntMulOk (q.den : Int) r.num := mulOk _ _ (den_lt q) (num_lt r) (by omega)
theorem lDD {q r : Rat} (h : sz q + sz r ≤ 8900) : ((q.den : Int) * (r.den : Int)).natAbs.log2 < 9000 := by
  have h1 := RM.bl_mul q.den r.den
  have h2 := RM.sz_den q
  have h3 := RM.sz_den r
  rw [Int.natAbs_mul, Int.natAbs_natCast, Int.natAbs_natCast]
  unfold RM.bl at *
  omega
theorem lDN {q r : Rat} (h : sz q + sz r ≤ 8900) : ((q.den : Int) * r.num).natAbs.log2 < 9000 := by
  have h1 := RM.bl_mul q.den r.num.natAbs
  have h2 := RM.sz_den q
  have h3 := RM.sz_num r
  rw [Int.natAbs_mul, Int.natAbs_natCast]
  unfold RM.bl at *
  omega
theorem num_ne {r : Rat} (h : r ≠ 0) : r.num ≠ 0 := fun z => h (Rat.num_eq_zero.mp z)
noncomputable def absQ (q : Rat) : Rat := if 0 ≤ q then q else -q
theorem absQ_nn (q : Rat) : 0 ≤ absQ q := by
  unfold absQ; split
  · assumption
  · grind
theorem absQ_D (q : Rat) : ratD (absQ q) = .tup [.int (q.num.natAbs : Int), .int (q.den : Int)] := by
  unfold absQ ratD
  have hz : 0 ≤ q ↔ 0 ≤ q.num := Rat.num_nonneg.symm
  split
  · rename_i h
    have := hz.mp h
    rw [show q.num = (q.num.natAbs : Int) by omega]; simp
  · rename_i h
    have h' : ¬ 0 ≤ q.num := fun z => h (hz.mpr z)
    rw [Rat.neg_num, Rat.neg_den, show -q.num = (q.num.natAbs : Int) by omega]
end GM

namespace GM
open RM (sz)
theorem cd_sz {a : Rat} {A : Int} {D S : Nat} (hS : 0 < S) (hD : D ≠ 0) (hd : D < 2 ^ S) (h : a * (D : Rat) = (A : Rat)) (hA : A.natAbs < 2 ^ S) : sz a ≤ S := by
  have hD' : (D : Rat) ≠ 0 := by
    intro z; exact hD (by exact_mod_cast z)
  have e : a = Rat.divInt A (D : Int) := by
    rw [Rat.divInt_eq_div]
    have : a = (A : Rat) / (D : Rat) := by grind
    rw [this]; rfl
  rw [e]
  exact Nat.le_trans (RM.sz_divInt A D (by omega)) (Nat.max_le.mpr ⟨RM.bl_le hA hS, RM.bl_le (by rw [Int.natAbs_natCast]; exact hd) hS⟩)
structure CD (S : Nat) (a b c d : Rat) : Prop where
  ex : ∃ (A B C E : Int) (D : Nat), D ≠ 0 ∧ D < 2 ^ S ∧ (A.natAbs < 2 ^ S ∧ B.natAbs < 2 ^ S ∧ C.natAbs < 2 ^ S ∧ E.natAbs < 2 ^ S) ∧ a * (D : Rat) = (A : Rat) ∧ b * (D : Rat) = (B : Rat) ∧ c * (D : Rat) = (C : Rat) ∧ d * (D : Rat) = (E : Rat)
theorem num_lt' (q : Rat) {k : Nat} (h : sz q ≤ k) : q.num.natAbs < 2 ^ k := Nat.lt_of_lt_of_le (RM.lt_bl _) (Nat.pow_le_pow_right (by decide) (Nat.le_trans (RM.sz_num q) h))
theorem den_lt' (q : Rat) {k : Nat} (h : sz q ≤ k) : q.den < 2 ^ k := Nat.lt_of_lt_of_le (RM.lt_bl _) (Nat.pow_le_pow_right (by decide) (Nat.le_trans (RM.sz_den q) h))
theorem mul_den (q : Rat) : q * (q.den : Rat) = (q.num : Rat) := by
  have h : (q.den : Rat) ≠ 0 := by
    intro z; exact q.den_nz (by exact_mod_cast z)
  have e := Rat.num_divInt_den q
  rw [Rat.divInt_eq_div, Rat.intCast_natCast] at e
  grind
theorem nat_mul_lt {a b m n : Nat} (h1 : a < 2 ^ m) (h2 : b < 2 ^ n) : a * b < 2 ^ (m + n) := by
  rw [Nat.pow_add]; exact Nat.mul_lt_mul'' h1 h2
theorem int_mul_lt {a b : Int} {m n : Nat} (h1 : a.natAbs < 2 ^ m) (h2 : b.natAbs < 2 ^ n) : (a * b).natAbs < 2 ^ (m + n) := by
  rw [Int.natAbs_mul]; exact nat_mul_lt h1 h2
theorem int_add_lt {a b : Int} {m : Nat} (h1 : a.natAbs < 2 ^ m) (h2 : b.natAbs < 2 ^ m) : (a + b).natAbs < 2 ^ (m + 1) := by
  have := Int.natAbs_add_le a b
  rw [Nat.pow_succ]; omega
theorem lt_up {a m n : Nat} (h : a < 2 ^ m) (hn : m ≤ n) : a < 2 ^ n := Nat.lt_of_lt_of_le h (Nat.pow_le_pow_right (by decide) hn)
theorem CD.one : CD 1 1 0 0 1 := ⟨1, 0, 0, 1, 1, by decide, by decide, ⟨by decide, by decide, by decide, by decide⟩, by grind, by grind, by grind, by grind⟩
theorem CD.neg {S : Nat} {a b c d : Rat} (h : CD S a b c d) : CD S (-a) (-b) (-c) (-d) := by
  obtain ⟨A, B, C, E, D, h0, hd, ⟨h1, h2, h3, h4⟩, e1, e2, e3, e4⟩ := h.ex
  refine ⟨-A, -B, -C, -E, D, h0, hd, ⟨by rw [Int.natAbs_neg]; exact h1, by rw [Int.natAbs_neg]; exact h2, by rw [Int.natAbs_neg]; exact h3, by rw [Int.natAbs_neg]; exact h4⟩, ?_, ?_, ?_, ?_⟩ <;> (rw [Rat.intCast_neg]; grind)
theorem CD.swap {S : Nat} {a b c d : Rat} (h : CD S a b c d) : CD S c d a b := by
  obtain ⟨A, B, C, E, D, h0, hd, ⟨h1, h2, h3, h4⟩, e1, e2, e3, e4⟩ := h.ex
  exact ⟨C, E, A, B, D, h0, hd, ⟨h3, h4, h1, h2⟩, e3, e4, e1, e2⟩
theorem CD.step {S k : Nat} {a b c d q : Rat} (h : CD S a b c d) (hq : sz q ≤ k) : CD (S + k + 1) (a + q * c) (b + q * d) c d := by
  obtain ⟨A, B, C, E, D, h0, hd, ⟨h1, h2, h3, h4⟩, e1, e2, e3, e4⟩ := h.ex
  have hn := num_lt' q hq
  have hm := den_lt' q hq
  have hm' : (q.den : Int).natAbs < 2 ^ k := by rw [Int.natAbs_natCast]; exact hm
  have e := mul_den q
  have z : ∀ {X : Int}, X.natAbs < 2 ^ S → (X * (q.den : Int)).natAbs < 2 ^ (S + k) := fun h => int_mul_lt h hm'
  have z2 : ∀ {X : Int}, X.natAbs < 2 ^ S → (X * q.num).natAbs < 2 ^ (S + k) := fun h => int_mul_lt h hn
  refine ⟨A * (q.den : Int) + C * q.num, B * (q.den : Int) + E * q.num, C * (q.den : Int), E * (q.den : Int), D * q.den, Nat.mul_ne_zero h0 q.den_nz, lt_up (nat_mul_lt hd hm) (by omega),
    ⟨int_add_lt (z h1) (z2 h3), int_add_lt (z h2) (z2 h4), lt_up (z h3) (by omega), lt_up (z h4) (by omega)⟩, ?_, ?_, ?_, ?_⟩
  all_goals (simp only [Rat.natCast_mul, Rat.intCast_add, Rat.intCast_mul, Rat.intCast_natCast]; grind)
theorem CD.scale {S k : Nat} {a b c d q r : Rat} (h : CD S a b c d) (hq : sz q ≤ k) (hp : 0 < q.num) (hr : r * q = 1) : CD (S + 2 * k) (q * a) (q * b) (r * c) (r * d) := by
  obtain ⟨A, B, C, E, D, h0, hd, ⟨h1, h2, h3, h4⟩, e1, e2, e3, e4⟩ := h.ex
  have hn := num_lt' q hq
  have hm := den_lt' q hq
  have hm' : (q.den : Int).natAbs < 2 ^ k := by rw [Int.natAbs_natCast]; exact hm
  have e := mul_den q
  obtain ⟨n, en⟩ : ∃ n : Nat, q.num = (n : Int) := ⟨q.num.toNat, by omega⟩
  rw [en] at hn e hp
  rw [Int.natAbs_natCast] at hn
  rw [Rat.intCast_natCast] at e
  have hn' : (n : Int).natAbs < 2 ^ k := by rw [Int.natAbs_natCast]; exact hn
  refine ⟨A * ((n : Int) * n), B * ((n : Int) * n), C * ((q.den : Int) * q.den), E * ((q.den : Int) * q.den), D * (n * q.den), Nat.mul_ne_zero h0 (Nat.mul_ne_zero (by omega) q.den_nz), ?_, ⟨?_, ?_, ?_, ?_⟩, ?_, ?_, ?_, ?_⟩
  · rw [show S + 2 * k = S + (k + k) by omega]; exact nat_mul_lt hd (nat_mul_lt hn hm)
  · rw [show S + 2 * k = S + (k + k) by omega]; exact int_mul_lt h1 (int_mul_lt hn' hn')
  · rw [show S + 2 * k = S + (k + k) by omega]; exact int_mul_lt h2 (int_mul_lt hn' hn')
  · rw [show S + 2 * k = S + (k + k) by omega]; exact int_mul_lt h3 (int_mul_lt hm' hm')
  · rw [show S + 2 * k = S + (k + k) by omega]; exact int_mul_lt h4 (int_mul_lt hm' hm')
  all_goals (simp only [Rat.natCast_mul, Rat.intCast_mul, Rat.intCast_natCast]; grind)
end GM

namespace GM
open PySem PySem.Spec L2 DL
open RM (sz)
noncomputable abbrev rayD (y u : Rat) : D := .tup [ratD y, ratD u]
structure T4 (S : Nat) (a b c d : Rat) : Prop where
  a : sz a ≤ S
  b : sz b ≤ S
  c : sz c ≤ S
  d : sz d ≤ S
structure T2 (S : Nat) (y u : Rat) : Prop where
  y : sz y ≤ S
  u : sz u ≤ S
theorem CD.t4 {S : Nat} {a b c d : Rat} (h : CD S a b c d) (hS : 0 < S := by omega) : T4 S a b c d := by
  obtain ⟨A, B, C, E, D, h0, hd, ⟨h1, h2, h3, h4⟩, e1, e2, e3, e4⟩ := h.ex
  exact ⟨cd_sz hS h0 hd e1 h1, cd_sz hS h0 hd e2 h2, cd_sz hS h0 hd e3 h3, cd_sz hS h0 hd e4 h4⟩
theorem CD.mono {S S' : Nat} {a b c d : Rat} (h : CD S a b c d) (hs : S ≤ S') : CD S' a b c d := by
  obtain ⟨A, B, C, E, D, h0, hd, ⟨h1, h2, h3, h4⟩, e1, e2, e3, e4⟩ := h.ex
  exact ⟨A, B, C, E, D, h0, lt_up hd hs, ⟨lt_up h1 hs, lt_up h2 hs, lt_up h3 hs, lt_up h4 hs⟩, e1, e2, e3, e4⟩
end GM

namespace GM
open PySem PySem.Spec L2 DL
open RM (sz)
theorem ratD_int (n : Int) : ratD (n : Rat) = .tup [.int n, .int 1] := by
  unfold ratD
  rw [Rat.num_intCast, Rat.den_intCast]; rfl
theorem sz_int {n : Int} {k : Nat} (hk : 0 < k) (h : n.natAbs < 2 ^ k) : sz (n : Rat) ≤ k := by
  refine RM.sz_small _ hk ?_ ?_
  · rw [Rat.num_intCast]; exact h
  · rw [Rat.den_intCast]; exact Nat.one_lt_two_pow (by omega)
theorem sz_abs (q : Rat) : sz (absQ q) = sz q := by
  unfold absQ; split
  · rfl
  · exact RM.sz_neg q
theorem abs_pos {q : Rat} (h : q ≠ 0) : 0 < absQ q := by
  unfold absQ; split
  · grind
  · grind
noncomputable def partD (x : Str × Rat) : D := .tup [.str x.1, ratD x.2]
structure PartOk (x : Str × Rat) : Prop where
  kind : (x.1 = "gap" ∧ 0 ≤ x.2) ∨ x.1 = "glass" ∨ (x.1 = "stop" ∧ 0 < x.2)
  sz : RM.sz x.2 ≤ 41
noncomputable def ledP (x : Str × Rat) (y u : Rat) : Rat × Rat := if x.1 = "gap" then (y + x.2 * u, u) else if x.1 = "glass" then (y, u - x.2 * y) else (y, u)
noncomputable def outP (bs : List (Str × Rat)) (r : Rat × Rat) : Rat × Rat := bs.foldl (fun r x => ledP x r.1 r.2) r
theorem CD.led {S : Nat} {x : Str × Rat} {y u : Rat} (h : CD S y 0 u 0) (hx : sz x.2 ≤ 41) : CD (S + 42) (ledP x y u).1 0 (ledP x y u).2 0 := by
  unfold ledP
  split
  · have := h.step hx
    rw [show (0 : Rat) + x.2 * 0 = 0 by grind] at this
    exact this
  · split
    · have := (h.swap.step (q := -x.2) (k := 41) (by rw [RM.sz_neg]; exact hx)).swap
      rw [show (0 : Rat) + -x.2 * 0 = 0 by grind, show u + -x.2 * y = u - x.2 * y by grind] at this
      exact this
    · exact h.mono (by omega)
theorem CD.t2 {S : Nat} {y u : Rat} (h : CD S y 0 u 0) (hS : 0 < S := by omega) : T2 S y u := ⟨h.t4.a, h.t4.c⟩
theorem CD.ray {y u : Rat} {k : Nat} (h1 : sz y ≤ k) (h2 : sz u ≤ k) : CD (2 * k) y 0 u 0 := by
  have n1 := num_lt' y h1
  have d1 := den_lt' y h1
  have n2 := num_lt' u h2
  have d2 := den_lt' u h2
  have d1' : (y.den : Int).natAbs < 2 ^ k := by rw [Int.natAbs_natCast]; exact d1
  have d2' : (u.den : Int).natAbs < 2 ^ k := by rw [Int.natAbs_natCast]; exact d2
  have e1 := mul_den y
  have e2 := mul_den u
  refine ⟨y.num * (u.den : Int), 0, u.num * (y.den : Int), 0, y.den * u.den, Nat.mul_ne_zero y.den_nz u.den_nz, ?_, ⟨?_, ?_, ?_, ?_⟩, ?_, ?_, ?_, ?_⟩
  · rw [show 2 * k = k + k by omega]; exact nat_mul_lt d1 d2
  · rw [show 2 * k = k + k by omega]; exact int_mul_lt n1 d2'
  · exact Nat.two_pow_pos _
  · rw [show 2 * k = k + k by omega]; exact int_mul_lt n2 d1'
  · exact Nat.two_pow_pos _
  all_goals (simp only [Rat.natCast_mul, Rat.intCast_mul, Rat.intCast_natCast, Rat.intCast_zero]; grind)
theorem out_take {bs : List (Str × Rat)} {i : Nat} {x : Str × Rat} (h : bs[i]? = some x) (r : Rat × Rat) : outP (bs.take (i + 1)) r = ledP x (outP (bs.take i) r).1 (outP (bs.take i) r).2 := by
  obtain ⟨hl, he⟩ := List.getElem?_eq_some_iff.mp h
  unfold outP
  rw [List.take_succ_eq_append_getElem hl, List.foldl_append, he]
  rfl
theorem out_cd {bs : List (Str × Rat)} {y u : Rat} {S : Nat} (h : CD S y 0 u 0) (hb : ∀ x ∈ bs, PartOk x) : CD (S + 42 * bs.length) (outP bs (y, u)).1 0 (outP bs (y, u)).2 0 := by
  induction bs generalizing y u S with
  | nil => exact h
  | cons x r ih =>
    have h1 := h.led (hb x List.mem_cons_self).sz
    have h2 := ih (y := (ledP x y u).1) (u := (ledP x y u).2) h1 fun z hz => hb z (List.mem_cons_of_mem _ hz)
    exact h2.mono (by simp only [List.length_cons]; omega)
theorem part_item {bs : List (Str × Rat)} {i : Nat} {d : D} (h : (bs.map partD)[i]? = some d) : ∃ x, bs[i]? = some x ∧ d = partD x := by
  rw [List.getElem?_map] at h
  cases e : bs[i]? with
  | none => rw [e] at h; cases h
  | some x => rw [e] at h; exact ⟨x, rfl, (Option.some.inj h).symm⟩
end GM

namespace GM
open PySem PySem.Spec L2 DL
open RM (sz)
end GM

namespace GM
open PySem PySem.Spec L2 DL
open RM (sz)
end GM

namespace GM
open PySem PySem.Spec L2 DL
open RM (sz)
noncomputable def spAbs : DSp := fun ds M R _ => ∃ q : Rat, ds = [ratD q] ∧ R (ratD (absQ q)) M
end GM

namespace GM
open PySem PySem.Spec L2 DL
open RM (sz)
theorem partD_inj {x y : Str × Rat} (h : partD x = partD y) : x = y := by
  unfold partD at h
  injection h with h
  injection h with h1 h2
  injection h1 with h1
  injection h2 with h2 _
  exact Prod.ext h1 (ratD_inj h2)
theorem partD_iff {x y : Str × Rat} : partD x = partD y ↔ x = y := ⟨partD_inj, fun h => by rw [h]⟩
theorem partsD_iff {xs ys : List (Str × Rat)} : xs.map partD = ys.map partD ↔ xs = ys := List.map_inj_right (fun _ _ h => partD_inj h)
noncomputable def lineD (l : Rat × Rat × Rat) : D := .tup [ratD l.1, ratD l.2.1, ratD l.2.2]
theorem lineD_inj {x y : Rat × Rat × Rat} (h : lineD x = lineD y) : x = y := by
  unfold lineD at h
  injection h with h
  injection h with h1 h2
  injection h2 with h2 h3
  injection h3 with h3 _
  exact Prod.ext (ratD_inj h1) (Prod.ext (ratD_inj h2) (ratD_inj h3))
theorem lineD_iff {x y : Rat × Rat × Rat} : lineD x = lineD y ↔ x = y := ⟨lineD_inj, fun h => by rw [h]⟩
theorem linesD_iff {xs ys : List (Rat × Rat × Rat)} : xs.map lineD = ys.map lineD ↔ xs = ys := List.map_inj_right (fun _ _ h => lineD_inj h)
theorem r_line {p q r : Rat} : D.tup [ratD p, ratD q, ratD r] = lineD (p, q, r) := rfl
theorem z_lineG {gs : DTGs} {l : Rat × Rat × Rat} {e : Ev} {M : Mem} {Q : Ev → Mem → Prop} : dgTup 3 gs (lineD l) e M Q = gs [ratD l.1, ratD l.2.1, ratD l.2.2] e M Q := z_gTup rfl
theorem z_line0 {l : Rat × Rat × Rat} {M : Mem} {R : DK} : gIx (lineD l) (.int 0) M R = R (ratD l.1) M := z_ixT0
theorem z_line1 {l : Rat × Rat × Rat} {M : Mem} {R : DK} : gIx (lineD l) (.int 1) M R = R (ratD l.2.1) M := z_ixT1
theorem z_line2 {l : Rat × Rat × Rat} {M : Mem} {R : DK} : gIx (lineD l) (.int 2) M R = R (ratD l.2.2) M := z_ixT2
theorem z_rat0 {q : Rat} {M : Mem} {R : DK} : gIx (ratD q) (.int 0) M R = R (.int q.num) M := z_ixT0
theorem z_rat1 {q : Rat} {M : Mem} {R : DK} : gIx (ratD q) (.int 1) M R = R (.int (q.den : Int)) M := z_ixT1
theorem z_ratG {gs : DTGs} {q : Rat} {e : Ev} {M : Mem} {Q : Ev → Mem → Prop} : dgTup 2 gs (ratD q) e M Q = gs [.int q.num, .int (q.den : Int)] e M Q := z_gTup rfl
theorem z_ratL {q : Rat} {M : Mem} {R : DK} : gLen [ratD q] M R = R (.int 2) M := z_Len rfl
theorem z_part0 {x : Str × Rat} {M : Mem} {R : DK} : gIx (partD x) (.int 0) M R = R (.str x.1) M := z_ixT0
theorem z_part1 {x : Str × Rat} {M : Mem} {R : DK} : gIx (partD x) (.int 1) M R = R (ratD x.2) M := z_ixT1
theorem z_partG {gs : DTGs} {x : Str × Rat} {e : Ev} {M : Mem} {Q : Ev → Mem → Prop} : dgTup 2 gs (partD x) e M Q = gs [.str x.1, ratD x.2] e M Q := z_gTup rfl
theorem z_ratIsT {q : Rat} {M : Mem} {R : DK} : gIsi [ratD q, .ty "tuple"] M R = R (.bl true) M := z_Isi rfl rfl
theorem z_partIsT {x : Str × Rat} {M : Mem} {R : DK} : gIsi [partD x, .ty "tuple"] M R = R (.bl true) M := z_Isi rfl rfl
theorem z_partL {x : Str × Rat} {M : Mem} {R : DK} : gLen [partD x] M R = R (.int 2) M := z_Len rfl
theorem z_clR60 {q : Rat} : cl 60 (ratD q) = true := rfl
theorem z_clR59 {q : Rat} : cl 59 (ratD q) = true := rfl
theorem z_clR58 {q : Rat} : cl 58 (ratD q) = true := rfl
theorem z_clR57 {q : Rat} : cl 57 (ratD q) = true := rfl
theorem r0 : D.tup [.int 0, .int 1] = ratD 0 := rfl
theorem r1 : D.tup [.int 1, .int 1] = ratD 1 := rfl
theorem r2 : D.tup [.int 2, .int 1] = ratD 2 := rfl
theorem r4 : D.tup [.int 4, .int 1] = ratD 4 := rfl
theorem r_abs {q : Rat} : D.tup [.int (q.num.natAbs : Int), .int (q.den : Int)] = ratD (absQ q) := (absQ_D q).symm
theorem r_neg {q : Rat} : D.tup [.int (-q.num), .int (q.den : Int)] = ratD (-q) := by unfold ratD; rw [Rat.neg_num, Rat.neg_den]
theorem r_self {q : Rat} : D.tup [.int q.num, .int (q.den : Int)] = ratD q := rfl
theorem rm2 : D.tup [.int (-2), .int 1] = ratD (-2) := rfl
theorem rm1 : D.tup [.int (-1), .int 1] = ratD (-1) := rfl
local macro_rules | `(tactic| walk_at "inj") => `(tactic| (rename_i e h; simp only [List.cons.injEq, and_true, true_and, GM.ratD_iff, GM.partD_iff, GM.partsD_iff, GM.lineD_iff, GM.linesD_iff, D.tup.injEq, D.ref.injEq, D.int.injEq, D.str.injEq, D.bl.injEq, D.vl.injEq, Int.natCast_inj, and_assoc] at e; (repeat (obtain ⟨e1, e⟩ := e; subst e1)); subst e; exact h))
local macro_rules | `(tactic| walk_at "injs") => `(tactic| (rename_i e o h; rcases o with o | o <;> (subst o; first | (exfalso; simp only [D.tup.injEq, List.cons.injEq, reduceCtorEq, false_and, and_false] at e; done) | (simp only [List.cons.injEq, and_true, true_and, GM.ratD_iff, GM.partD_iff, GM.partsD_iff, GM.lineD_iff, GM.linesD_iff, D.tup.injEq, D.ref.injEq, D.int.injEq, D.str.injEq, D.bl.injEq, D.vl.injEq, Int.natCast_inj, and_assoc] at e; (repeat (obtain ⟨e1, e⟩ := e; subst e1)); subst e; exact h))))
theorem z_spDivisor {a b : Nat} {M : Mem} {R : DK} {Y : DXK} : spDivisor [.int (a : Int), .int (b : Int)] M R Y = (R (.int ((Nat.gcd a b : Nat) : Int)) M) := propext ⟨fun z => by obtain ⟨_, _, _, _⟩ := z; walk_at "inj", fun h => ⟨a, b, rfl, h⟩⟩
theorem z_spOpp {q : Rat} {M : Mem} {R : DK} {Y : DXK} : spOpp [ratD q] M R Y = (R (ratD (-q)) M) := propext ⟨fun z => by obtain ⟨_, _, _⟩ := z; walk_at "inj", fun h => ⟨q, rfl, h⟩⟩
theorem z_spPlus {q r : Rat} {M : Mem} {R : DK} {Y : DXK} : spPlus [ratD q, ratD r] M R Y = (sz q + sz r ≤ 8900 ∧ R (ratD (q + r)) M) := propext ⟨fun z => by obtain ⟨_, _, _, _⟩ := z; walk_at "inj", fun h => ⟨q, r, rfl, h⟩⟩
theorem z_spMinus {q r : Rat} {M : Mem} {R : DK} {Y : DXK} : spMinus [ratD q, ratD r] M R Y = (sz q + sz r ≤ 8900 ∧ R (ratD (q - r)) M) := propext ⟨fun z => by obtain ⟨_, _, _, _⟩ := z; walk_at "inj", fun h => ⟨q, r, rfl, h⟩⟩
theorem z_spTimes {q r : Rat} {M : Mem} {R : DK} {Y : DXK} : spTimes [ratD q, ratD r] M R Y = (sz q + sz r ≤ 8900 ∧ R (ratD (q * r)) M) := propext ⟨fun z => by obtain ⟨_, _, _, _⟩ := z; walk_at "inj", fun h => ⟨q, r, rfl, h⟩⟩
theorem z_spOver {q r : Rat} {M : Mem} {R : DK} {Y : DXK} : spOver [ratD q, ratD r] M R Y = (r ≠ 0 ∧ sz q + sz r ≤ 8900 ∧ R (ratD (q / r)) M) := propext ⟨fun z => by obtain ⟨_, _, _, _⟩ := z; walk_at "inj", fun h => ⟨q, r, rfl, h⟩⟩
theorem z_spLess {q r : Rat} {M : Mem} {R : DK} {Y : DXK} : spLess [ratD q, ratD r] M R Y = (sz q + sz r ≤ 8900 ∧ R (.bl (decide (q < r))) M) := propext ⟨fun z => by obtain ⟨_, _, _, _⟩ := z; walk_at "inj", fun h => ⟨q, r, rfl, h⟩⟩
theorem z_spLow {a b : Int} {M : Mem} {R : DK} {Y : DXK} : spLow [.int a, .int b] M R Y = (b ≠ 0 ∧ b.natAbs.log2 < 9000 ∧ R (ratD (Rat.divInt a b)) M) := propext ⟨fun z => by obtain ⟨_, _, _, _⟩ := z; walk_at "inj", fun h => ⟨a, b, rfl, h⟩⟩
theorem z_spPool {c : Int} {M : Mem} {R : DK} {Y : DXK} : spPool [.int c] M R Y = (∀ p M', M p = none → MK M M' → PoolAt M' p → R (.ref p) M') := propext ⟨fun z => by obtain ⟨_, _, _⟩ := z; walk_at "inj", fun h => ⟨c, rfl, h⟩⟩
theorem z_spNext {p : Addr} {b : Int} {M : Mem} {R : DK} {Y : DXK} : spNext [.ref p, .int b] M R Y = (PoolAt M p ∧ 0 < b ∧ b.natAbs.log2 < 9000 ∧ ∀ (r : Int) M', 0 ≤ r → r < b → PStep p M M' → R (.int r) M') := propext ⟨fun z => by obtain ⟨_, _, _, _⟩ := z; walk_at "inj", fun h => ⟨p, b, rfl, h⟩⟩
theorem z_spNumber {p : Addr} {M : Mem} {R : DK} {Y : DXK} : spNumber [.ref p] M R Y = (PoolAt M p ∧ ∀ (q : Rat) M', RM.sz q ≤ 41 → PStep p M M' → R (ratD q) M') := propext ⟨fun z => by obtain ⟨_, _, _⟩ := z; walk_at "inj", fun h => ⟨p, rfl, h⟩⟩
theorem z_spAbs {q : Rat} {M : Mem} {R : DK} {Y : DXK} : spAbs [ratD q] M R Y = (R (ratD (absQ q)) M) := propext ⟨fun z => by obtain ⟨_, _, _⟩ := z; walk_at "inj", fun h => ⟨q, rfl, h⟩⟩
noncomputable abbrev sLedP_b (x : Str × Rat) (y u : Rat) (M : Mem) (R : DK) (Y : DXK) : Prop := sz x.2 + sz y + sz u ≤ 8900 ∧ R (rayD (ledP x y u).1 (ledP x y u).2) M
noncomputable def sLedP : DSp := fun ds M R Y => ∃ (x : Str × Rat) (y u : Rat), ds = [partD x, rayD y u] ∧ sLedP_b x y u M R Y
theorem z_sLedP {x : Str × Rat} {y u : Rat} {M : Mem} {R : DK} {Y : DXK} : sLedP [partD x, rayD y u] M R Y = (sLedP_b x y u M R Y) := propext ⟨fun z => by obtain ⟨_, _, _, _, _⟩ := z; walk_at "inj", fun h => ⟨x, y, u, rfl, h⟩⟩
theorem cl_lst {k : Nat} : ∀ {ds : List D}, (∀ x ∈ ds, cl k x = true) → clL k ds = true
  | [], _ => rfl
  | d :: r, h => by
    show (cl k d && clL k r) = true
    rw [h d List.mem_cons_self, cl_lst (fun x hx => h x (List.mem_cons_of_mem _ hx))]; rfl
theorem take_cd' {bs : List (Str × Rat)} {y u : Rat} {S : Nat} (h : CD S y 0 u 0) (hb : ∀ x ∈ bs, PartOk x) (i : Nat) : CD (S + 42 * bs.length) (outP (bs.take i) (y, u)).1 0 (outP (bs.take i) (y, u)).2 0 :=
  (out_cd h fun x hx => hb x (List.mem_of_mem_take hx)).mono (by
    rw [List.length_take]; omega)
theorem PartOk.app {xs : List (Str × Rat)} {x : Str × Rat} (h : ∀ z ∈ xs, PartOk z) (hx : PartOk x) : ∀ z ∈ xs ++ [x], PartOk z := fun z hz => by
  rcases List.mem_append.mp hz with z1 | z1
  · exact h z z1
  · rw [List.mem_singleton.mp z1]; exact hx
theorem PStep.del {p l : Addr} {M M' : Mem} (h : PStep p M M') (hl : M l = none) (hp : l ≠ p) : PStep p M (delM M' l) := ⟨fun b u hb e => by
    rw [delM_ne (by intro z; subst z; rw [hl] at e; cases e)]; exact h.keep b u hb e, by
    obtain ⟨x, y, z, e⟩ := h.pool.ex
    exact ⟨x, y, z, by rw [delM_ne (Ne.symm hp)]; exact e⟩⟩
theorem cut_to {ds : List D} {n : Nat} : cutD ds none (some (n : Int)) = ds.take n := by
  unfold cutD HT.sIx
  simp only [List.drop_zero, Nat.sub_zero]
  rw [if_neg (by omega)]
  by_cases h : n ≤ ds.length
  · congr 1; omega
  · rw [List.take_of_length_le (by omega), List.take_of_length_le (by omega)]
noncomputable def rq (a : Int) (b : Nat) (h : b ≠ 0 := by decide) (c : a.natAbs.Coprime b := by decide) : Rat := ⟨a, b, h, c⟩
theorem part_cl {x : Str × Rat} (h : PartOk x) : cl 59 (partD x) = true := by
  have hs : PyData.canLay0 (.str x.1) = true := by
    rcases h.kind with ⟨e, _⟩ | e | ⟨e, _⟩ <;> rw [e] <;> decide +kernel
  show (PyData.canLay0 (.str x.1) && (cl 58 (ratD x.2) && true)) = true
  rw [hs]; rfl
end GM

set_option maxHeartbeats 1000000
namespace GM
open PySem PySem.Spec L2 DL
open RM (sz)
theorem gIx_mem {xs : List D} {r : Int} {M : Mem} {R : DK} (h0 : 0 ≤ r) (h1 : r < xs.length) (h : ∀ d ∈ xs, R d M) : gIx (.vl xs) (.int r) M R := by
  obtain ⟨z, e, hz⟩ := atI_mem h0 h1
  exact ⟨z, e, h z hz⟩
noncomputable def letB (l : Rat × Rat × Rat) (y u : Rat) : Bool := decide (absQ (l.1 * y + l.2.1 * u) ≤ l.2.2)
noncomputable def letsB (ls : List (Rat × Rat × Rat)) (y u : Rat) : Bool := ls.all fun l => letB l y u
structure LSz (n : Nat) (l : Rat × Rat × Rat) : Prop where
  p : sz l.1 ≤ n
  q : sz l.2.1 ≤ n
  r : sz l.2.2 ≤ n
local macro_rules | `(tactic| walk_at "inj") => `(tactic| (rename_i e h; simp only [List.cons.injEq, and_true, true_and, GM.ratD_iff, GM.partD_iff, GM.partsD_iff, GM.lineD_iff, GM.linesD_iff, D.tup.injEq, D.ref.injEq, D.int.injEq, D.str.injEq, D.bl.injEq, D.vl.injEq, Int.natCast_inj, and_assoc] at e; (repeat (obtain ⟨e1, e⟩ := e; subst e1)); subst e; exact h))
local macro_rules | `(tactic| walk_at "injs") => `(tactic| (rename_i e o h; rcases o with o | o <;> (subst o; first | (exfalso; simp only [D.tup.injEq, List.cons.injEq, reduceCtorEq, false_and, and_false] at e; done) | (simp only [List.cons.injEq, and_true, true_and, GM.ratD_iff, GM.partD_iff, GM.partsD_iff, GM.lineD_iff, GM.linesD_iff, D.tup.injEq, D.ref.injEq, D.int.injEq, D.str.injEq, D.bl.injEq, D.vl.injEq, Int.natCast_inj, and_assoc] at e; (repeat (obtain ⟨e1, e⟩ := e; subst e1)); subst e; exact h))))
theorem mulsz {a b : Int} {m n : Nat} (h1 : a.natAbs < 2 ^ m) (h2 : b.natAbs < 2 ^ n) : (a * b).natAbs < 2 ^ (m + n) := by
  rw [Int.natAbs_mul, Nat.pow_add]
  exact Nat.mul_lt_mul_of_lt_of_le h1 (Nat.le_of_lt h2) (Nat.pow_pos (by decide))
theorem line_item {ls : List (Rat × Rat × Rat)} {i : Nat} {d : D} (h : (ls.map lineD)[i]? = some d) : ∃ l, ls[i]? = some l ∧ d = lineD l := by
  rw [List.getElem?_map] at h
  cases e : ls[i]? with
  | none => rw [e] at h; cases h
  | some l => rw [e] at h; exact ⟨l, rfl, (Option.some.inj h).symm⟩
structure Small (w : Rat) : Prop where
  n : w.num.natAbs ≤ 4
  d : w.den ≤ 4
  ne : w ≠ 0
theorem small_one : Small 1 := ⟨by decide, by decide, by decide⟩
theorem Small.sz {w : Rat} (h : Small w) : RM.sz w ≤ 3 := by
  rw [← Rat.num_divInt_den w]
  exact low_sz (by decide) (by have := h.n; omega) (by have := h.d; omega) (RM.den_ne w)
noncomputable def rD (r : Rat × Rat) : D := rayD r.1 r.2
end GM

namespace GM
open PySem PySem.Spec L2 DL
open RM (sz)
theorem cd10 : CD 90 1 0 0 0 := ⟨1, 0, 0, 0, 1, by decide, by decide, ⟨by decide, by decide, by decide, by decide⟩, by grind, by grind, by grind, by grind⟩
theorem cd01 : CD 90 0 0 1 0 := ⟨0, 0, 1, 0, 1, by decide, by decide, ⟨by decide, by decide, by decide, by decide⟩, by grind, by grind, by grind, by grind⟩
noncomputable def lnsN (bs : List (Str × Rat)) : Nat → List (Rat × Rat × Rat)
  | 0 => []
  | i + 1 => lnsN bs i ++ (match bs[i]? with | some x => (if x.1 = "stop" then [((outP (bs.take i) (1, 0)).1, (outP (bs.take i) (0, 1)).1, x.2)] else []) | none => [])
theorem lnsN_stop {bs : List (Str × Rat)} {i : Nat} {x : Str × Rat} (h : bs[i]? = some x) (hx : x.1 = "stop") : lnsN bs (i + 1) = lnsN bs i ++ [((outP (bs.take i) (1, 0)).1, (outP (bs.take i) (0, 1)).1, x.2)] := by
  show lnsN bs i ++ _ = _
  rw [h]; simp only [if_pos hx]
theorem lnsN_not {bs : List (Str × Rat)} {i : Nat} {x : Str × Rat} (h : bs[i]? = some x) (hx : ¬ x.1 = "stop") : lnsN bs (i + 1) = lnsN bs i := by
  show lnsN bs i ++ _ = _
  rw [h]; simp only [if_neg hx, List.append_nil]
theorem lnsN_len (bs : List (Str × Rat)) : ∀ i, (lnsN bs i).length ≤ i
  | 0 => Nat.le_refl 0
  | i + 1 => by
    have := lnsN_len bs i
    show (lnsN bs i ++ _).length ≤ i + 1
    rw [List.length_append]
    split
    · split
      · show _ + 1 ≤ _; omega
      · show _ + 0 ≤ _; omega
    · show _ + 0 ≤ _; omega
theorem lnsN_sz {bs : List (Str × Rat)} (hl : bs.length ≤ 12) (hok : ∀ x ∈ bs, PartOk x) : ∀ i, ∀ l ∈ lnsN bs i, LSz 600 l
  | 0, l, h => by cases h
  | i + 1, l, h => by
    rcases List.mem_append.mp h with h | h
    · exact lnsN_sz hl hok i l h
    · cases e : bs[i]? with
      | none => rw [e] at h; cases h
      | some x =>
        replace h : l ∈ (if x.1 = "stop" then [((outP (bs.take i) (1, 0)).1, (outP (bs.take i) (0, 1)).1, x.2)] else []) := by rw [e] at h; exact h
        by_cases hx : x.1 = "stop"
        · rw [if_pos hx] at h
          rw [List.mem_singleton.mp h]
          have c1 : CD 90 1 0 0 0 := cd10
          have c2 : CD 90 0 0 1 0 := cd01
          have t1 := (take_cd' c1 hok i).t2
          have t2 := (take_cd' c2 hok i).t2
          have a1 := t1.y
          have a2 := t2.y
          have a3 := (hok x (List.mem_of_getElem? e)).sz
          exact ⟨by show sz (outP (bs.take i) (1, 0)).1 ≤ 600; omega, by show sz (outP (bs.take i) (0, 1)).1 ≤ 600; omega, by show sz x.2 ≤ 600; omega⟩
        · rw [if_neg hx] at h; cases h
local macro_rules | `(tactic| walk_at "inj") => `(tactic| (rename_i e h; simp only [List.cons.injEq, and_true, true_and, GM.ratD_iff, GM.partD_iff, GM.partsD_iff, GM.lineD_iff, GM.linesD_iff, D.tup.injEq, D.ref.injEq, D.int.injEq, D.str.injEq, D.bl.injEq, D.vl.injEq, Int.natCast_inj, and_assoc] at e; (repeat (obtain ⟨e1, e⟩ := e; subst e1)); subst e; exact h))
local macro_rules | `(tactic| walk_at "injs") => `(tactic| (rename_i e o h; rcases o with o | o <;> (subst o; first | (exfalso; simp only [D.tup.injEq, List.cons.injEq, reduceCtorEq, false_and, and_false] at e; done) | (simp only [List.cons.injEq, and_true, true_and, GM.ratD_iff, GM.partD_iff, GM.partsD_iff, GM.lineD_iff, GM.linesD_iff, D.tup.injEq, D.ref.injEq, D.int.injEq, D.str.injEq, D.bl.injEq, D.vl.injEq, Int.natCast_inj, and_assoc] at e; (repeat (obtain ⟨e1, e⟩ := e; subst e1)); subst e; exact h))))
noncomputable abbrev sLinesOf_b (bs : List (Str × Rat)) (M : Mem) (R : DK) (Y : DXK) : Prop := (bs.length ≤ 12 ∧ ∀ x ∈ bs, PartOk x) ∧ R (.vl ((lnsN bs bs.length).map lineD)) M
noncomputable def sLinesOf : DSp := fun ds M R Y => ∃ (x0 : D) (bs : List (Str × Rat)), ds = [x0] ∧ (x0 = .vl (bs.map partD) ∨ x0 = .tup (bs.map partD)) ∧ sLinesOf_b bs M R Y
theorem z_sLinesOf {bs : List (Str × Rat)} {M : Mem} {R : DK} {Y : DXK} : sLinesOf [.vl (bs.map partD)] M R Y = (sLinesOf_b bs M R Y) := propext ⟨fun z => by obtain ⟨_, _, _, _, _⟩ := z; walk_at "injs", fun h => ⟨_, bs, rfl, .inl rfl, h⟩⟩
theorem z_sLinesOf_t {bs : List (Str × Rat)} {M : Mem} {R : DK} {Y : DXK} : sLinesOf [.tup (bs.map partD)] M R Y = (sLinesOf_b bs M R Y) := propext ⟨fun z => by obtain ⟨_, _, _, _, _⟩ := z; walk_at "injs", fun h => ⟨_, bs, rfl, .inr rfl, h⟩⟩
noncomputable abbrev sSeen_b (bs : List (Str × Rat)) (x : Rat) (M : Mem) (R : DK) (Y : DXK) : Prop := (bs.length ≤ 12 ∧ (∀ x ∈ bs, PartOk x) ∧ sz x ≤ 41) ∧ R (.vl ((lnsN bs bs.length).map fun l => lineD (l.1, l.1 * x + l.2.1, l.2.2))) M
noncomputable def sSeen : DSp := fun ds M R Y => ∃ (x0 : D) (bs : List (Str × Rat)) (x : Rat), ds = [x0, ratD x] ∧ (x0 = .vl (bs.map partD) ∨ x0 = .tup (bs.map partD)) ∧ sSeen_b bs x M R Y
theorem z_sSeen {bs : List (Str × Rat)} {x : Rat} {M : Mem} {R : DK} {Y : DXK} : sSeen [.vl (bs.map partD), ratD x] M R Y = (sSeen_b bs x M R Y) := propext ⟨fun z => by obtain ⟨_, _, _, _, _, _⟩ := z; walk_at "injs", fun h => ⟨_, bs, x, rfl, .inl rfl, h⟩⟩
theorem z_sSeen_t {bs : List (Str × Rat)} {x : Rat} {M : Mem} {R : DK} {Y : DXK} : sSeen [.tup (bs.map partD), ratD x] M R Y = (sSeen_b bs x M R Y) := propext ⟨fun z => by obtain ⟨_, _, _, _, _, _⟩ := z; walk_at "injs", fun h => ⟨_, bs, x, rfl, .inr rfl, h⟩⟩
noncomputable def midS (l : Rat × Rat × Rat) (h : Rat) : Rat := -(l.1 * h / l.2.1)
noncomputable def halfS (l : Rat × Rat × Rat) : Rat := absQ (l.2.2 / l.2.1)
theorem sub_div (q r : Rat) : Rat.divInt (q.num * (r.den : Int) - r.num * (q.den : Int)) ((q.den : Int) * (r.den : Int)) = q - r := by
  rw [Rat.sub_eq_add_neg, RM.add_eq q (-r), Rat.neg_num, Rat.neg_den, Int.neg_mul, ← Int.sub_eq_add_neg]
noncomputable def stp (st : Option (Rat × Rat)) (a b : Rat) : Option (Rat × Rat) := some (match st with | none => (a, b) | some (l, h) => (if l < a then a else l, if b < h then b else h))
noncomputable def coneL (g : Rat) : List (Rat × Rat × Rat) → Option (Rat × Rat) → Option (Option (Rat × Rat))
  | [], st => some st
  | l :: r, st => if l.2.1 = 0 then (if l.2.2 < absQ (l.1 * g) then none else coneL g r st) else coneL g r (stp st (midS l g - halfS l) (midS l g + halfS l))
theorem coneL_nil {g : Rat} {st : Option (Rat × Rat)} : coneL g [] st = some st := rfl
theorem coneL_cons {g : Rat} {l : Rat × Rat × Rat} {r : List (Rat × Rat × Rat)} {st : Option (Rat × Rat)} : coneL g (l :: r) st = if l.2.1 = 0 then (if l.2.2 < absQ (l.1 * g) then none else coneL g r st) else coneL g r (stp st (midS l g - halfS l) (midS l g + halfS l)) := rfl
theorem isNN {neg : Bool} {M : Mem} {R : DK} : gIs neg .non .non M R = R (.bl (neg.xor true)) M := z_Is rfl
theorem isRN {neg : Bool} {q : Rat} {M : Mem} {R : DK} : gIs neg (ratD q) .non M R = R (.bl (neg.xor false)) M := z_Is rfl
noncomputable def optD : Option Rat → D
  | none => .non
  | some q => ratD q
noncomputable def coneD : Option (Option (Rat × Rat)) → D
  | none => .non
  | some none => .tup [.non, .non]
  | some (some (l, h)) => if h < l then .non else .tup [ratD l, ratD h]
theorem law_sides {p q r g : Rat} (hq : q ≠ 0) : (if (r - p * g) / q < (-r - p * g) / q then ((-r - p * g) / q, (r - p * g) / q) else ((r - p * g) / q, (-r - p * g) / q)) = (midS (p, q, r) g + halfS (p, q, r), midS (p, q, r) g - halfS (p, q, r)) := by
  have e1 : (r - p * g) / q = -(p * g / q) + r / q := by grind
  have e2 : (-r - p * g) / q = -(p * g / q) - r / q := by grind
  rw [e1, e2]
  unfold midS halfS absQ
  show (if _ then _ else _) = (-(p * g / q) + (if 0 ≤ r / q then r / q else -(r / q)), -(p * g / q) - (if 0 ≤ r / q then r / q else -(r / q)))
  generalize r / q = t
  generalize p * g / q = m
  by_cases h : 0 ≤ t
  · rw [if_neg (by grind), if_pos h]
  · rw [if_pos (by grind), if_neg h]
    exact Prod.ext (by grind) (by grind)
noncomputable abbrev sPartW_b (p : Addr) (M : Mem) (R : DK) (Y : DXK) : Prop := PoolAt M p ∧ ∀ x M', PartOk x → PStep p M M' → R (partD x) M'
noncomputable def sPartW : DSp := fun ds M R Y => ∃ (p : Addr), ds = [.ref p, .vl [.str "gap", .str "glass", .str "stop", .str "gap", .str "glass", .str "stop"]] ∧ sPartW_b p M R Y
theorem z_sPartW {p : Addr} {M : Mem} {R : DK} {Y : DXK} : sPartW [.ref p, .vl [.str "gap", .str "glass", .str "stop", .str "gap", .str "glass", .str "stop"]] M R Y = (sPartW_b p M R Y) := propext ⟨fun z => by obtain ⟨_, _, _⟩ := z; walk_at "inj", fun h => ⟨p, rfl, h⟩⟩
noncomputable abbrev sBenchW_b (p : Addr) (n : Int) (M : Mem) (R : DK) (Y : DXK) : Prop := PoolAt M p ∧ (0 ≤ n ∧ n ≤ 12) ∧ ∀ (bs : List (Str × Rat)) M', bs.length ≤ 12 → (∀ x ∈ bs, PartOk x) → PStep p M M' → R (.vl (bs.map partD)) M'
noncomputable def sBenchW : DSp := fun ds M R Y => ∃ (p : Addr) (n : Int), ds = [.ref p, .int n, .vl [.str "gap", .str "glass", .str "stop", .str "gap", .str "glass", .str "stop"]] ∧ sBenchW_b p n M R Y
theorem z_sBenchW {p : Addr} {n : Int} {M : Mem} {R : DK} {Y : DXK} : sBenchW [.ref p, .int n, .vl [.str "gap", .str "glass", .str "stop", .str "gap", .str "glass", .str "stop"]] M R Y = (sBenchW_b p n M R Y) := propext ⟨fun z => by obtain ⟨_, _, _, _⟩ := z; walk_at "inj", fun h => ⟨p, n, rfl, h⟩⟩
noncomputable def seenL (bs : List (Str × Rat)) (x : Rat) : List (Rat × Rat × Rat) := (lnsN bs bs.length).map fun l => (l.1, l.1 * x + l.2.1, l.2.2)
theorem seenL_len (bs : List (Str × Rat)) (x : Rat) : (seenL bs x).length ≤ bs.length := by
  unfold seenL; rw [List.length_map]; exact lnsN_len bs bs.length
noncomputable def lnsK (bs : List (Str × Rat)) : Nat → List (Nat × Rat × Rat × Rat)
  | 0 => []
  | i + 1 => lnsK bs i ++ (match bs[i]? with | some x => (if x.1 = "stop" then [(i, (outP (bs.take i) (1, 0)).1, (outP (bs.take i) (0, 1)).1, x.2)] else []) | none => [])
theorem lnsK_stop {bs : List (Str × Rat)} {i : Nat} {x : Str × Rat} (h : bs[i]? = some x) (hx : x.1 = "stop") : lnsK bs (i + 1) = lnsK bs i ++ [(i, (outP (bs.take i) (1, 0)).1, (outP (bs.take i) (0, 1)).1, x.2)] := by
  show lnsK bs i ++ _ = _
  rw [h]; simp only [if_pos hx]
theorem lnsK_not {bs : List (Str × Rat)} {i : Nat} {x : Str × Rat} (h : bs[i]? = some x) (hx : ¬ x.1 = "stop") : lnsK bs (i + 1) = lnsK bs i := by
  show lnsK bs i ++ _ = _
  rw [h]; simp only [if_neg hx, List.append_nil]
theorem lnsK_tail (bs : List (Str × Rat)) : ∀ i, (lnsK bs i).map (·.2) = lnsN bs i
  | 0 => rfl
  | i + 1 => by
    show (lnsK bs i ++ _).map _ = lnsN bs i ++ _
    rw [List.map_append, lnsK_tail bs i]
    congr 1
    split
    · split <;> rfl
    · rfl
theorem lnsK_len (bs : List (Str × Rat)) (i : Nat) : (lnsK bs i).length ≤ i := by
  rw [← List.length_map (f := (·.2)), lnsK_tail]; exact lnsN_len bs i
noncomputable def lineK (l : Nat × Rat × Rat × Rat) : D := .tup [.int (l.1 : Int), ratD l.2.1, ratD l.2.2.1, ratD l.2.2.2]
theorem lineK_item {ls : List (Nat × Rat × Rat × Rat)} {i : Nat} {d : D} (h : (ls.map lineK)[i]? = some d) : ∃ l, ls[i]? = some l ∧ d = lineK l := by
  rw [List.getElem?_map] at h
  cases e : ls[i]? with
  | none => rw [e] at h; cases h
  | some l => rw [e] at h; exact ⟨l, rfl, (Option.some.inj h).symm⟩
noncomputable abbrev sLinesK_b (bs : List (Str × Rat)) (M : Mem) (R : DK) (Y : DXK) : Prop := (bs.length ≤ 12 ∧ ∀ x ∈ bs, PartOk x) ∧ R (.vl ((lnsK bs bs.length).map lineK)) M
noncomputable def sLinesK : DSp := fun ds M R Y => ∃ (bs : List (Str × Rat)), ds = [.vl (bs.map partD)] ∧ sLinesK_b bs M R Y
theorem z_sLinesK {bs : List (Str × Rat)} {M : Mem} {R : DK} {Y : DXK} : sLinesK [.vl (bs.map partD)] M R Y = (sLinesK_b bs M R Y) := propext ⟨fun z => by obtain ⟨_, _, _⟩ := z; walk_at "inj", fun h => ⟨bs, rfl, h⟩⟩
theorem coneD_cl (c : Option (Option (Rat × Rat))) : cl 60 (coneD c) = true := by
  rcases c with _ | _ | ⟨l, h⟩
  · rfl
  · rfl
  · unfold coneD
    dsimp only
    split <;> rfl
end GM

namespace GM
open PySem PySem.Spec L2 DL
open RM (sz)
local macro_rules | `(tactic| walk_at "inj") => `(tactic| (rename_i e h; simp only [List.cons.injEq, and_true, true_and, GM.ratD_iff, GM.partD_iff, GM.partsD_iff, GM.lineD_iff, GM.linesD_iff, D.tup.injEq, D.ref.injEq, D.int.injEq, D.str.injEq, D.bl.injEq, D.vl.injEq, Int.natCast_inj, and_assoc] at e; (repeat (obtain ⟨e1, e⟩ := e; subst e1)); subst e; exact h))
local macro_rules | `(tactic| walk_at "injs") => `(tactic| (rename_i e o h; rcases o with o | o <;> (subst o; first | (exfalso; simp only [D.tup.injEq, List.cons.injEq, reduceCtorEq, false_and, and_false] at e; done) | (simp only [List.cons.injEq, and_true, true_and, GM.ratD_iff, GM.partD_iff, GM.partsD_iff, GM.lineD_iff, GM.linesD_iff, D.tup.injEq, D.ref.injEq, D.int.injEq, D.str.injEq, D.bl.injEq, D.vl.injEq, Int.natCast_inj, and_assoc] at e; (repeat (obtain ⟨e1, e⟩ := e; subst e1)); subst e; exact h))))
end GM

namespace DL
open PySem PySem.Spec L2
open PyProof.Rows hiding St
section
variable {X : Cx} {name : Str} {id : String} {o : Expr} {to : DTE} {apos cpos : Pos}
noncomputable def dLM0 (g : DRM) (to : DTE) : DTE := fun e M R => to e M fun x M1 => (∃ l ds, x = .ref l ∧ M1 l = some (.lst ds)) ∧ g x [] M1 R
theorem jd_lm0 {g : DRM} (slot : Slot "list" name id) (hty : typeOf (.builtin id) = pure (.type "method_descriptor")) (hm : DMt X id g) (ho : JE X o to)
    (hbase : attributeBase o name X.env (eval o X.env) = eval o X.env := by rfl) (hline : (apos.endLine == cpos.line) = true := by rfl) : JE X (.Call (.Attribute o name apos) [] [] cpos) (dLM0 g to) :=
  ⟨(pe_bm0 PySem.F.plainAttrs_list slot hty hm ho.out hbase hline).imp fun σ H Q ⟨e, M, R, ok, am, t, f⟩ => ⟨e, M, _, ok, am, t, fun x M1 ⟨⟨l, ds, z, hM⟩, h1⟩ v H1 k1 a1 r1 => by
    subst z
    have r1' := r1
    cases r1
    obtain ⟨xs, hx, _⟩ := a1.lst hM
    exact ⟨.inl ⟨rfl, xs, SqL.of hx⟩, _, [], M1, R, r1', .nil, a1, h1, f.mono k1⟩⟩⟩
noncomputable def gPop : DRM := fun x xs M R => ∃ l ds d, x = .ref l ∧ xs = [] ∧ M l = some (.lst (ds ++ [d])) ∧ R d (updM M l (.lst ds))
theorem dm_pop : DMt X "list.pop" gPop := MtR.imp (r := rPop) mt_pop fun x xs H Q ⟨dx, ds, M, R, hx, hl, am, ⟨l, es, d, e1, e2, hM, r⟩, f⟩ => by
  subst e1; subst e2
  cases hx
  cases hl
  obtain ⟨ys, hy, ly⟩ := am.lst hM
  have hlen := ly.length
  have app : ∀ {es : List D} {ys : List V} {d : D}, HasL X.K H ys (es ++ [d]) → ∃ zs z, ys = zs ++ [z] ∧ HasL X.K H zs es ∧ Has X.K H z d := by
    intro es
    induction es with
    | nil => intro ys d h; obtain ⟨v, rfl, hv⟩ := h.one; exact ⟨[], v, rfl, .nil, hv⟩
    | cons a es ih =>
      intro ys d h
      cases h with
      | cons ha h =>
        obtain ⟨zs, z, rfl, h1, h2⟩ := ih h
        exact ⟨_ :: zs, z, rfl, .cons ha h1, h2⟩
  obtain ⟨zs, z, rfl, h1, h2⟩ := app ly
  refine ⟨l, zs ++ [z], z, rfl, rfl, hy, ?_, ?_⟩
  · rw [List.length_append]; simp
  · rw [List.dropLast_concat]
    exact f _ _ r _ _ (KT.write hy) (am.write hy h1) (h2.mono (KT.write hy))
end
section
variable {e : Ev} {M : Mem} {R : DK} {to : DTE}
theorem z_LM0 {g : DRM} : dLM0 g to e M R = to e M fun x M1 => LMK x M1 (g x [] M1 R) := rfl
theorem Pop_of {l : Addr} {ds : List D} {d : D} (h : M l = some (.lst (ds ++ [d]))) (r : R d (updM M l (.lst ds))) : gPop (.ref l) [] M R := ⟨l, ds, d, rfl, rfl, h, r⟩
end
end DL

namespace GM
noncomputable abbrev T3 := Rat × Rat × Rat
noncomputable def ve (a b : T3) : Rat := a.1 * b.2.1 - a.2.1 * b.1
noncomputable def tn (a b c : T3) : Rat := a.2.2 * ve b c - b.2.2 * ve a c + c.2.2 * ve a b
noncomputable def dt (a : T3) (z : Rat × Rat) : Rat := a.1 * z.1 + a.2.1 * z.2
noncomputable def ry (a b : T3) : Rat × Rat := ((a.2.2 * b.2.1 - b.2.2 * a.2.1) / ve a b, (a.1 * b.2.2 - b.1 * a.2.2) / ve a b)
noncomputable def ng (a : T3) : T3 := (-a.1, -a.2.1, a.2.2)
noncomputable def ngZ (z : Rat × Rat) : Rat × Rat := (-z.1, -z.2)
noncomputable def Sup (ss : List T3) (z : Rat × Rat) : Prop := ∀ s ∈ ss, dt s z ≤ s.2.2
structure Edge (ss : List T3) (a b : T3) : Prop where
  ve : 0 < ve a b
  mem : b ∈ ss
  hull : ∀ s ∈ ss, 0 < GM.ve a s → 0 ≤ tn a b s
theorem ry_eq {a b : T3} (h : ve a b ≠ 0) : ve a b * (ry a b).1 = a.2.2 * b.2.1 - b.2.2 * a.2.1 ∧ ve a b * (ry a b).2 = a.1 * b.2.2 - b.1 * a.2.2 := by
  unfold ry
  constructor
  · show ve a b * ((a.2.2 * b.2.1 - b.2.2 * a.2.1) / ve a b) = _
    rw [Rat.mul_comm, Rat.div_mul_cancel h]
  · show ve a b * ((a.1 * b.2.2 - b.1 * a.2.2) / ve a b) = _
    rw [Rat.mul_comm, Rat.div_mul_cancel h]
theorem npos {x : Rat} (h : 0 < x) : x ≠ 0 := by grind
theorem lpos {x : Rat} (h : 0 < x) : 0 ≤ x := by grind
theorem tot (x y : Rat) : x ≤ y ∨ y ≤ x := by grind
theorem mul_cancel' {v x y : Rat} (hv : v ≠ 0) (h : v * x = v * y) : x = y := by grind
theorem ry_tn {a b : T3} (h : ve a b ≠ 0) (s : T3) : ve a b * (s.2.2 - dt s (ry a b)) = tn a b s := by
  obtain ⟨e1, e2⟩ := ry_eq h
  unfold dt tn
  have : ve a b * (s.2.2 - (s.1 * (ry a b).1 + s.2.1 * (ry a b).2)) = ve a b * s.2.2 - s.1 * (ve a b * (ry a b).1) - s.2.1 * (ve a b * (ry a b).2) := by grind
  rw [this, e1, e2]
  unfold ve
  grind
theorem ry_a {a b : T3} (h : ve a b ≠ 0) : dt a (ry a b) = a.2.2 := by
  have := ry_tn h a
  have e : tn a b a = 0 := by unfold tn ve; grind
  rw [e] at this
  grind
theorem ry_b {a b : T3} (h : ve a b ≠ 0) : dt b (ry a b) = b.2.2 := by
  have := ry_tn h b
  have e : tn a b b = 0 := by unfold tn ve; grind
  rw [e] at this
  grind
theorem ry_uniq {a b : T3} {z : Rat × Rat} (h : ve a b ≠ 0) (h1 : dt a z = a.2.2) (h2 : dt b z = b.2.2) : z = ry a b := by
  obtain ⟨e1, e2⟩ := ry_eq h
  have z1 : ve a b * z.1 = ve a b * (ry a b).1 := by
    rw [e1, ← h1, ← h2]; unfold ve dt; grind
  have z2 : ve a b * z.2 = ve a b * (ry a b).2 := by
    rw [e2, ← h1, ← h2]; unfold ve dt; grind
  exact Prod.ext (mul_cancel' h z1) (mul_cancel' h z2)
theorem ry_ng (a b : T3) : ry (ng a) (ng b) = ngZ (ry a b) := by
  have e : ve (ng a) (ng b) = ve a b := by unfold ve ng; grind
  unfold ry ngZ
  rw [e]
  show ((a.2.2 * (-b.2.1) - b.2.2 * (-a.2.1)) / ve a b, ((-a.1) * b.2.2 - (-b.1) * a.2.2) / ve a b) = _
  exact Prod.ext (by show _ / _ = -(_ / _); grind) (by show _ / _ = -(_ / _); grind)
theorem tn_dt (a b s : T3) (z : Rat × Rat) : tn a b s = (a.2.2 - dt a z) * ve b s - (b.2.2 - dt b z) * ve a s + (s.2.2 - dt s z) * ve a b := by
  unfold tn ve dt; grind
theorem pos_of {v x : Rat} (hv : 0 < v) (h : 0 ≤ v * x) : 0 ≤ x := by
  rcases tot 0 x with z | z
  · exact z
  · by_cases e : x = 0
    · grind
    · have : 0 < v * -x := Rat.mul_pos hv (by grind)
      grind
theorem sup_of {a b : T3} {ss : List T3} (h : 0 < ve a b) (ht : ∀ s ∈ ss, 0 ≤ tn a b s) : Sup ss (ry a b) := fun s hs => by
  have := ry_tn (npos h) s
  have h2 := ht s hs
  rw [← this] at h2
  have := pos_of h h2
  grind
theorem sup_step {ss : List T3} {a b : T3} {z : Rat × Rat} (hz : Sup ss z) (ha : dt a z = a.2.2) (e : Edge ss a b) : Sup ss (ry a b) := by
  refine sup_of e.ve fun s hs => ?_
  by_cases h : 0 < ve a s
  · exact e.hull s hs h
  · rw [tn_dt a b s z, ha]
    have h1 : 0 ≤ (b.2.2 - dt b z) * (-ve a s) := Rat.mul_nonneg (by have := hz b e.mem; grind) (by grind)
    have h2 : 0 ≤ (s.2.2 - dt s z) * ve a b := Rat.mul_nonneg (by have := hz s hs; grind) (by have := e.ve; grind)
    grind
theorem sup_ng {ss : List T3} (sy : ∀ s ∈ ss, ng s ∈ ss) {z : Rat × Rat} (h : Sup ss z) : Sup ss (ngZ z) := fun s hs => by
  have := h _ (sy s hs)
  have e : dt (ng s) z = dt s (ngZ z) := by unfold dt ng ngZ; grind
  rw [← e]; exact this
theorem between {a b w : T3} (h : 0 < ve a b) (z : Rat × Rat) : ve a b * dt w z = ve w b * dt a z + ve a w * dt b z := by
  unfold ve dt; grind
theorem walk {w : T3} : ∀ (x : T3) (l : List T3) (y : T3), 0 ≤ ve x w → 0 < ve w y → ∃ ab ∈ (x :: l).zip (l ++ [y]), 0 ≤ ve ab.1 w ∧ 0 < ve w ab.2
  | x, [], y, h1, h2 => ⟨(x, y), List.mem_cons_self, h1, h2⟩
  | x, x' :: l, y, h1, h2 => by
    by_cases h : 0 < ve w x'
    · exact ⟨(x, x'), List.mem_cons_self, h1, h⟩
    · have e : ve x' w = -ve w x' := by unfold ve; grind
      obtain ⟨ab, hm, q⟩ := walk x' l y (by rw [e]; grind) h2
      exact ⟨ab, List.mem_cons_of_mem _ hm, q⟩
structure Rim (ss : List T3) (h0 : T3) (l : List T3) : Prop where
  ne : l ≠ []
  sy : ∀ s ∈ ss, ng s ∈ ss
  pos : ∀ s ∈ ss, 0 < s.2.2
  all : ∀ ab ∈ (h0 :: l).zip (l ++ [ng h0]), ab.1 ∈ ss ∧ ab.2 ∈ ss ∧ 0 < ve ab.1 ab.2 ∧ Sup ss (ry ab.1 ab.2)
noncomputable def edgs (h0 : T3) (l : List T3) : List (T3 × T3) := (h0 :: l).zip (l ++ [ng h0])
noncomputable def corR (h0 : T3) (l : List T3) : List (Rat × Rat) := (edgs h0 l).map (fun ab => ry ab.1 ab.2) ++ (edgs h0 l).map (fun ab => ngZ (ry ab.1 ab.2))
theorem zip_both {α β : Type} (f : α → β) : ∀ (l m : List α), (l.map f).zip (m.map f) = (l.zip m).map fun p => (f p.1, f p.2)
  | [], _ => rfl
  | _ :: _, [] => rfl
  | a :: l, b :: m => by rw [List.map_cons, List.map_cons, List.zip_cons_cons, zip_both f l m]; rfl
theorem ng_ng (a : T3) : ng (ng a) = a := by
  obtain ⟨p, q, r⟩ := a
  unfold ng
  show (- -p, - -q, r) = (p, q, r)
  rw [Rat.neg_neg, Rat.neg_neg]
theorem Rim.around {ss : List T3} {h0 : T3} {l : List T3} (R : Rim ss h0 l) (w : T3) (hw : ¬ (w.1 = 0 ∧ w.2.1 = 0)) :
    ∃ a b, a ∈ ss ∧ b ∈ ss ∧ 0 < ve a b ∧ Sup ss (ry a b) ∧ ry a b ∈ corR h0 l ∧ 0 ≤ ve a w ∧ 0 < ve w b := by
  have fromE : ∀ ab ∈ edgs h0 l, 0 ≤ ve ab.1 w → 0 < ve w ab.2 → ∃ a b, a ∈ ss ∧ b ∈ ss ∧ 0 < ve a b ∧ Sup ss (ry a b) ∧ ry a b ∈ corR h0 l ∧ 0 ≤ ve a w ∧ 0 < ve w b := fun ab hm h1 h2 => by
    obtain ⟨q1, q2, q3, q4⟩ := R.all ab hm
    exact ⟨ab.1, ab.2, q1, q2, q3, q4, List.mem_append_left _ (List.mem_map.mpr ⟨ab, hm, rfl⟩), h1, h2⟩
  have fromN : ∀ ab ∈ edgs h0 l, 0 ≤ ve (ng ab.1) w → 0 < ve w (ng ab.2) → ∃ a b, a ∈ ss ∧ b ∈ ss ∧ 0 < ve a b ∧ Sup ss (ry a b) ∧ ry a b ∈ corR h0 l ∧ 0 ≤ ve a w ∧ 0 < ve w b := fun ab hm h1 h2 => by
    obtain ⟨q1, q2, q3, q4⟩ := R.all ab hm
    refine ⟨ng ab.1, ng ab.2, R.sy _ q1, R.sy _ q2, ?_, ?_, ?_, h1, h2⟩
    · have : ve (ng ab.1) (ng ab.2) = ve ab.1 ab.2 := by unfold ve ng; grind
      rw [this]; exact q3
    · rw [ry_ng]; exact sup_ng R.sy q4
    · rw [ry_ng]; exact List.mem_append_right _ (List.mem_map.mpr ⟨ab, hm, rfl⟩)
  have e0 : ve w (ng h0) = ve h0 w := by unfold ve ng; grind
  have e1 : ve (ng h0) w = -ve h0 w := by unfold ve ng; grind
  by_cases c1 : 0 < ve h0 w
  · obtain ⟨ab, hm, k1, k2⟩ := walk h0 l (ng h0) (lpos c1) (by rw [e0]; exact c1)
    exact fromE ab hm k1 k2
  by_cases c2 : ve h0 w < 0
  · have e2 : ve w h0 = -ve h0 w := by unfold ve; grind
    obtain ⟨ab, hm, k1, k2⟩ := walk (w := w) (ng h0) (l.map ng) h0 (by rw [e1]; clear fromE fromN; grind) (by rw [e2]; clear fromE fromN; grind)
    have em : ab ∈ ((h0 :: l).map ng).zip ((l ++ [ng h0]).map ng) := by
      rw [List.map_append, List.map_cons, List.map_cons, List.map_nil, ng_ng]; exact hm
    rw [zip_both] at em
    obtain ⟨cd, hcd, rfl⟩ := List.mem_map.mp em
    exact fromN cd hcd k1 k2
  · have c0 : ve h0 w = 0 := by clear fromE fromN; grind
    cases l with
    | nil => exact absurd rfl R.ne
    | cons x l =>
      have hm : (h0, x) ∈ edgs h0 (x :: l) := List.mem_cons_self
      obtain ⟨q1, q2, q3, q4⟩ := R.all _ hm
      have q3 : 0 < ve h0 x := q3
      by_cases k : 0 < ve w x
      · exact fromE _ hm (by show 0 ≤ ve h0 w; rw [c0]; exact Rat.le_refl) k
      · refine fromN _ hm (by show 0 ≤ ve (ng h0) w; rw [e1, c0]; exact Rat.le_refl) ?_
        show 0 < ve w (ng x)
        have ex : ve w (ng x) = -ve w x := by unfold ve ng; grind
        rw [ex]
        clear fromE fromN
        have hne : ve w x ≠ 0 := fun z => hw (by
          unfold ve at c0 z q3
          have i1 : w.1 * (h0.1 * x.2.1 - h0.2.1 * x.1) = 0 := by
            have : w.1 * (h0.1 * x.2.1 - h0.2.1 * x.1) = h0.1 * (w.1 * x.2.1 - w.2.1 * x.1) + x.1 * (h0.1 * w.2.1 - h0.2.1 * w.1) := by grind
            rw [this, z, c0]; grind
          have i2 : w.2.1 * (h0.1 * x.2.1 - h0.2.1 * x.1) = 0 := by
            have : w.2.1 * (h0.1 * x.2.1 - h0.2.1 * x.1) = h0.2.1 * (w.1 * x.2.1 - w.2.1 * x.1) + x.2.1 * (h0.1 * w.2.1 - h0.2.1 * w.1) := by grind
            rw [this, z, c0]; grind
          have hv : h0.1 * x.2.1 - h0.2.1 * x.1 ≠ 0 := by grind
          exact ⟨by grind, by grind⟩)
        grind
theorem Rim.most {ss : List T3} {h0 : T3} {l : List T3} (R : Rim ss h0 l) (w : T3) (hw : ¬ (w.1 = 0 ∧ w.2.1 = 0)) : ∃ c ∈ corR h0 l, Sup ss c ∧ ∀ z, Sup ss z → dt w z ≤ dt w c := by
  obtain ⟨a, b, ha, hb, hv, hs, hc, k1, k2⟩ := R.around w hw
  refine ⟨_, hc, hs, fun z hz => ?_⟩
  have e1 := between (w := w) hv z
  have e2 := between (w := w) hv (ry a b)
  rw [ry_a (npos hv), ry_b (npos hv)] at e2
  have h1 : 0 ≤ ve w b * (a.2.2 - dt a z) := Rat.mul_nonneg (lpos k2) (by have := hz a ha; grind)
  have h2 : 0 ≤ ve a w * (b.2.2 - dt b z) := Rat.mul_nonneg k1 (by have := hz b hb; grind)
  have h3 : 0 ≤ ve a b * (dt w (ry a b) - dt w z) := by grind
  have := pos_of hv h3
  grind
theorem Rim.corner {ss : List T3} {h0 : T3} {l : List T3} (R : Rim ss h0 l) {s t : T3} {z : Rat × Rat} (hz : Sup ss z) (hs : s ∈ ss) (ht : t ∈ ss) (hv : 0 < ve s t) (es : dt s z = s.2.2) (et : dt t z = t.2.2) : z ∈ corR h0 l := by
  have hw : ¬ (s.1 = 0 ∧ s.2.1 = 0) := fun ⟨q1, q2⟩ => by
    unfold ve at hv
    rw [q1, q2] at hv
    grind
  obtain ⟨a, b, ha, hb, hab, hsup, hc, k1, k2⟩ := R.around s hw
  have e1 := between (w := s) hab z
  have e2 := between (w := s) hab (ry a b)
  rw [ry_a (npos hab), ry_b (npos hab)] at e2
  have za := hz a ha
  have zb := hz b hb
  have zs := hsup s hs
  have h1 : 0 ≤ ve s b * (a.2.2 - dt a z) := Rat.mul_nonneg (lpos k2) (by grind)
  have h2 : 0 ≤ ve a s * (b.2.2 - dt b z) := Rat.mul_nonneg k1 (by grind)
  have h3 : 0 ≤ ve a b * (s.2.2 - dt s (ry a b)) := Rat.mul_nonneg (by grind) (by grind)
  rw [es] at e1
  have s1 : ve s b * (a.2.2 - dt a z) = 0 := by grind
  have s2 : ve a s * (b.2.2 - dt b z) = 0 := by grind
  have ta : dt a z = a.2.2 := by grind
  have fin : dt b z = b.2.2 → z ∈ corR h0 l := fun tb => by rw [ry_uniq (npos hab) ta tb]; exact hc
  by_cases c : ve a s = 0
  · -- s lies along a
    have hat : 0 < ve a t := by
      have i : ve a b * ve s t = ve s b * ve a t - ve t b * ve a s := by unfold ve; grind
      rw [c] at i
      have p1 : 0 < ve a b * ve s t := Rat.mul_pos hab hv
      have p2 : 0 < ve s b * ve a t := by grind
      rcases tot 0 (ve a t) with z | z
      · by_cases e : ve a t = 0
        · rw [e] at p2; grind
        · grind
      · have : 0 ≤ ve s b * (-ve a t) := Rat.mul_nonneg (by grind) (by grind)
        grind
    have h5 : 0 ≤ tn a b t := by
      rw [← ry_tn (npos hab) t]
      exact Rat.mul_nonneg (by grind) (by have := hsup t ht; grind)
    rw [tn_dt a b t z, ta, et] at h5
    have h6 : 0 ≤ ve a t * -(b.2.2 - dt b z) := by grind
    have := pos_of hat h6
    exact fin (by grind)
  · exact fin (by grind)
theorem close {ss : List T3} {h0 hm f : T3} {z0 z : Rat × Rat} (sy : ∀ s ∈ ss, ng s ∈ ss) (m0 : h0 ∈ ss) (mm : hm ∈ ss) (s0 : Sup ss z0) (t0 : dt h0 z0 = h0.2.2) (sz : Sup ss z) (tz : dt hm z = hm.2.2) (e : Edge ss hm f) (h1 : 0 < ve h0 hm) (h2 : ve h0 f ≤ 0) :
    Sup ss (ry hm (ng h0)) := by
  have sf := sup_step sz tz e
  have v1 : 0 < ve hm (ng h0) := by
    have : ve hm (ng h0) = ve h0 hm := by unfold ve ng; grind
    rw [this]; exact h1
  have v2 : 0 ≤ ve (ng h0) f := by
    have : ve (ng h0) f = -ve h0 f := by unfold ve ng; grind
    rw [this]; grind
  have tf := ry_a (a := hm) (b := f) (npos e.ve)
  have tg := ry_b (a := hm) (b := f) (npos e.ve)
  have e1 := between (w := ng h0) e.ve (ngZ z0)
  have e2 := between (w := ng h0) e.ve (ry hm f)
  rw [tf, tg] at e2
  have sn := sup_ng sy s0
  have q1 := sn hm mm
  have q2 := sn f e.mem
  have g0 : dt (ng h0) (ngZ z0) = (ng h0).2.2 := by
    have : dt (ng h0) (ngZ z0) = dt h0 z0 := by unfold dt ng ngZ; grind
    rw [this, t0]; rfl
  rw [g0] at e1
  have q3 := sf (ng h0) (sy h0 m0)
  have p1 : 0 ≤ ve (ng h0) f * (hm.2.2 - dt hm (ngZ z0)) := Rat.mul_nonneg v2 (by grind)
  have p2 : 0 ≤ ve hm (ng h0) * (f.2.2 - dt f (ngZ z0)) := Rat.mul_nonneg (by grind) (by grind)
  have p3 : 0 ≤ ve hm f * (dt (ng h0) (ry hm f) - (ng h0).2.2) := by grind
  have p4 := pos_of e.ve p3
  have t3 : dt (ng h0) (ry hm f) = (ng h0).2.2 := by grind
  rw [← ry_uniq (a := hm) (b := ng h0) (npos v1) tf t3]
  exact sf
end GM

namespace GM
open PySem PySem.Spec L2 DL
open RM (sz)
noncomputable abbrev Sd := Int × Int × Int × Int × Int
noncomputable def sdD (s : Sd) : D := .tup [.int s.1, .int s.2.1, .int s.2.2.1, .int s.2.2.2.1, .int s.2.2.2.2]
noncomputable def tri (s : Sd) : T3 := ((s.1 : Rat), (s.2.1 : Rat), (s.2.2.1 : Rat))
noncomputable def veZ (a b : Sd) : Int := a.1 * b.2.1 - a.2.1 * b.1
noncomputable def tnZ (a b c : Sd) : Int := a.2.2.1 * veZ b c - b.2.2.1 * veZ a c + c.2.2.1 * veZ a b
noncomputable def facZ (s : Sd) : Sd := (-s.1, -s.2.1, s.2.2.1, s.2.2.2.1, -s.2.2.2.2)
noncomputable def jutsZ (a b : Sd) : Bool := if a.1 * b.2.2.1 - b.1 * a.2.2.1 = 0 then decide (0 < a.2.1 * b.2.2.1 - b.2.1 * a.2.2.1) else decide (0 < a.1 * b.2.2.1 - b.1 * a.2.2.1)
noncomputable def outF (ss : List Sd) (f : Sd) : Sd := ss.foldl (fun f s => if jutsZ s f = true then s else f) f
noncomputable def betZ (h : Sd) (f : Option Sd) (s : Sd) : Bool := match f with
  | none => true
  | some g => decide (tnZ h g s < 0) || (decide (tnZ h g s = 0) && decide (0 < veZ g s))
noncomputable def nxtS (h : Sd) (f : Option Sd) (s : Sd) : Option Sd := if 0 < veZ h s then (if betZ h f s = true then some s else f) else f
noncomputable def nxtF (h : Sd) (ss : List Sd) : Option Sd := ss.foldl (nxtS h) none
noncomputable def rimF (h0 : Sd) (ss : List Sd) : Nat → Option Sd → List Sd
  | 0, _ => []
  | _ + 1, none => []
  | k + 1, some h => if 0 < veZ h0 h then h :: rimF h0 ss k (nxtF h ss) else []
noncomputable def halfF : List Sd → List Sd
  | [] => []
  | s :: r => outF (s :: r) s :: rimF (outF (s :: r) s) (s :: r) (s :: r).length (nxtF (outF (s :: r) s) (s :: r))
theorem ve_tri (a b : Sd) : ve (tri a) (tri b) = (veZ a b : Rat) := by
  unfold ve tri veZ
  rw [Rat.intCast_sub, Rat.intCast_mul, Rat.intCast_mul]
theorem tn_tri (a b c : Sd) : tn (tri a) (tri b) (tri c) = (tnZ a b c : Rat) := by
  unfold tn tnZ
  rw [ve_tri, ve_tri, ve_tri, Rat.intCast_add, Rat.intCast_sub, Rat.intCast_mul, Rat.intCast_mul, Rat.intCast_mul]
  rfl
theorem castp {n : Int} : (0 : Rat) < (n : Rat) ↔ 0 < n := by
  have := Rat.intCast_lt_intCast (a := 0) (b := n)
  rw [← this]; rfl
theorem castn {n : Int} : (0 : Rat) ≤ (n : Rat) ↔ 0 ≤ n := by
  have := Rat.intCast_le_intCast (a := 0) (b := n)
  rw [← this]; rfl
theorem ng_tri (s : Sd) : tri (facZ s) = ng (tri s) := by
  unfold tri facZ ng
  rw [Rat.intCast_neg, Rat.intCast_neg]
theorem mul_pos_of {a b : Int} (ha : 0 < a) (h : 0 ≤ a * b) : 0 ≤ b := by
  rcases Int.lt_or_le b 0 with z | z
  · have := Int.mul_lt_mul_of_pos_left z ha
    omega
  · exact z
theorem mul_pos_of' {a b : Int} (ha : 0 < a) (h : 0 < a * b) : 0 < b := by
  rcases Int.lt_or_le 0 b with z | z
  · exact z
  · have := Int.mul_le_mul_of_nonneg_left z (Int.le_of_lt ha)
    omega
theorem plu (h g s t : Sd) : veZ h g * tnZ h s t = veZ h s * tnZ h g t - veZ h t * tnZ h g s := by unfold tnZ veZ; grind
theorem plu2 (h g s t : Sd) : veZ h g * tnZ g s t = tnZ h g s * veZ t g - tnZ h g t * veZ s g := by unfold tnZ veZ; grind
theorem plu3 (o h g s : Sd) : veZ o g * veZ h s = veZ o h * veZ g s + veZ o s * veZ h g := by unfold veZ; grind
structure NxtI (h : Sd) (pre : List Sd) (f : Option Sd) : Prop where
  no : f = none → ∀ s ∈ pre, ¬ 0 < veZ h s
  yes : ∀ g, f = some g → g ∈ pre ∧ 0 < veZ h g ∧ ∀ s ∈ pre, 0 < veZ h s → 0 ≤ tnZ h g s ∧ (tnZ h g s = 0 → veZ g s ≤ 0)
theorem nxt_step {h : Sd} {pre : List Sd} {f : Option Sd} {s : Sd} (hp : ∀ s ∈ pre, 0 < s.2.2.1) (hs : 0 < s.2.2.1) (I : NxtI h pre f) : NxtI h (pre ++ [s]) (nxtS h f s) := by
  unfold nxtS
  by_cases c : 0 < veZ h s
  · rw [if_pos c]
    by_cases b : betZ h f s = true
    · rw [if_pos b]
      refine ⟨fun z => (by cases z), fun g e => ?_⟩
      cases e
      refine ⟨by simp, c, fun t ht hv => ?_⟩
      have self : tnZ h s s = 0 ∧ veZ s s = 0 := by unfold tnZ veZ; grind
      rcases List.mem_append.mp ht with ht | ht
      · cases f with
        | none => exact absurd hv (I.no rfl t ht)
        | some g =>
          obtain ⟨g1, g2, g3⟩ := I.yes g rfl
          obtain ⟨k1, k2⟩ := g3 t ht hv
          have b' : tnZ h g s < 0 ∨ (tnZ h g s = 0 ∧ 0 < veZ g s) := by
            have b : (decide (tnZ h g s < 0) || (decide (tnZ h g s = 0) && decide (0 < veZ g s))) = true := b
            simpa using b
          have pl := plu h g s t
          have n1 : 0 ≤ veZ h s * tnZ h g t := Int.mul_nonneg (by omega) k1
          have n2 : 0 ≤ veZ h t * -tnZ h g s := Int.mul_nonneg (by omega) (by omega)
          rw [Int.mul_neg] at n2
          refine ⟨mul_pos_of g2 (by omega), fun z => ?_⟩
          rw [z, Int.mul_zero] at pl
          have m1 : veZ h s * tnZ h g t = 0 := by omega
          have m2 : veZ h t * tnZ h g s = 0 := by omega
          have e1 : tnZ h g t = 0 := (Int.mul_eq_zero.mp m1).resolve_left (by omega)
          have e2 : tnZ h g s = 0 := (Int.mul_eq_zero.mp m2).resolve_left (by omega)
          have gs : 0 < veZ g s := by omega
          have gt := k2 e1
          have p2 := plu2 h g s t
          rw [e1, e2, Int.zero_mul, Int.zero_mul] at p2
          have e3 : tnZ g s t = 0 := (Int.mul_eq_zero.mp (by omega : veZ h g * tnZ g s t = 0)).resolve_left (by omega)
          have e4 : g.2.2.1 * veZ s t - s.2.2.1 * veZ g t + t.2.2.1 * veZ g s = 0 := e3
          have rg := hp g g1
          have rt := hp t ht
          have q1 : 0 ≤ s.2.2.1 * -veZ g t := Int.mul_nonneg (by omega) (by omega)
          have q2 : 0 ≤ t.2.2.1 * veZ g s := Int.mul_nonneg (by omega) (by omega)
          rw [Int.mul_neg] at q1
          have q3 : 0 ≤ g.2.2.1 * -veZ s t := by rw [Int.mul_neg]; omega
          have := mul_pos_of rg q3
          omega
      · rw [List.mem_singleton.mp ht, self.1, self.2]
        exact ⟨Int.le_refl _, fun _ => Int.le_refl _⟩
    · rw [if_neg b]
      cases f with
      | none => exact absurd rfl b
      | some g =>
        obtain ⟨g1, g2, g3⟩ := I.yes g rfl
        refine ⟨fun z => (by cases z), fun g' e => ?_⟩
        cases e
        refine ⟨List.mem_append_left _ g1, g2, fun t ht hv => ?_⟩
        rcases List.mem_append.mp ht with ht | ht
        · exact g3 t ht hv
        · rw [List.mem_singleton.mp ht]
          have b' : ¬ (tnZ h g s < 0 ∨ (tnZ h g s = 0 ∧ 0 < veZ g s)) := by
            intro z
            apply b
            show (decide (tnZ h g s < 0) || (decide (tnZ h g s = 0) && decide (0 < veZ g s))) = true
            simpa using z
          exact ⟨by omega, fun z => by omega⟩
  · rw [if_neg c]
    refine ⟨fun z t ht => ?_, fun g e => ?_⟩
    · rcases List.mem_append.mp ht with ht | ht
      · exact I.no z t ht
      · rw [List.mem_singleton.mp ht]; exact c
    · obtain ⟨g1, g2, g3⟩ := I.yes g e
      refine ⟨List.mem_append_left _ g1, g2, fun t ht hv => ?_⟩
      rcases List.mem_append.mp ht with ht | ht
      · exact g3 t ht hv
      · rw [List.mem_singleton.mp ht] at hv; exact absurd hv c
theorem nxt_fold {h : Sd} : ∀ (l pre : List Sd) (f : Option Sd), (∀ s ∈ pre, 0 < s.2.2.1) → (∀ s ∈ l, 0 < s.2.2.1) → NxtI h pre f → NxtI h (pre ++ l) (l.foldl (nxtS h) f)
  | [], pre, f, _, _, I => by rw [List.append_nil]; exact I
  | s :: l, pre, f, h1, h2, I => by
    have h3 := h2 s List.mem_cons_self
    have := nxt_fold l (pre ++ [s]) (nxtS h f s) (fun t ht => by
      rcases List.mem_append.mp ht with ht | ht
      · exact h1 t ht
      · rw [List.mem_singleton.mp ht]; exact h3) (fun t ht => h2 t (List.mem_cons_of_mem _ ht)) (nxt_step h1 h3 I)
    rwa [List.append_assoc] at this
theorem nxtF_ok {h : Sd} {ss : List Sd} (hp : ∀ s ∈ ss, 0 < s.2.2.1) : NxtI h ss (nxtF h ss) := by
  have := nxt_fold (h := h) ss [] none (fun _ z => nomatch z) hp ⟨fun _ _ z => (nomatch z), fun _ z => (nomatch z)⟩
  rwa [List.nil_append] at this
theorem nxtF_edge {h f : Sd} {ss : List Sd} (hp : ∀ s ∈ ss, 0 < s.2.2.1) (e : nxtF h ss = some f) : f ∈ ss ∧ 0 < veZ h f ∧ Edge (ss.map tri) (tri h) (tri f) := by
  obtain ⟨h1, h2, h3⟩ := (nxtF_ok hp).yes f e
  refine ⟨h1, h2, by rw [ve_tri]; exact castp.mpr h2, List.mem_map.mpr ⟨f, h1, rfl⟩, fun s hs hv => ?_⟩
  obtain ⟨t, ht, rfl⟩ := List.mem_map.mp hs
  rw [ve_tri] at hv
  rw [tn_tri]
  exact castn.mpr (h3 t ht (castp.mp hv)).1
theorem outF_mem : ∀ (ss : List Sd) (f : Sd), outF ss f = f ∨ outF ss f ∈ ss
  | [], f => .inl rfl
  | s :: r, f => by
    show outF r (if jutsZ s f = true then s else f) = f ∨ _
    rcases outF_mem r (if jutsZ s f = true then s else f) with h | h
    · rw [h]
      split
      · rename_i c; right; show outF r (if jutsZ s f = true then s else f) ∈ _; rw [h, if_pos c]; exact List.mem_cons_self
      · exact .inl rfl
    · exact .inr (List.mem_cons_of_mem _ h)
theorem juts_le {s f : Sd} (h : jutsZ s f = true) : f.1 * s.2.2.1 ≤ s.1 * f.2.2.1 := by
  unfold jutsZ at h
  split at h
  · omega
  · have := of_decide_eq_true h; omega
theorem juts_ge {s f : Sd} (h : ¬ jutsZ s f = true) : s.1 * f.2.2.1 ≤ f.1 * s.2.2.1 := by
  unfold jutsZ at h
  split at h
  · omega
  · have : ¬ 0 < s.1 * f.2.2.1 - f.1 * s.2.2.1 := fun z => h (decide_eq_true z)
    omega
theorem le_tr {a b c x y z : Int} (hy : 0 < y) (hx : 0 < x) (hz : 0 < z) (h1 : a * y ≤ b * x) (h2 : b * z ≤ c * y) : a * z ≤ c * x := by
  have e1 := Int.mul_le_mul_of_nonneg_right h1 (Int.le_of_lt hz)
  have e2 := Int.mul_le_mul_of_nonneg_right h2 (Int.le_of_lt hx)
  have e3 : 0 ≤ y * (c * x - a * z) := by
    have : y * (c * x - a * z) = c * y * x - a * y * z := by grind
    have e4 : b * x * z = b * z * x := by grind
    omega
  have := mul_pos_of hy e3
  omega
theorem outF_le : ∀ (ss : List Sd) (f : Sd) (t : Sd), (∀ s ∈ ss, 0 < s.2.2.1) → 0 < f.2.2.1 → 0 < t.2.2.1 → (t ∈ ss ∨ t.1 * f.2.2.1 ≤ f.1 * t.2.2.1) → t.1 * (outF ss f).2.2.1 ≤ (outF ss f).1 * t.2.2.1
  | [], f, t, _, _, _, h => by
    rcases h with h | h
    · cases h
    · exact h
  | s :: r, f, t, hp, hf, ht, h => by
    have hs := hp s List.mem_cons_self
    show t.1 * (outF r (if jutsZ s f = true then s else f)).2.2.1 ≤ (outF r (if jutsZ s f = true then s else f)).1 * t.2.2.1
    refine outF_le r _ t (fun s hs => hp s (List.mem_cons_of_mem _ hs)) (by split <;> assumption) ht ?_
    rcases h with h | h
    · rcases List.mem_cons.mp h with rfl | h
      · right
        split
        · omega
        · rename_i c; exact juts_ge c
      · exact .inl h
    · right
      split
      · rename_i c
        exact le_tr hf ht hs h (juts_le c)
      · exact h
theorem count_lt {α : Type} {p q : α → Bool} {x : α} : ∀ {l : List α}, (∀ y ∈ l, q y = true → p y = true) → x ∈ l → p x = true → q x = false → (l.filter q).length < (l.filter p).length
  | [], _, h, _, _ => nomatch h
  | y :: l, h1, h2, h3, h4 => by
    have le : ∀ (l : List α), (∀ y ∈ l, q y = true → p y = true) → (l.filter q).length ≤ (l.filter p).length := fun l => by
      induction l with
      | nil => intro _; exact Nat.le_refl _
      | cons a l ih =>
        intro h
        have := ih fun y hy => h y (List.mem_cons_of_mem _ hy)
        by_cases qa : q a = true
        · rw [List.filter_cons_of_pos qa, List.filter_cons_of_pos (h a List.mem_cons_self qa), List.length_cons, List.length_cons]; omega
        · rw [List.filter_cons_of_neg qa]
          by_cases pa : p a = true
          · rw [List.filter_cons_of_pos pa, List.length_cons]; omega
          · rw [List.filter_cons_of_neg pa]; exact this
    have hl := le l fun y hy => h1 y (List.mem_cons_of_mem _ hy)
    rcases List.mem_cons.mp h2 with rfl | h2
    · rw [List.filter_cons_of_pos h3, List.filter_cons_of_neg (by rw [h4]; decide), List.length_cons]; omega
    · have ih := count_lt (fun y hy => h1 y (List.mem_cons_of_mem _ hy)) h2 h3 h4
      by_cases qa : q y = true
      · rw [List.filter_cons_of_pos qa, List.filter_cons_of_pos (h1 y List.mem_cons_self qa), List.length_cons, List.length_cons]; omega
      · rw [List.filter_cons_of_neg qa]
        by_cases pa : p y = true
        · rw [List.filter_cons_of_pos pa, List.length_cons]; omega
        · rw [List.filter_cons_of_neg pa]; exact ih
noncomputable def cntZ (h0 : Sd) (ss : List Sd) (h : Sd) : Nat := (ss.filter fun s => decide (0 < veZ h s) && decide (0 < veZ h0 s)).length
theorem cnt_le (h0 : Sd) (ss : List Sd) (h : Sd) : cntZ h0 ss h ≤ ss.length := List.length_filter_le _ _
theorem cnt_step {h0 h f : Sd} {ss : List Sd} (hp : ∀ s ∈ ss, 0 < s.2.2.1) (e : nxtF h ss = some f) (h1 : h = h0 ∨ 0 < veZ h0 h) (h2 : 0 < veZ h0 f) : cntZ h0 ss f < cntZ h0 ss h := by
  obtain ⟨m, v, _⟩ := nxtF_edge hp e
  unfold cntZ
  refine count_lt (x := f) (fun s _ hq => ?_) m (by rw [decide_eq_true v, decide_eq_true h2]; rfl) ?_
  · rw [Bool.and_eq_true, decide_eq_true_eq, decide_eq_true_eq] at hq ⊢
    refine ⟨?_, hq.2⟩
    rcases h1 with rfl | h1
    · exact hq.2
    · have i := plu3 h0 h f s
      have a1 := Int.mul_pos h1 hq.1
      have a2 := Int.mul_pos hq.2 v
      exact mul_pos_of' h2 (by omega)
  · have : veZ f f = 0 := by unfold veZ; grind
    rw [this]; rfl
theorem rim_all {h0 : Sd} {ss : List Sd} (hp : ∀ s ∈ ss, 0 < s.2.2.1) (sy : ∀ s ∈ ss, facZ s ∈ ss) (m0 : h0 ∈ ss) {z0 : Rat × Rat} (s0 : Sup (ss.map tri) z0) (t0 : dt (tri h0) z0 = (tri h0).2.2) : ∀ (k : Nat) (a : Sd) (z : Rat × Rat), a ∈ ss → Sup (ss.map tri) z → dt (tri a) z = (tri a).2.2 →
    (a = h0 ∨ 0 < veZ h0 a) → (a = h0 → ∃ f, nxtF h0 ss = some f) → (∀ f, nxtF a ss = some f → 0 < veZ h0 f → cntZ h0 ss f < k) →
    ∀ ab ∈ (a :: rimF h0 ss k (nxtF a ss)).zip (rimF h0 ss k (nxtF a ss) ++ [facZ h0]), ab.1 ∈ ss ∧ ab.2 ∈ ss ∧ 0 < veZ ab.1 ab.2 ∧ Sup (ss.map tri) (ry (tri ab.1) (tri ab.2)) := by
  have syT : ∀ s ∈ ss.map tri, ng s ∈ ss.map tri := fun s hs => by
    obtain ⟨t, ht, rfl⟩ := List.mem_map.mp hs
    rw [← ng_tri]; exact List.mem_map.mpr ⟨_, sy t ht, rfl⟩
  intro k
  induction k with
  | zero =>
    intro a z ha hz ta h1 h2 h3 ab hab
    cases e : nxtF a ss with
    | none =>
      exfalso
      rcases h1 with rfl | h1
      · obtain ⟨f, hf⟩ := h2 rfl; rw [e] at hf; cases hf
      · have := (nxtF_ok (h := a) hp).no e (facZ h0) (sy h0 m0)
        exact this (by have : veZ a (facZ h0) = veZ h0 a := by (unfold veZ facZ; grind)
                       rw [this]; exact h1)
    | some f =>
      obtain ⟨mf, vf, ef⟩ := nxtF_edge hp e
      by_cases c : 0 < veZ h0 f
      · exact absurd (h3 f e c) (Nat.not_lt_zero _)
      · rw [e] at hab
        have hab : ab ∈ [(a, facZ h0)] := hab
        rw [List.mem_singleton.mp hab]
        have hv : 0 < veZ h0 a := by
          rcases h1 with rfl | h1
          · exact absurd vf c
          · exact h1
        have ev : veZ a (facZ h0) = veZ h0 a := by unfold veZ facZ; grind
        refine ⟨ha, sy h0 m0, by show 0 < veZ a (facZ h0); rw [ev]; exact hv, ?_⟩
        show Sup _ (ry (tri a) (tri (facZ h0)))
        rw [ng_tri]
        exact close syT (List.mem_map.mpr ⟨h0, m0, rfl⟩) (List.mem_map.mpr ⟨a, ha, rfl⟩) s0 t0 hz ta ef (by rw [ve_tri]; exact castp.mpr hv) (by rw [ve_tri]; have := castp (n := veZ h0 f); grind)
  | succ k ih =>
    intro a z ha hz ta h1 h2 h3 ab hab
    cases e : nxtF a ss with
    | none =>
      exfalso
      rcases h1 with rfl | h1
      · obtain ⟨f, hf⟩ := h2 rfl; rw [e] at hf; cases hf
      · have := (nxtF_ok (h := a) hp).no e (facZ h0) (sy h0 m0)
        exact this (by have : veZ a (facZ h0) = veZ h0 a := by (unfold veZ facZ; grind)
                       rw [this]; exact h1)
    | some f =>
      obtain ⟨mf, vf, ef⟩ := nxtF_edge hp e
      rw [e] at hab
      by_cases c : 0 < veZ h0 f
      · have er : rimF h0 ss (k + 1) (some f) = f :: rimF h0 ss k (nxtF f ss) := if_pos c
        rw [er] at hab
        have sf := sup_step hz ta ef
        rcases List.mem_cons.mp hab with rfl | hab
        · exact ⟨ha, mf, vf, sf⟩
        · refine ih f (ry (tri a) (tri f)) mf sf (ry_b (npos ef.ve)) (.inr c) (fun z => ?_) (fun g hg hc => ?_) ab hab
          · subst z
            have : veZ f f = 0 := by unfold veZ; grind
            omega
          · have := cnt_step hp hg (.inr c) hc
            have := h3 f e c
            omega
      · have er : rimF h0 ss (k + 1) (some f) = [] := if_neg c
        rw [er] at hab
        have hab : ab ∈ [(a, facZ h0)] := hab
        rw [List.mem_singleton.mp hab]
        have hv : 0 < veZ h0 a := by
          rcases h1 with rfl | h1
          · exact absurd vf c
          · exact h1
        have ev : veZ a (facZ h0) = veZ h0 a := by unfold veZ facZ; grind
        refine ⟨ha, sy h0 m0, by show 0 < veZ a (facZ h0); rw [ev]; exact hv, ?_⟩
        show Sup _ (ry (tri a) (tri (facZ h0)))
        rw [ng_tri]
        exact close syT (List.mem_map.mpr ⟨h0, m0, rfl⟩) (List.mem_map.mpr ⟨a, ha, rfl⟩) s0 t0 hz ta ef (by rw [ve_tri]; exact castp.mpr hv) (by rw [ve_tri]; have := castp (n := veZ h0 f); grind)
end GM

namespace GM
open PySem PySem.Spec L2 DL
open RM (sz)
noncomputable def lcmS (c d : Nat) : Nat := c / Nat.gcd c d * d
theorem lcmS_eq (c d : Nat) : lcmS c d = Nat.lcm c d := by
  unfold lcmS Nat.lcm
  rw [Nat.mul_comm, ← Nat.mul_div_assoc _ (Nat.gcd_dvd_left c d), Nat.mul_comm]
noncomputable def cbL (l : T3) : Nat := lcmS (lcmS (lcmS 1 l.1.den) l.2.1.den) l.2.2.den
theorem cbL_eq (l : T3) : cbL l = Nat.lcm (Nat.lcm l.1.den l.2.1.den) l.2.2.den := by
  unfold cbL
  rw [lcmS_eq, lcmS_eq, lcmS_eq, Nat.lcm_one_left]
theorem cbL_pos (l : T3) : 0 < cbL l := by
  rw [cbL_eq]
  exact Nat.lcm_pos (Nat.lcm_pos l.1.den_pos l.2.1.den_pos) l.2.2.den_pos
theorem cbL_p (l : T3) : l.1.den ∣ cbL l := by rw [cbL_eq]; exact Nat.dvd_trans (Nat.dvd_lcm_left _ _) (Nat.dvd_lcm_left _ _)
theorem cbL_q (l : T3) : l.2.1.den ∣ cbL l := by rw [cbL_eq]; exact Nat.dvd_trans (Nat.dvd_lcm_right _ _) (Nat.dvd_lcm_left _ _)
theorem cbL_r (l : T3) : l.2.2.den ∣ cbL l := by rw [cbL_eq]; exact Nat.dvd_lcm_right _ _
noncomputable def topQ (q : Rat) (c : Nat) : Int := q.num * ((c / q.den : Nat) : Int)
theorem topQ_eq {q : Rat} {c : Nat} (h : q.den ∣ c) : (topQ q c : Rat) = q * (c : Rat) := by
  obtain ⟨k, rfl⟩ := h
  unfold topQ
  rw [Nat.mul_div_cancel_left _ q.den_pos, Rat.intCast_mul, ← mul_den q, Rat.natCast_mul, Rat.intCast_natCast]
  grind
noncomputable def sideL (l : T3) (i : Nat) : Sd := (topQ l.1 (cbL l), topQ l.2.1 (cbL l), topQ l.2.2 (cbL l), (i : Int), (cbL l : Int))
noncomputable def sidN : Nat → List T3 → List Sd
  | _, [] => []
  | i, l :: r => sideL l i :: facZ (sideL l i) :: sidN (i + 1) r
noncomputable abbrev sidesF (ls : List T3) : List Sd := sidN 0 ls
theorem tri_side (l : T3) (i : Nat) : tri (sideL l i) = (l.1 * (cbL l : Rat), l.2.1 * (cbL l : Rat), l.2.2 * (cbL l : Rat)) := by
  unfold tri sideL
  rw [topQ_eq (cbL_p l), topQ_eq (cbL_q l), topQ_eq (cbL_r l)]
theorem fac_fac (s : Sd) : facZ (facZ s) = s := by
  obtain ⟨a, b, c, d, e⟩ := s
  unfold facZ
  show (- -a, - -b, c, d, - -e) = _
  rw [Int.neg_neg, Int.neg_neg, Int.neg_neg]
theorem sid_mem {s : Sd} : ∀ {ls : List T3} {i : Nat}, s ∈ sidN i ls → ∃ l ∈ ls, ∃ j, s = sideL l j ∨ s = facZ (sideL l j)
  | [], _, h => nomatch h
  | l :: r, i, h => by
    rcases List.mem_cons.mp h with h | h
    · exact ⟨l, List.mem_cons_self, i, .inl h⟩
    · rcases List.mem_cons.mp h with h | h
      · exact ⟨l, List.mem_cons_self, i, .inr h⟩
      · obtain ⟨l', h1, j, h2⟩ := sid_mem h
        exact ⟨l', List.mem_cons_of_mem _ h1, j, h2⟩
theorem sid_has {l : T3} : ∀ {ls : List T3} {i : Nat}, l ∈ ls → ∃ j, sideL l j ∈ sidN i ls ∧ facZ (sideL l j) ∈ sidN i ls
  | [], _, h => nomatch h
  | m :: r, i, h => by
    rcases List.mem_cons.mp h with rfl | h
    · exact ⟨i, List.mem_cons_self, List.mem_cons_of_mem _ List.mem_cons_self⟩
    · obtain ⟨j, h1, h2⟩ := sid_has (i := i + 1) h
      exact ⟨j, List.mem_cons_of_mem _ (List.mem_cons_of_mem _ h1), List.mem_cons_of_mem _ (List.mem_cons_of_mem _ h2)⟩
theorem sid_sy : ∀ {ls : List T3} {i : Nat}, ∀ s ∈ sidN i ls, facZ s ∈ sidN i ls
  | [], _, _, h => nomatch h
  | l :: r, i, s, h => by
    rcases List.mem_cons.mp h with rfl | h
    · exact List.mem_cons_of_mem _ List.mem_cons_self
    · rcases List.mem_cons.mp h with rfl | h
      · rw [fac_fac]; exact List.mem_cons_self
      · exact List.mem_cons_of_mem _ (List.mem_cons_of_mem _ (sid_sy s h))
structure LineOk (l : T3) : Prop where
  ne : ¬ (l.1 = 0 ∧ l.2.1 = 0)
  pos : 0 < l.2.2
theorem cbR_pos (l : T3) : (0 : Rat) < (cbL l : Rat) := by
  exact Rat.natCast_pos.mpr (cbL_pos l)
theorem sid_pos {ls : List T3} (h : ∀ l ∈ ls, LineOk l) {i : Nat} : ∀ s ∈ sidN i ls, 0 < s.2.2.1 := fun s hs => by
  obtain ⟨l, hl, j, e⟩ := sid_mem hs
  have hr : s.2.2.1 = (sideL l j).2.2.1 := by rcases e with rfl | rfl <;> rfl
  rw [hr]
  have e2 : ((sideL l j).2.2.1 : Rat) = l.2.2 * (cbL l : Rat) := congrArg (fun t : T3 => t.2.2) (tri_side l j)
  refine castp.mp ?_
  rw [e2]
  exact Rat.mul_pos (h l hl).pos (cbR_pos l)
theorem letB_iff (l : T3) (y u : Rat) : letB l y u = true ↔ l.1 * y + l.2.1 * u ≤ l.2.2 ∧ -(l.1 * y + l.2.1 * u) ≤ l.2.2 := by
  unfold letB absQ
  rw [decide_eq_true_iff]
  split <;> grind
theorem le_scale {c x r : Rat} (hc : 0 < c) : x * c ≤ r * c ↔ x ≤ r := by
  constructor
  · intro h
    have : 0 ≤ c * (r - x) := by grind
    have := pos_of hc this
    grind
  · intro h
    have : 0 ≤ (r - x) * c := Rat.mul_nonneg (by grind) (lpos hc)
    grind
theorem dt_side (l : T3) (j : Nat) (z : Rat × Rat) : dt (tri (sideL l j)) z = (l.1 * z.1 + l.2.1 * z.2) * (cbL l : Rat) := by
  rw [tri_side]; unfold dt; grind
theorem dt_fac (s : Sd) (z : Rat × Rat) : dt (tri (facZ s)) z = -dt (tri s) z := by rw [ng_tri]; unfold dt ng; grind
theorem sup_iff (ls : List T3) (z : Rat × Rat) : Sup ((sidesF ls).map tri) z ↔ letsB ls z.1 z.2 = true := by
  unfold letsB
  rw [List.all_eq_true]
  constructor
  · intro h l hl
    obtain ⟨j, h1, h2⟩ := sid_has (i := 0) hl
    have a1 := h _ (List.mem_map.mpr ⟨_, h1, rfl⟩)
    have a2 := h _ (List.mem_map.mpr ⟨_, h2, rfl⟩)
    rw [dt_fac] at a2
    have e : (tri (facZ (sideL l j))).2.2 = (tri (sideL l j)).2.2 := rfl
    rw [e] at a2
    rw [dt_side, tri_side] at a1 a2
    rw [letB_iff]
    refine ⟨(le_scale (cbR_pos l)).mp a1, (le_scale (cbR_pos l)).mp ?_⟩
    rw [Rat.neg_mul]; exact a2
  · intro h s hs
    obtain ⟨t, ht, rfl⟩ := List.mem_map.mp hs
    obtain ⟨l, hl, j, e⟩ := sid_mem ht
    obtain ⟨b1, b2⟩ := (letB_iff l z.1 z.2).mp (h l hl)
    rcases e with rfl | rfl
    · rw [dt_side, tri_side]; exact (le_scale (cbR_pos l)).mpr b1
    · rw [dt_fac]
      show -dt (tri (sideL l j)) z ≤ (tri (sideL l j)).2.2
      rw [dt_side, tri_side, ← Rat.neg_mul]
      exact (le_scale (cbR_pos l)).mpr b2
theorem half_main {ls : List T3} (hok : ∀ l ∈ ls, LineOk l) (hne : ls ≠ []) : ∃ h0 l, halfF (sidesF ls) = h0 :: l ∧ h0 ∈ sidesF ls ∧
    ((l = [] ∧ ∀ s ∈ sidesF ls, veZ h0 s = 0) ∨ (l ≠ [] ∧ Rim ((sidesF ls).map tri) (tri h0) (l.map tri) ∧ ∀ ab ∈ (h0 :: l).zip (l ++ [facZ h0]), ab.1 ∈ sidesF ls ∧ ab.2 ∈ sidesF ls ∧ 0 < veZ ab.1 ab.2)) := by
  have hp : ∀ s ∈ sidesF ls, 0 < s.2.2.1 := sid_pos hok (i := 0)
  have sy : ∀ s ∈ sidesF ls, facZ s ∈ sidesF ls := sid_sy (ls := ls) (i := 0)
  have nn : sidesF ls ≠ [] := by
    cases ls with
    | nil => exact absurd rfl hne
    | cons a b => exact fun z => nomatch z
  generalize sidesF ls = ss at *
  obtain ⟨s1, r, rfl⟩ : ∃ s1 r, ss = s1 :: r := by
    cases ss with
    | nil => exact absurd rfl nn
    | cons a b => exact ⟨_, _, rfl⟩
  refine ⟨outF (s1 :: r) s1, _, rfl, ?_⟩
  have m0 : outF (s1 :: r) s1 ∈ s1 :: r := by
    rcases outF_mem (s1 :: r) s1 with h | h
    · rw [h]; exact List.mem_cons_self
    · exact h
  have le := fun t ht => outF_le (s1 :: r) s1 t hp (hp s1 List.mem_cons_self) (hp t ht) (.inl ht)
  generalize outF (s1 :: r) s1 = h0 at *
  generalize s1 :: r = ss at *
  refine ⟨m0, ?_⟩
  cases e : nxtF h0 ss with
  | none =>
    left
    have no := (nxtF_ok (h := h0) hp).no e
    refine ⟨by cases ss.length <;> rfl, fun s hs => ?_⟩
    have a1 := no s hs
    have a2 := no _ (sy s hs)
    have : veZ h0 (facZ s) = -veZ h0 s := by unfold veZ facZ; grind
    omega
  | some f =>
    right
    obtain ⟨mf, vf, ef⟩ := nxtF_edge hp e
    have hl : ss.length ≠ 0 := fun z => by rw [List.eq_nil_of_length_eq_zero z] at m0; cases m0
    have r0 := hp h0 m0
    have p0 : 0 < h0.1 := by
      rcases Int.lt_or_le 0 h0.1 with z | z
      · exact z
      · exfalso
        have all0 : ∀ s ∈ ss, s.1 = 0 := fun s hs => by
          have q1 := le s hs
          have q2 := le _ (sy s hs)
          have rs := hp s hs
          have q2 : -s.1 * h0.2.2.1 ≤ h0.1 * s.2.2.1 := q2
          have q3 : 0 ≤ -h0.1 * s.2.2.1 := Int.mul_nonneg (by omega) (by omega)
          rw [Int.neg_mul] at q2 q3
          have q4 : s.1 * h0.2.2.1 = 0 := by omega
          exact (Int.mul_eq_zero.mp q4).resolve_right (by omega)
        have : veZ h0 f = 0 := by
          unfold veZ; rw [all0 h0 m0, all0 f mf, Int.zero_mul, Int.mul_zero]; rfl
        omega
    have p0R : (0 : Rat) < (h0.1 : Rat) := castp.mpr p0
    have s0 : Sup (ss.map tri) ((h0.2.2.1 : Rat) / (h0.1 : Rat), 0) := fun s hs => by
      obtain ⟨t, ht, rfl⟩ := List.mem_map.mp hs
      have q := le t ht
      have q' : ((t.1 * h0.2.2.1 : Int) : Rat) ≤ ((h0.1 * t.2.2.1 : Int) : Rat) := Rat.intCast_le_intCast.mpr q
      rw [Rat.intCast_mul, Rat.intCast_mul] at q'
      unfold dt tri
      show (t.1 : Rat) * ((h0.2.2.1 : Rat) / (h0.1 : Rat)) + (t.2.1 : Rat) * 0 ≤ (t.2.2.1 : Rat)
      have e1 : (h0.1 : Rat) * ((h0.2.2.1 : Rat) / (h0.1 : Rat)) = (h0.2.2.1 : Rat) := by rw [Rat.mul_comm, Rat.div_mul_cancel (npos p0R)]
      have : 0 ≤ (h0.1 : Rat) * ((t.2.2.1 : Rat) - (t.1 : Rat) * ((h0.2.2.1 : Rat) / (h0.1 : Rat))) := by
        generalize (h0.2.2.1 : Rat) / (h0.1 : Rat) = w at *
        generalize (h0.1 : Rat) = A at *
        generalize (h0.2.2.1 : Rat) = B at *
        generalize (t.1 : Rat) = C at *
        generalize (t.2.2.1 : Rat) = E at *
        subst e1
        clear le hp sy
        grind
      have := pos_of p0R this
      rw [Rat.mul_zero, Rat.add_zero]
      generalize (t.1 : Rat) * ((h0.2.2.1 : Rat) / (h0.1 : Rat)) = w at *
      generalize (t.2.2.1 : Rat) = E at *
      clear le hp sy
      grind
    have t0 : dt (tri h0) ((h0.2.2.1 : Rat) / (h0.1 : Rat), 0) = (tri h0).2.2 := by
      unfold dt tri
      show (h0.1 : Rat) * ((h0.2.2.1 : Rat) / (h0.1 : Rat)) + (h0.2.1 : Rat) * 0 = (h0.2.2.1 : Rat)
      rw [Rat.mul_comm, Rat.div_mul_cancel (npos p0R), Rat.mul_zero, Rat.add_zero]
    have all := rim_all hp sy m0 s0 t0 ss.length h0 _ m0 s0 t0 (.inl rfl) (fun _ => ⟨f, e⟩) (fun g hg hv => Nat.lt_of_lt_of_le (cnt_step hp hg (.inl rfl) hv) (cnt_le h0 ss h0))
    rw [e] at all
    refine ⟨?_, ⟨?_, fun s hs => ?_, fun s hs => ?_, fun ab hab => ?_⟩, fun ab hab => ?_⟩
    · obtain ⟨k, hk⟩ : ∃ k, ss.length = k + 1 := ⟨ss.length - 1, by omega⟩
      rw [hk]
      show (if 0 < veZ h0 f then _ else _) ≠ []
      rw [if_pos vf]; exact fun z => nomatch z
    · obtain ⟨k, hk⟩ : ∃ k, ss.length = k + 1 := ⟨ss.length - 1, by omega⟩
      rw [hk]
      show (if 0 < veZ h0 f then _ else _ : List Sd).map tri ≠ []
      rw [if_pos vf]; exact fun z => nomatch z
    · obtain ⟨t, ht, rfl⟩ := List.mem_map.mp hs
      rw [← ng_tri]; exact List.mem_map.mpr ⟨_, sy t ht, rfl⟩
    · obtain ⟨t, ht, rfl⟩ := List.mem_map.mp hs
      exact castp.mpr (hp t ht)
    · have em : ab ∈ ((h0 :: rimF h0 ss ss.length (some f)).map tri).zip ((rimF h0 ss ss.length (some f) ++ [facZ h0]).map tri) := by
        rw [List.map_append, List.map_cons, List.map_cons, List.map_nil, ng_tri]; exact hab
      rw [zip_both] at em
      obtain ⟨cd, hcd, rfl⟩ := List.mem_map.mp em
      obtain ⟨q1, q2, q3, q4⟩ := all cd hcd
      exact ⟨List.mem_map.mpr ⟨_, q1, rfl⟩, List.mem_map.mpr ⟨_, q2, rfl⟩, by show 0 < ve (tri cd.1) (tri cd.2); rw [ve_tri]; exact castp.mpr q3, q4⟩
    · obtain ⟨q1, q2, q3, q4⟩ := all ab hab
      exact ⟨q1, q2, q3⟩
noncomputable def lowB (a b : Rat × Rat) : Bool := if a.1 = b.1 then decide (a.2 < b.2) else decide (a.1 < b.1)
noncomputable def plcF (rs : List (Rat × Rat)) : Nat → Nat
  | 0 => 0
  | i + 1 => if lowB (rs.getD i (0, 0)) (rs.getD (plcF rs i) (0, 0)) = true then i else plcF rs i
noncomputable def rotF (rs : List (Rat × Rat)) : List (Rat × Rat) := rs.drop (plcF rs rs.length) ++ rs.take (plcF rs rs.length)
noncomputable def raysF (h0 : Sd) (l : List Sd) : List (Rat × Rat) := ((h0 :: l).zip (l ++ [facZ h0])).map fun ab => ry (tri ab.1) (tri ab.2)
noncomputable def corF (ls : List T3) : Option (List (Rat × Rat)) := match halfF (sidesF ls) with
  | [] => none
  | [_] => none
  | h0 :: x :: l => some (rotF (raysF h0 (x :: l) ++ (raysF h0 (x :: l)).map ngZ))
theorem rot_mem {rs : List (Rat × Rat)} {z : Rat × Rat} : z ∈ rotF rs ↔ z ∈ rs := by
  unfold rotF
  rw [List.mem_append, Or.comm, ← List.mem_append, List.take_append_drop]
theorem rays_cor (h0 : Sd) (l : List Sd) : raysF h0 l ++ (raysF h0 l).map ngZ = corR (tri h0) (l.map tri) := by
  unfold raysF corR edgs
  have e : (tri h0 :: l.map tri).zip (l.map tri ++ [ng (tri h0)]) = ((h0 :: l).zip (l ++ [facZ h0])).map fun ab => (tri ab.1, tri ab.2) := by
    rw [← zip_both, List.map_cons, List.map_append, List.map_cons, List.map_nil, ng_tri]
  rw [e, List.map_map, List.map_map, List.map_map]
  rfl
noncomputable def AllAlong (ls : List T3) : Prop := ∀ a ∈ ls, ∀ b ∈ ls, a.1 * b.2.1 = b.1 * a.2.1
theorem ve_sides (a b : T3) (i j : Nat) : ve (tri (sideL a i)) (tri (sideL b j)) = (a.1 * b.2.1 - b.1 * a.2.1) * ((cbL a : Rat) * (cbL b : Rat)) := by
  rw [tri_side, tri_side]; unfold ve; grind
theorem cor_main {ls : List T3} (hok : ∀ l ∈ ls, LineOk l) :
    (corF ls = none ∧ AllAlong ls) ∨ ∃ cs, corF ls = some cs ∧ ¬ AllAlong ls ∧ (∃ h0 l, Rim ((sidesF ls).map tri) h0 l ∧ ∀ z, z ∈ cs ↔ z ∈ corR h0 l) := by
  by_cases hne : ls = []
  · subst hne
    exact .inl ⟨rfl, fun a ha => nomatch ha⟩
  obtain ⟨h0, l, e, m0, h⟩ := half_main hok hne
  rcases h with ⟨rfl, h⟩ | ⟨hl, R, h⟩
  · left
    refine ⟨by unfold corF; rw [e], fun a ha b hb => ?_⟩
    obtain ⟨i, ha, _⟩ := sid_has (i := 0) ha
    obtain ⟨j, hb, _⟩ := sid_has (i := 0) hb
    have e1 := h _ ha
    have e2 := h _ hb
    obtain ⟨c, hc, k, ec⟩ := sid_mem m0
    have hc0 : ¬ ((tri h0).1 = 0 ∧ (tri h0).2.1 = 0) := fun ⟨z1, z2⟩ => by
      have cp := cbR_pos c
      have : (tri (sideL c k)).1 = 0 ∧ (tri (sideL c k)).2.1 = 0 := by
        rcases ec with rfl | rfl
        · exact ⟨z1, z2⟩
        · rw [ng_tri] at z1 z2
          unfold ng at z1 z2
          exact ⟨by grind, by grind⟩
      rw [tri_side] at this
      have t1 : c.1 * (cbL c : Rat) = 0 := this.1
      have t2 : c.2.1 * (cbL c : Rat) = 0 := this.2
      exact (hok c hc).ne ⟨by grind, by grind⟩
    have f1 : ve (tri h0) (tri (sideL a i)) = 0 := by rw [ve_tri, e1]; rfl
    have f2 : ve (tri h0) (tri (sideL b j)) = 0 := by rw [ve_tri, e2]; rfl
    have f3 : ve (tri (sideL a i)) (tri (sideL b j)) = 0 := by
      generalize tri (sideL a i) = x at *
      generalize tri (sideL b j) = y at *
      generalize tri h0 = w at *
      unfold ve at *
      have i1 : w.1 * (x.1 * y.2.1 - x.2.1 * y.1) = 0 := by
        have : w.1 * (x.1 * y.2.1 - x.2.1 * y.1) = x.1 * (w.1 * y.2.1 - w.2.1 * y.1) - y.1 * (w.1 * x.2.1 - w.2.1 * x.1) := by grind
        rw [this, f1, f2]; grind
      have i2 : w.2.1 * (x.1 * y.2.1 - x.2.1 * y.1) = 0 := by
        have : w.2.1 * (x.1 * y.2.1 - x.2.1 * y.1) = x.2.1 * (w.1 * y.2.1 - w.2.1 * y.1) - y.2.1 * (w.1 * x.2.1 - w.2.1 * x.1) := by grind
        rw [this, f1, f2]; grind
      by_cases c1 : w.1 = 0
      · have c2 : w.2.1 ≠ 0 := fun z => hc0 ⟨c1, z⟩
        grind
      · grind
    rw [ve_sides] at f3
    have q1 := npos (Rat.mul_pos (cbR_pos a) (cbR_pos b))
    generalize (cbL a : Rat) * (cbL b : Rat) = k at *
    generalize a.1 * b.2.1 = u at *
    generalize b.1 * a.2.1 = v at *
    clear h e m0 hc0 f1 f2 e1 e2 hok
    grind
  · right
    obtain ⟨x, l, rfl⟩ : ∃ x l', l = x :: l' := by
      cases l with
      | nil => exact absurd rfl hl
      | cons x l => exact ⟨x, l, rfl⟩
    refine ⟨_, by unfold corF; rw [e], fun al => ?_, _, _, R, fun z => ?_⟩
    · obtain ⟨q1, q2, q3⟩ := h (h0, x) List.mem_cons_self
      obtain ⟨a, ha, i, ea⟩ := sid_mem q1
      obtain ⟨b, hb, j, eb⟩ := sid_mem q2
      have hv := al a ha b hb
      have z0 : ve (tri (sideL a i)) (tri (sideL b j)) = 0 := by rw [ve_sides, hv]; grind
      have q3 : 0 < veZ h0 x := q3
      have q4 : (0 : Rat) < ve (tri h0) (tri x) := by rw [ve_tri]; exact castp.mpr q3
      have ea' : tri h0 = tri (sideL a i) ∨ tri h0 = ng (tri (sideL a i)) := by
        rcases ea with h | h
        · have h : h0 = _ := h; left; rw [h]
        · have h : h0 = _ := h; right; rw [h, ng_tri]
      have eb' : tri x = tri (sideL b j) ∨ tri x = ng (tri (sideL b j)) := by
        rcases eb with h | h
        · have h : x = _ := h; left; rw [h]
        · have h : x = _ := h; right; rw [h, ng_tri]
      have z1 : ve (tri h0) (tri x) = 0 := by
        rcases ea' with h | h <;> rcases eb' with h' | h' <;> (rw [h, h']; clear q4; generalize tri (sideL a i) = A at *; generalize tri (sideL b j) = B at *; unfold ve at *; first | exact z0 | (unfold ng; grind))
      grind
    · rw [rot_mem, rays_cor]
end GM

namespace GM
open PySem PySem.Spec L2 DL
open RM (sz)
theorem sdD_iff {a b : Sd} : sdD a = sdD b ↔ a = b := by
  constructor
  · intro h
    unfold sdD at h
    injection h with h
    injection h with h1 h
    injection h with h2 h
    injection h with h3 h
    injection h with h4 h
    injection h with h5 h
    injection h1 with h1; injection h2 with h2; injection h3 with h3; injection h4 with h4; injection h5 with h5
    exact Prod.ext h1 (Prod.ext h2 (Prod.ext h3 (Prod.ext h4 h5)))
  · rintro rfl; rfl
theorem sdsD_iff {xs ys : List Sd} : xs.map sdD = ys.map sdD ↔ xs = ys := List.map_inj_right (fun _ _ h => sdD_iff.mp h)
theorem rD_iff {a b : Rat × Rat} : rD a = rD b ↔ a = b := by
  constructor
  · intro h
    unfold rD rayD at h
    injection h with h
    injection h with h1 h
    injection h with h2 h
    exact Prod.ext (ratD_iff.mp h1) (ratD_iff.mp h2)
  · rintro rfl; rfl
theorem rDs_iff {xs ys : List (Rat × Rat)} : xs.map rD = ys.map rD ↔ xs = ys := List.map_inj_right (fun _ _ h => rD_iff.mp h)
structure SzS (s : Sd) : Prop where
  p : s.1.natAbs < 2 ^ 1200
  q : s.2.1.natAbs < 2 ^ 1200
  r : s.2.2.1.natAbs < 2 ^ 1200
noncomputable def optS : Option Sd → D
  | none => .non
  | some s => sdD s
structure LnOk (l : T3) : Prop extends LineOk l where
  p : sz l.1 ≤ 1300
  q : sz l.2.1 ≤ 1300
  r : sz l.2.2 ≤ 1300
  s : SzS (sideL l 0)
noncomputable def LsOk (ls : List T3) : Prop := ls.length ≤ 12 ∧ ∀ l ∈ ls, LnOk l
local macro_rules | `(tactic| walk_at "inj") => `(tactic| (rename_i e h; simp only [List.cons.injEq, GM.sdD_iff, GM.sdsD_iff, GM.rD_iff, GM.rDs_iff, and_true, true_and, GM.ratD_iff, GM.partD_iff, GM.partsD_iff, GM.lineD_iff, GM.linesD_iff, D.tup.injEq, D.ref.injEq, D.int.injEq, D.str.injEq, D.bl.injEq, D.vl.injEq, Int.natCast_inj, and_assoc] at e; (repeat (obtain ⟨e1, e⟩ := e; subst e1)); subst e; exact h))
local macro_rules | `(tactic| walk_at "injs") => `(tactic| (rename_i e o h; rcases o with o | o <;> (subst o; first | (exfalso; simp only [D.tup.injEq, List.cons.injEq, reduceCtorEq, false_and, and_false] at e; done) | (simp only [List.cons.injEq, GM.sdD_iff, GM.sdsD_iff, GM.rD_iff, GM.rDs_iff, and_true, true_and, GM.ratD_iff, GM.partD_iff, GM.partsD_iff, GM.lineD_iff, GM.linesD_iff, D.tup.injEq, D.ref.injEq, D.int.injEq, D.str.injEq, D.bl.injEq, D.vl.injEq, Int.natCast_inj, and_assoc] at e; (repeat (obtain ⟨e1, e⟩ := e; subst e1)); subst e; exact h))))
noncomputable abbrev sCbL_b (l : T3) (M : Mem) (R : DK) (Y : DXK) : Prop := LnOk l ∧ R (.int ((cbL l : Nat) : Int)) M
noncomputable def sCbL : DSp := fun ds M R Y => ∃ (l : T3), ds = [lineD l] ∧ sCbL_b l M R Y
theorem z_sCbL {l : T3} {M : Mem} {R : DK} {Y : DXK} : sCbL [lineD l] M R Y = (sCbL_b l M R Y) := propext ⟨fun z => by obtain ⟨_, _, _⟩ := z; walk_at "inj", fun h => ⟨l, rfl, h⟩⟩
noncomputable abbrev sTopsL_b (l : T3) (c : Int) (M : Mem) (R : DK) (Y : DXK) : Prop := (LnOk l ∧ c = ((cbL l : Nat) : Int)) ∧ R (.vl [.int (sideL l 0).1, .int (sideL l 0).2.1, .int (sideL l 0).2.2.1]) M
noncomputable def sTopsL : DSp := fun ds M R Y => ∃ (l : T3) (c : Int), ds = [lineD l, .int c] ∧ sTopsL_b l c M R Y
theorem z_sTopsL {l : T3} {c : Int} {M : Mem} {R : DK} {Y : DXK} : sTopsL [lineD l, .int c] M R Y = (sTopsL_b l c M R Y) := propext ⟨fun z => by obtain ⟨_, _, _, _⟩ := z; walk_at "inj", fun h => ⟨l, c, rfl, h⟩⟩
noncomputable abbrev sSides_b (ls : List T3) (M : Mem) (R : DK) (Y : DXK) : Prop := LsOk ls ∧ R (.vl ((sidesF ls).map sdD)) M
noncomputable def sSides : DSp := fun ds M R Y => ∃ (x0 : D) (ls : List T3), ds = [x0] ∧ (x0 = .vl (ls.map lineD) ∨ x0 = .tup (ls.map lineD)) ∧ sSides_b ls M R Y
theorem z_sSides {ls : List T3} {M : Mem} {R : DK} {Y : DXK} : sSides [.vl (ls.map lineD)] M R Y = (sSides_b ls M R Y) := propext ⟨fun z => by obtain ⟨_, _, _, _, _⟩ := z; walk_at "injs", fun h => ⟨_, ls, rfl, .inl rfl, h⟩⟩
theorem z_sSides_t {ls : List T3} {M : Mem} {R : DK} {Y : DXK} : sSides [.tup (ls.map lineD)] M R Y = (sSides_b ls M R Y) := propext ⟨fun z => by obtain ⟨_, _, _, _, _⟩ := z; walk_at "injs", fun h => ⟨_, ls, rfl, .inr rfl, h⟩⟩
noncomputable abbrev sFac_b (a : Sd) (M : Mem) (R : DK) (Y : DXK) : Prop := R (sdD (facZ a)) M
noncomputable def sFac : DSp := fun ds M R Y => ∃ (a : Sd), ds = [sdD a] ∧ sFac_b a M R Y
theorem z_sFac {a : Sd} {M : Mem} {R : DK} {Y : DXK} : sFac [sdD a] M R Y = (sFac_b a M R Y) := propext ⟨fun z => by obtain ⟨_, _, _⟩ := z; walk_at "inj", fun h => ⟨a, rfl, h⟩⟩
noncomputable abbrev sVeer_b (a b : Sd) (M : Mem) (R : DK) (Y : DXK) : Prop := (SzS a ∧ SzS b) ∧ R (.int (veZ a b)) M
noncomputable def sVeer : DSp := fun ds M R Y => ∃ (a b : Sd), ds = [sdD a, sdD b] ∧ sVeer_b a b M R Y
theorem z_sVeer {a b : Sd} {M : Mem} {R : DK} {Y : DXK} : sVeer [sdD a, sdD b] M R Y = (sVeer_b a b M R Y) := propext ⟨fun z => by obtain ⟨_, _, _, _⟩ := z; walk_at "inj", fun h => ⟨a, b, rfl, h⟩⟩
noncomputable abbrev sTurn_b (a b c : Sd) (M : Mem) (R : DK) (Y : DXK) : Prop := (SzS a ∧ SzS b ∧ SzS c) ∧ R (.int (tnZ a b c)) M
noncomputable def sTurn : DSp := fun ds M R Y => ∃ (a b c : Sd), ds = [sdD a, sdD b, sdD c] ∧ sTurn_b a b c M R Y
theorem z_sTurn {a b c : Sd} {M : Mem} {R : DK} {Y : DXK} : sTurn [sdD a, sdD b, sdD c] M R Y = (sTurn_b a b c M R Y) := propext ⟨fun z => by obtain ⟨_, _, _, _, _⟩ := z; walk_at "inj", fun h => ⟨a, b, c, rfl, h⟩⟩
noncomputable abbrev sJuts_b (a b : Sd) (M : Mem) (R : DK) (Y : DXK) : Prop := (SzS a ∧ SzS b) ∧ R (.bl (jutsZ a b)) M
noncomputable def sJuts : DSp := fun ds M R Y => ∃ (a b : Sd), ds = [sdD a, sdD b] ∧ sJuts_b a b M R Y
theorem z_sJuts {a b : Sd} {M : Mem} {R : DK} {Y : DXK} : sJuts [sdD a, sdD b] M R Y = (sJuts_b a b M R Y) := propext ⟨fun z => by obtain ⟨_, _, _, _⟩ := z; walk_at "inj", fun h => ⟨a, b, rfl, h⟩⟩
noncomputable abbrev sOutm_b (ss : List Sd) (M : Mem) (R : DK) (Y : DXK) : Prop := (∃ s r, ss = s :: r) ∧ (∀ s ∈ ss, SzS s) ∧ R (sdD (outF ss (ss.headD (0, 0, 0, 0, 0)))) M
noncomputable def sOutm : DSp := fun ds M R Y => ∃ (ss : List Sd), ds = [.vl (ss.map sdD)] ∧ sOutm_b ss M R Y
theorem z_sOutm {ss : List Sd} {M : Mem} {R : DK} {Y : DXK} : sOutm [.vl (ss.map sdD)] M R Y = (sOutm_b ss M R Y) := propext ⟨fun z => by obtain ⟨_, _, _⟩ := z; walk_at "inj", fun h => ⟨ss, rfl, h⟩⟩
noncomputable abbrev sNxt_b (ss : List Sd) (g : Sd) (M : Mem) (R : DK) (Y : DXK) : Prop := (SzS g ∧ ∀ s ∈ ss, SzS s) ∧ R (optS (nxtF g ss)) M
noncomputable def sNxt : DSp := fun ds M R Y => ∃ (ss : List Sd) (g : Sd), ds = [.vl (ss.map sdD), sdD g] ∧ sNxt_b ss g M R Y
theorem z_sNxt {ss : List Sd} {g : Sd} {M : Mem} {R : DK} {Y : DXK} : sNxt [.vl (ss.map sdD), sdD g] M R Y = (sNxt_b ss g M R Y) := propext ⟨fun z => by obtain ⟨_, _, _, _⟩ := z; walk_at "inj", fun h => ⟨ss, g, rfl, h⟩⟩
noncomputable abbrev sHalf_b (ls : List T3) (M : Mem) (R : DK) (Y : DXK) : Prop := LsOk ls ∧ R (.vl ((halfF (sidesF ls)).map sdD)) M
noncomputable def sHalf : DSp := fun ds M R Y => ∃ (x0 : D) (ls : List T3), ds = [x0] ∧ (x0 = .vl (ls.map lineD) ∨ x0 = .tup (ls.map lineD)) ∧ sHalf_b ls M R Y
theorem z_sHalf {ls : List T3} {M : Mem} {R : DK} {Y : DXK} : sHalf [.vl (ls.map lineD)] M R Y = (sHalf_b ls M R Y) := propext ⟨fun z => by obtain ⟨_, _, _, _, _⟩ := z; walk_at "injs", fun h => ⟨_, ls, rfl, .inl rfl, h⟩⟩
theorem z_sHalf_t {ls : List T3} {M : Mem} {R : DK} {Y : DXK} : sHalf [.tup (ls.map lineD)] M R Y = (sHalf_b ls M R Y) := propext ⟨fun z => by obtain ⟨_, _, _, _, _⟩ := z; walk_at "injs", fun h => ⟨_, ls, rfl, .inr rfl, h⟩⟩
noncomputable abbrev sMet_b (a b : Sd) (M : Mem) (R : DK) (Y : DXK) : Prop := (SzS a ∧ SzS b ∧ veZ a b ≠ 0) ∧ R (rD (ry (tri a) (tri b))) M
noncomputable def sMet : DSp := fun ds M R Y => ∃ (a b : Sd), ds = [sdD a, sdD b] ∧ sMet_b a b M R Y
theorem z_sMet {a b : Sd} {M : Mem} {R : DK} {Y : DXK} : sMet [sdD a, sdD b] M R Y = (sMet_b a b M R Y) := propext ⟨fun z => by obtain ⟨_, _, _, _⟩ := z; walk_at "inj", fun h => ⟨a, b, rfl, h⟩⟩
noncomputable def RS24 (z : Rat × Rat) : Prop := sz z.1 ≤ 2402 ∧ sz z.2 ≤ 2402
noncomputable abbrev sLower_b (a b : Rat × Rat) (M : Mem) (R : DK) (Y : DXK) : Prop := (RS24 a ∧ RS24 b) ∧ R (.bl (lowB a b)) M
noncomputable def sLower : DSp := fun ds M R Y => ∃ (a b : Rat × Rat), ds = [rD a, rD b] ∧ sLower_b a b M R Y
theorem z_sLower {a b : Rat × Rat} {M : Mem} {R : DK} {Y : DXK} : sLower [rD a, rD b] M R Y = (sLower_b a b M R Y) := propext ⟨fun z => by obtain ⟨_, _, _, _⟩ := z; walk_at "inj", fun h => ⟨a, b, rfl, h⟩⟩
noncomputable abbrev sFromL_b (rs : List (Rat × Rat)) (M : Mem) (R : DK) (Y : DXK) : Prop := (rs ≠ [] ∧ rs.length ≤ 100 ∧ ∀ z ∈ rs, RS24 z) ∧ R (.vl ((rotF rs).map rD)) M
noncomputable def sFromL : DSp := fun ds M R Y => ∃ (rs : List (Rat × Rat)), ds = [.vl (rs.map rD)] ∧ sFromL_b rs M R Y
theorem z_sFromL {rs : List (Rat × Rat)} {M : Mem} {R : DK} {Y : DXK} : sFromL [.vl (rs.map rD)] M R Y = (sFromL_b rs M R Y) := propext ⟨fun z => by obtain ⟨_, _, _⟩ := z; walk_at "inj", fun h => ⟨rs, rfl, h⟩⟩
noncomputable def optC : Option (List (Rat × Rat)) → D
  | none => .non
  | some cs => .vl (cs.map rD)
noncomputable abbrev sCorn_b (ls : List T3) (M : Mem) (R : DK) (Y : DXK) : Prop := LsOk ls ∧ R (optC (corF ls)) M
noncomputable def sCorn : DSp := fun ds M R Y => ∃ (x0 : D) (ls : List T3), ds = [x0] ∧ (x0 = .vl (ls.map lineD) ∨ x0 = .tup (ls.map lineD)) ∧ sCorn_b ls M R Y
theorem z_sCorn {ls : List T3} {M : Mem} {R : DK} {Y : DXK} : sCorn [.vl (ls.map lineD)] M R Y = (sCorn_b ls M R Y) := propext ⟨fun z => by obtain ⟨_, _, _, _, _⟩ := z; walk_at "injs", fun h => ⟨_, ls, rfl, .inl rfl, h⟩⟩
theorem z_sCorn_t {ls : List T3} {M : Mem} {R : DK} {Y : DXK} : sCorn [.tup (ls.map lineD)] M R Y = (sCorn_b ls M R Y) := propext ⟨fun z => by obtain ⟨_, _, _, _, _⟩ := z; walk_at "injs", fun h => ⟨_, ls, rfl, .inr rfl, h⟩⟩
theorem z_sSd0 {a : Sd} {M : Mem} {R : DK} : gIx (sdD a) (.int 0) M R = R (.int a.1) M := z_ixT0
theorem z_sSd1 {a : Sd} {M : Mem} {R : DK} : gIx (sdD a) (.int 1) M R = R (.int a.2.1) M := z_ixT1
theorem z_sSd2 {a : Sd} {M : Mem} {R : DK} : gIx (sdD a) (.int 2) M R = R (.int a.2.2.1) M := z_ixT2
theorem z_sRd0 {a : Rat × Rat} {M : Mem} {R : DK} : gIx (rD a) (.int 0) M R = R (ratD a.1) M := z_ixT0
theorem z_sRd1 {a : Rat × Rat} {M : Mem} {R : DK} : gIx (rD a) (.int 1) M R = R (ratD a.2) M := z_ixT1
theorem SzS.ve {a b : Sd} (ha : SzS a) (hb : SzS b) : (veZ a b).natAbs < 2 ^ 2401 := by
  have h1 := int_mul_lt ha.p hb.q
  have h2 := int_mul_lt ha.q hb.p
  unfold veZ
  have := Int.natAbs_sub_le (a.1 * b.2.1) (a.2.1 * b.1)
  rw [show 2401 = 1200 + 1200 + 1 from rfl, Nat.pow_succ]
  omega
theorem lcmS_le (c d : Nat) : lcmS c d ≤ c * d := by
  unfold lcmS
  exact Nat.mul_le_mul_right _ (Nat.div_le_self _ _)
theorem cb_fold : ∀ (xs : List Rat) (c m : Nat), (∀ x ∈ xs, sz x ≤ 1300) → c < 2 ^ m → xs.foldl (fun c q => lcmS c q.den) c < 2 ^ (m + 1300 * xs.length)
  | [], c, m, _, h => by simpa using h
  | x :: xs, c, m, hx, h => by
    have h1 : lcmS c x.den < 2 ^ (m + 1300) := Nat.lt_of_le_of_lt (lcmS_le c x.den) (nat_mul_lt h (den_lt' x (hx x List.mem_cons_self)))
    have := cb_fold xs _ _ (fun y hy => hx y (List.mem_cons_of_mem _ hy)) h1
    rw [List.foldl_cons, List.length_cons]
    rwa [show m + 1300 * (xs.length + 1) = m + 1300 + 1300 * xs.length by omega]
theorem LnOk.all {l : T3} (h : LnOk l) : ∀ x ∈ [l.1, l.2.1, l.2.2], sz x ≤ 1300 := fun x hx => by
  simp only [List.mem_cons, List.not_mem_nil, or_false] at hx
  rcases hx with rfl | rfl | rfl
  · exact h.p
  · exact h.q
  · exact h.r
theorem LnOk.cb {l : T3} (h : LnOk l) : cbL l < 2 ^ 3901 := cb_fold [l.1, l.2.1, l.2.2] 1 1 h.all (by decide)
theorem szs_sides {ls : List T3} (h : LsOk ls) {i : Nat} : ∀ s ∈ sidN i ls, SzS s := fun s hs => by
  obtain ⟨l, hl, j, e⟩ := sid_mem hs
  obtain ⟨a, b, c⟩ := (h.2 l hl).s
  rcases e with rfl | rfl
  · exact ⟨a, b, c⟩
  · exact ⟨by show (-(sideL l j).1).natAbs < _; rw [Int.natAbs_neg]; exact a, by show (-(sideL l j).2.1).natAbs < _; rw [Int.natAbs_neg]; exact b, c⟩
theorem sid_take : ∀ (ls : List T3) (i j : Nat) (l : T3), ls[j]? = some l → sidN i (ls.take (j + 1)) = sidN i (ls.take j) ++ [sideL l (i + j), facZ (sideL l (i + j))]
  | [], _, _, _, h => nomatch h
  | a :: r, i, 0, l, h => by
    obtain rfl := Option.some.inj h
    rfl
  | a :: r, i, j + 1, l, h => by
    have := sid_take r (i + 1) j l h
    rw [List.take_succ_cons, List.take_succ_cons]
    show _ :: _ :: sidN (i + 1) (r.take (j + 1)) = _ :: _ :: (sidN (i + 1) (r.take j) ++ _)
    rw [this, show i + 1 + j = i + (j + 1) by omega]
theorem sid_len : ∀ (ls : List T3) (i : Nat), (sidN i ls).length = 2 * ls.length
  | [], _ => rfl
  | a :: r, i => by
    show (sidN (i + 1) r).length + 1 + 1 = 2 * (r.length + 1)
    rw [sid_len r (i + 1)]; omega
theorem divInt_cast (a b : Int) : Rat.divInt a b = (a : Rat) / (b : Rat) := Rat.divInt_eq_div a b
theorem ry_div (a b : Sd) : (Rat.divInt (a.2.2.1 * b.2.1 - b.2.2.1 * a.2.1) (veZ a b), Rat.divInt (a.1 * b.2.2.1 - b.1 * a.2.2.1) (veZ a b)) = ry (tri a) (tri b) := by
  unfold ry
  rw [ve_tri, divInt_cast, divInt_cast, Rat.intCast_sub, Rat.intCast_sub, Rat.intCast_mul, Rat.intCast_mul, Rat.intCast_mul, Rat.intCast_mul]
  rfl
theorem ry_sz {n : Nat} {a b : Sd} (ha : a.1.natAbs < 2 ^ n ∧ a.2.1.natAbs < 2 ^ n ∧ a.2.2.1.natAbs < 2 ^ n) (hb : b.1.natAbs < 2 ^ n ∧ b.2.1.natAbs < 2 ^ n ∧ b.2.2.1.natAbs < 2 ^ n) (hv : veZ a b ≠ 0) : sz (ry (tri a) (tri b)).1 ≤ 2 * n + 1 ∧ sz (ry (tri a) (tri b)).2 ≤ 2 * n + 1 := by
  have sub : ∀ {x y z w : Int}, x.natAbs < 2 ^ n → y.natAbs < 2 ^ n → z.natAbs < 2 ^ n → w.natAbs < 2 ^ n → (x * y - z * w).natAbs < 2 ^ (2 * n + 1) := fun {x y z w} h1 h2 h3 h4 => by
    have e1 := int_mul_lt h1 h2
    have e2 := int_mul_lt h3 h4
    have := Int.natAbs_sub_le (x * y) (z * w)
    rw [show 2 * n + 1 = n + n + 1 by omega, Nat.pow_succ]
    omega
  rw [← ry_div]
  have hve : (veZ a b).natAbs < 2 ^ (2 * n + 1) := sub ha.1 hb.2.1 ha.2.1 hb.1
  exact ⟨low_sz (by omega) (sub ha.2.2 hb.2.1 hb.2.2 ha.2.1) hve hv, low_sz (by omega) (sub ha.1 hb.2.2 hb.1 ha.2.2) hve hv⟩
theorem plc_lt {rs : List (Rat × Rat)} (h : rs ≠ []) : ∀ i, i ≤ rs.length → plcF rs i < rs.length
  | 0, _ => by
    cases rs with
    | nil => exact absurd rfl h
    | cons a r => exact Nat.zero_lt_succ _
  | i + 1, hi => by
    unfold plcF
    split
    · omega
    · exact plc_lt h i (by omega)
theorem half_len {ls : List T3} (hok : ∀ l ∈ ls, LineOk l) : (halfF (sidesF ls)).length ≤ 2 * ls.length + 1 := by
  have : ∀ (h0 : Sd) (ss : List Sd) (k : Nat) (o : Option Sd), (rimF h0 ss k o).length ≤ k := fun h0 ss k => by
    induction k with
    | zero => intro o; exact Nat.le_refl _
    | succ k ih =>
      intro o
      cases o with
      | none => exact Nat.zero_le _
      | some h =>
        show (if 0 < veZ h0 h then h :: rimF h0 ss k (nxtF h ss) else []).length ≤ k + 1
        split
        · rw [List.length_cons]; have := ih (nxtF h ss); omega
        · exact Nat.zero_le _
  have e := sid_len ls 0
  unfold sidesF
  cases es : sidN 0 ls with
  | nil => exact Nat.zero_le _
  | cons s r =>
    rw [es] at e
    show (rimF _ _ _ _).length + 1 ≤ _
    have := this (outF (s :: r) s) (s :: r) (s :: r).length (nxtF (outF (s :: r) s) (s :: r))
    omega
theorem cut_frm {ds : List D} {n : Nat} : DL.cutD ds (some (n : Int)) none = ds.drop n := by
  unfold DL.cutD HT.sIx
  have h1 : ¬ ((n : Int) < 0) := by omega
  simp only [h1, if_false]
  rw [show ((n : Int)).toNat = n from rfl]
  by_cases h : n ≤ ds.length
  · rw [Nat.min_eq_left h, List.take_of_length_le (by rw [List.length_drop]; exact Nat.le_refl _)]
  · rw [Nat.min_eq_right (by omega), List.drop_of_length_le (Nat.le_refl _), List.drop_of_length_le (by omega)]
    simp
theorem cut_hd {x : D} {xs : List D} : DL.cutD (x :: xs) (some 1) none = xs := by
  have := cut_frm (ds := x :: xs) (n := 1)
  exact this
theorem zip_sd : ∀ (a b : List Sd), zipD (a.map sdD) (b.map sdD) = (a.zip b).map fun ab => D.tup [sdD ab.1, sdD ab.2]
  | [], _ => rfl
  | _ :: _, [] => rfl
  | x :: a, y :: b => by
    show D.tup [sdD x, sdD y] :: zipD (a.map sdD) (b.map sdD) = _
    rw [zip_sd a b]; rfl
theorem rays_len (h0 : Sd) (l : List Sd) : (raysF h0 l).length = l.length + 1 := by
  unfold raysF
  rw [List.length_map, List.length_zip, List.length_cons, List.length_append]
  simp
end GM

namespace GM
open PySem PySem.Spec L2 DL
open RM (sz)
noncomputable def loS (l : T3) (g : Rat) : Rat := midS l g - halfS l
noncomputable def hiS (l : T3) (g : Rat) : Rat := midS l g + halfS l
noncomputable def endS (s : Rat) (l : T3) (g : Rat) : Rat := s * midS l g - halfS l
theorem end_lo (l : T3) (g : Rat) : endS 1 l g = loS l g := by unfold endS loS; grind
theorem end_hi (l : T3) (g : Rat) : endS (-1) l g = -hiS l g := by unfold endS hiS; grind
theorem div_q {a q : Rat} (h : q ≠ 0) : a / q * q = a := Rat.div_mul_cancel h
theorem let_ends {l : T3} (hr : 0 < l.2.2) (hq : l.2.1 ≠ 0) (g u : Rat) : letB l g u = true ↔ loS l g ≤ u ∧ u ≤ hiS l g := by
  rw [letB_iff]
  unfold loS hiS midS halfS
  have e1 := div_q (a := l.1 * g) hq
  have e2 := div_q (a := l.2.2) hq
  generalize l.1 * g / l.2.1 = P at *
  generalize l.2.2 / l.2.1 = T at *
  generalize l.2.1 = q at *
  generalize l.2.2 = r at *
  generalize l.1 * g = w at *
  subst e1
  have hT : r = T * q := e2.symm
  rw [hT] at hr ⊢
  rcases tot 0 q with z | z
  · have q0 : 0 < q := by grind
    have t0 : 0 ≤ T := pos_of q0 (by grind)
    have a : absQ T = T := by unfold absQ; rw [if_pos t0]
    rw [a]
    have k1 := le_scale (c := q) (x := P + u) (r := T) q0
    have k2 := le_scale (c := q) (x := -(P + u)) (r := T) q0
    constructor
    · rintro ⟨h1, h2⟩
      have := k1.mp (by grind)
      have := k2.mp (by grind)
      exact ⟨by grind, by grind⟩
    · rintro ⟨h1, h2⟩
      have := k1.mpr (by grind)
      have := k2.mpr (by grind)
      exact ⟨by grind, by grind⟩
  · have q0 : 0 < -q := by grind
    have t0 : 0 ≤ -T := pos_of q0 (by grind)
    have a : absQ T = -T := by
      unfold absQ
      by_cases h : 0 ≤ T
      · rw [if_pos h]; grind
      · rw [if_neg h]
    rw [a]
    have k1 := le_scale (c := -q) (x := P + u) (r := -T) q0
    have k2 := le_scale (c := -q) (x := -(P + u)) (r := -T) q0
    constructor
    · rintro ⟨h1, h2⟩
      have := k1.mp (by grind)
      have := k2.mp (by grind)
      exact ⟨by grind, by grind⟩
    · rintro ⟨h1, h2⟩
      have := k1.mpr (by grind)
      have := k2.mpr (by grind)
      exact ⟨by grind, by grind⟩
theorem let_flat {l : T3} (hq : l.2.1 = 0) (g u : Rat) : letB l g u = true ↔ ¬ l.2.2 < absQ (l.1 * g) := by
  unfold letB
  rw [hq, decide_eq_true_iff, Rat.zero_mul, Rat.add_zero]
  constructor <;> intro h <;> grind
theorem cone_fold {g : Rat} : ∀ (ls : List T3) (st : Option (Rat × Rat)), (coneL g ls st = none ∧ ∃ l ∈ ls, l.2.1 = 0 ∧ l.2.2 < absQ (l.1 * g)) ∨
    ((∀ l ∈ ls, l.2.1 = 0 → ¬ l.2.2 < absQ (l.1 * g)) ∧ ((coneL g ls st = some none ∧ st = none ∧ ∀ l ∈ ls, l.2.1 = 0) ∨
      ∃ lo hi, coneL g ls st = some (some (lo, hi)) ∧ (∀ l ∈ ls, l.2.1 ≠ 0 → loS l g ≤ lo ∧ hi ≤ hiS l g) ∧ (∀ a b, st = some (a, b) → a ≤ lo ∧ hi ≤ b) ∧ ((∃ l ∈ ls, l.2.1 ≠ 0 ∧ lo = loS l g) ∨ ∃ b, st = some (lo, b)) ∧ ((∃ l ∈ ls, l.2.1 ≠ 0 ∧ hi = hiS l g) ∨ ∃ a, st = some (a, hi))))
  | [], st => by
    right
    refine ⟨fun _ h => (nomatch h), ?_⟩
    rcases st with _ | ⟨a, b⟩
    · exact .inl ⟨rfl, rfl, fun _ h => nomatch h⟩
    · exact .inr ⟨a, b, rfl, fun _ h => (nomatch h), fun a' b' e => by cases e; exact ⟨Rat.le_refl, Rat.le_refl⟩, .inr ⟨b, rfl⟩, .inr ⟨a, rfl⟩⟩
  | l :: r, st => by
    by_cases hq : l.2.1 = 0
    · by_cases hr : l.2.2 < absQ (l.1 * g)
      · left
        refine ⟨?_, l, List.mem_cons_self, hq, hr⟩
        rw [coneL_cons, if_pos hq, if_pos hr]
      · have ec : coneL g (l :: r) st = coneL g r st := by rw [coneL_cons, if_pos hq, if_neg hr]
        rw [ec]
        rcases cone_fold r st with ⟨h1, m, hm, h2⟩ | ⟨h0, h⟩
        · exact .inl ⟨h1, m, List.mem_cons_of_mem _ hm, h2⟩
        · right
          refine ⟨fun m hm => ?_, ?_⟩
          · rcases List.mem_cons.mp hm with rfl | hm
            · exact fun _ => hr
            · exact h0 m hm
          · rcases h with ⟨h1, h2, h3⟩ | ⟨lo, hi, h1, h2, h3, h4, h5⟩
            · left
              refine ⟨h1, h2, fun m hm => ?_⟩
              rcases List.mem_cons.mp hm with rfl | hm
              · exact hq
              · exact h3 m hm
            · right
              refine ⟨lo, hi, h1, fun m hm hn => ?_, h3, h4.imp (fun ⟨m, hm, z⟩ => ⟨m, List.mem_cons_of_mem _ hm, z⟩) id, h5.imp (fun ⟨m, hm, z⟩ => ⟨m, List.mem_cons_of_mem _ hm, z⟩) id⟩
              rcases List.mem_cons.mp hm with rfl | hm
              · exact absurd hq hn
              · exact h2 m hm hn
    · have ec : coneL g (l :: r) st = coneL g r (stp st (loS l g) (hiS l g)) := by rw [coneL_cons, if_neg hq]; rfl
      rw [ec]
      have hs : ∃ a b, stp st (loS l g) (hiS l g) = some (a, b) ∧ loS l g ≤ a ∧ b ≤ hiS l g ∧ (∀ a' b', st = some (a', b') → a' ≤ a ∧ b ≤ b') ∧ (a = loS l g ∨ ∃ b', st = some (a, b')) ∧ (b = hiS l g ∨ ∃ a', st = some (a', b)) := by
        rcases st with _ | ⟨a, b⟩
        · exact ⟨_, _, rfl, Rat.le_refl, Rat.le_refl, fun _ _ z => (nomatch z), .inl rfl, .inl rfl⟩
        · refine ⟨_, _, rfl, ?_, ?_, fun a' b' z => ?_, ?_, ?_⟩
          · show loS l g ≤ if a < loS l g then loS l g else a
            split <;> grind
          · show (if hiS l g < b then hiS l g else b) ≤ hiS l g
            split <;> grind
          · cases z
            constructor
            · show a ≤ if a < loS l g then loS l g else a
              split <;> grind
            · show (if hiS l g < b then hiS l g else b) ≤ b
              split <;> grind
          · show (if a < loS l g then loS l g else a) = loS l g ∨ ∃ b', some (a, b) = some (if a < loS l g then loS l g else a, b')
            split
            · exact .inl rfl
            · exact .inr ⟨b, rfl⟩
          · show (if hiS l g < b then hiS l g else b) = hiS l g ∨ ∃ a', some (a, b) = some (a', if hiS l g < b then hiS l g else b)
            split
            · exact .inl rfl
            · exact .inr ⟨a, rfl⟩
      obtain ⟨a, b, es, k1, k2, k3, k4, k5⟩ := hs
      rw [es]
      rcases cone_fold r (some (a, b)) with ⟨h1, m, hm, h2⟩ | ⟨h0, h⟩
      · exact .inl ⟨h1, m, List.mem_cons_of_mem _ hm, h2⟩
      · right
        refine ⟨fun m hm => ?_, ?_⟩
        · rcases List.mem_cons.mp hm with rfl | hm
          · exact fun z => absurd z hq
          · exact h0 m hm
        · rcases h with ⟨h1, h2, h3⟩ | ⟨lo, hi, h1, h2, h3, h4, h5⟩
          · cases h2
          · right
            obtain ⟨q1, q2⟩ := h3 a b rfl
            refine ⟨lo, hi, h1, fun m hm hn => ?_, fun a' b' z => ?_, ?_, ?_⟩
            · rcases List.mem_cons.mp hm with rfl | hm
              · exact ⟨by grind, by grind⟩
              · exact h2 m hm hn
            · obtain ⟨z1, z2⟩ := k3 a' b' z
              exact ⟨by grind, by grind⟩
            · rcases h4 with ⟨m, hm, z⟩ | ⟨b', z⟩
              · exact .inl ⟨m, List.mem_cons_of_mem _ hm, z⟩
              · cases z
                rcases k4 with k4 | k4
                · exact .inl ⟨l, List.mem_cons_self, hq, k4⟩
                · exact .inr k4
            · rcases h5 with ⟨m, hm, z⟩ | ⟨a', z⟩
              · exact .inl ⟨m, List.mem_cons_of_mem _ hm, z⟩
              · cases z
                rcases k5 with k5 | k5
                · exact .inl ⟨l, List.mem_cons_self, hq, k5⟩
                · exact .inr k5
structure ConeAt (ls : List T3) (g lo hi : Rat) : Prop where
  eq : coneL g ls none = some (some (lo, hi))
  le : lo ≤ hi
  ub : ∀ l ∈ ls, l.2.1 ≠ 0 → loS l g ≤ lo ∧ hi ≤ hiS l g
  lo : ∃ l ∈ ls, l.2.1 ≠ 0 ∧ lo = loS l g
  hi : ∃ l ∈ ls, l.2.1 ≠ 0 ∧ hi = hiS l g
theorem ConeAt.d {ls : List T3} {g lo hi : Rat} (h : ConeAt ls g lo hi) : coneD (coneL g ls none) = .tup [ratD lo, ratD hi] := by
  rw [h.eq]
  show (if hi < lo then _ else _) = _
  rw [if_neg (by have := h.le; grind)]
theorem cone_at {ls : List T3} (hok : ∀ l ∈ ls, LineOk l) (hq : ∃ l ∈ ls, l.2.1 ≠ 0) {g u : Rat} (hK : letsB ls g u = true) : ∃ lo hi, ConeAt ls g lo hi ∧ lo ≤ u ∧ u ≤ hi := by
  unfold letsB at hK
  rw [List.all_eq_true] at hK
  rcases cone_fold (g := g) ls none with ⟨_, l, hl, h1, h2⟩ | ⟨h0, h⟩
  · exact absurd h2 ((let_flat h1 g u).mp (hK l hl))
  · rcases h with ⟨_, _, h3⟩ | ⟨lo, hi, h1, h2, _, h4, h5⟩
    · obtain ⟨l, hl, hn⟩ := hq
      exact absurd (h3 l hl) hn
    · have h4 : ∃ l ∈ ls, l.2.1 ≠ 0 ∧ lo = loS l g := h4.resolve_right fun ⟨_, z⟩ => nomatch z
      have h5 : ∃ l ∈ ls, l.2.1 ≠ 0 ∧ hi = hiS l g := h5.resolve_right fun ⟨_, z⟩ => nomatch z
      have a1 : lo ≤ u := by
        obtain ⟨l, hl, hn, rfl⟩ := h4
        exact ((let_ends (hok l hl).pos hn g u).mp (hK l hl)).1
      have a2 : u ≤ hi := by
        obtain ⟨l, hl, hn, rfl⟩ := h5
        exact ((let_ends (hok l hl).pos hn g u).mp (hK l hl)).2
      exact ⟨lo, hi, ⟨h1, by grind, h2, h4, h5⟩, a1, a2⟩
theorem cone_lets {ls : List T3} (hok : ∀ l ∈ ls, LineOk l) {g u lo hi : Rat} (h : coneL g ls none = some (some (lo, hi))) (h1 : lo ≤ u) (h2 : u ≤ hi) : letsB ls g u = true := by
  unfold letsB
  rw [List.all_eq_true]
  rcases cone_fold (g := g) ls none with ⟨e, _⟩ | ⟨h0, h'⟩
  · rw [h] at e; cases e
  · rcases h' with ⟨e, _⟩ | ⟨lo', hi', e, k, _⟩
    · rw [h] at e; cases e
    · rw [h] at e
      cases e
      intro l hl
      by_cases hq : l.2.1 = 0
      · exact (let_flat hq g u).mpr (h0 l hl hq)
      · obtain ⟨k1, k2⟩ := k l hl hq
        exact (let_ends (hok l hl).pos hq g u).mpr ⟨by grind, by grind⟩
theorem cone_no {ls : List T3} (hok : ∀ l ∈ ls, LineOk l) (hq : ∃ l ∈ ls, l.2.1 ≠ 0) {g : Rat} (hK : ∀ u, letsB ls g u = false) : coneD (coneL g ls none) = .non := by
  rcases cone_fold (g := g) ls none with ⟨e, _⟩ | ⟨h0, h'⟩
  · rw [e]; rfl
  · rcases h' with ⟨_, _, h3⟩ | ⟨lo, hi, e, _⟩
    · obtain ⟨l, hl, hn⟩ := hq
      exact absurd (h3 l hl) hn
    · rw [e]
      show (if hi < lo then _ else _) = _
      by_cases z : hi < lo
      · rw [if_pos z]
      · have := hK lo
        rw [cone_lets hok e Rat.le_refl (by grind)] at this
        cases this
theorem lets_conv {ls : List T3} {a b u v t : Rat} (t0 : 0 ≤ t) (t1 : t ≤ 1) (h1 : letsB ls a u = true) (h2 : letsB ls b v = true) : letsB ls (a + (b - a) * t) (u + (v - u) * t) = true := by
  unfold letsB at *
  rw [List.all_eq_true] at *
  intro l hl
  obtain ⟨a1, a2⟩ := (letB_iff l a u).mp (h1 l hl)
  obtain ⟨b1, b2⟩ := (letB_iff l b v).mp (h2 l hl)
  rw [letB_iff]
  have m1 : 0 ≤ (1 - t) * (l.2.2 - (l.1 * a + l.2.1 * u)) := Rat.mul_nonneg (by grind) (by grind)
  have m2 : 0 ≤ t * (l.2.2 - (l.1 * b + l.2.1 * v)) := Rat.mul_nonneg t0 (by grind)
  have m3 : 0 ≤ (1 - t) * (l.2.2 + (l.1 * a + l.2.1 * u)) := Rat.mul_nonneg (by grind) (by grind)
  have m4 : 0 ≤ t * (l.2.2 + (l.1 * b + l.2.1 * v)) := Rat.mul_nonneg t0 (by grind)
  constructor <;> grind
theorem end_side {l : T3} (hq : l.2.1 ≠ 0) (hr : 0 < l.2.2) {s : Rat} (hs : s = 1 ∨ s = -1) {g u : Rat} (h : s * u = endS s l g) (j : Nat) : ∃ a : Sd, (a = sideL l j ∨ a = facZ (sideL l j)) ∧ dt (tri a) (g, u) = (tri a).2.2 := by
  have e1 := div_q (a := l.1 * g) hq
  have e2 := div_q (a := l.2.2) hq
  have cp := cbR_pos l
  have key : l.1 * g + l.2.1 * u = l.2.2 ∨ l.1 * g + l.2.1 * u = -l.2.2 := by
    unfold endS midS halfS absQ at h
    generalize l.1 * g / l.2.1 = P at *
    generalize l.2.2 / l.2.1 = T at *
    rw [← e1, ← e2]
    rcases hs with rfl | rfl
    · split at h
      · right; have : u = -P - T := by grind
        rw [this]; grind
      · left; have : u = -P + T := by grind
        rw [this]; grind
    · split at h
      · left; have : u = -P + T := by grind
        rw [this]; grind
      · right; have : u = -P - T := by grind
        rw [this]; grind
  rcases key with k | k
  · refine ⟨sideL l j, .inl rfl, ?_⟩
    rw [dt_side, tri_side]
    show (l.1 * g + l.2.1 * u) * _ = l.2.2 * _
    rw [k]
  · refine ⟨facZ (sideL l j), .inr rfl, ?_⟩
    rw [dt_fac]
    show -dt (tri (sideL l j)) (g, u) = (tri (sideL l j)).2.2
    rw [dt_side, tri_side]
    show -((l.1 * g + l.2.1 * u) * _) = l.2.2 * _
    rw [k]; grind
theorem ve_of_sides {a b : Sd} {l m : T3} {i j : Nat} (ha : a = sideL l i ∨ a = facZ (sideL l i)) (hb : b = sideL m j ∨ b = facZ (sideL m j)) (h : l.1 * m.2.1 ≠ m.1 * l.2.1) : ve (tri a) (tri b) ≠ 0 := by
  have e := ve_sides l m i j
  have c := npos (Rat.mul_pos (cbR_pos l) (cbR_pos m))
  have ne : ve (tri (sideL l i)) (tri (sideL m j)) ≠ 0 := by
    rw [e]
    intro z
    generalize (cbL l : Rat) * (cbL m : Rat) = k at *
    generalize l.1 * m.2.1 = x at *
    generalize m.1 * l.2.1 = y at *
    grind
  have n1 : ∀ x y : T3, ve (ng x) y = -ve x y := fun x y => by unfold ve ng; grind
  have n2 : ∀ x y : T3, ve x (ng y) = -ve x y := fun x y => by unfold ve ng; grind
  rcases ha with rfl | rfl <;> rcases hb with rfl | rfl
  · exact ne
  · rw [ng_tri, n2]; intro z; exact ne (by grind)
  · rw [ng_tri, n1]; intro z; exact ne (by grind)
  · rw [ng_tri, ng_tri, n1, n2]; intro z; exact ne (by grind)
theorem corner_of {ls : List T3} {h0 : T3} {r : List T3} (R : Rim ((sidesF ls).map tri) h0 r) {l m : T3} (hl : l ∈ ls) (hm : m ∈ ls) (hok : ∀ l ∈ ls, LineOk l) (ql : l.2.1 ≠ 0) (qm : m.2.1 ≠ 0) {s : Rat} (hs : s = 1 ∨ s = -1) {g u : Rat} (h1 : s * u = endS s l g) (h2 : s * u = endS s m g) (hv : l.1 * m.2.1 ≠ m.1 * l.2.1) (hK : letsB ls g u = true) : (g, u) ∈ corR h0 r := by
  obtain ⟨i, m1, m2⟩ := sid_has (i := 0) hl
  obtain ⟨j, m3, m4⟩ := sid_has (i := 0) hm
  obtain ⟨a, ha, ta⟩ := end_side ql (hok l hl).pos hs h1 i
  obtain ⟨b, hb, tb⟩ := end_side qm (hok m hm).pos hs h2 j
  have ma : tri a ∈ (sidesF ls).map tri := List.mem_map.mpr ⟨a, by rcases ha with rfl | rfl <;> assumption, rfl⟩
  have mb : tri b ∈ (sidesF ls).map tri := List.mem_map.mpr ⟨b, by rcases hb with rfl | rfl <;> assumption, rfl⟩
  have ne := ve_of_sides ha hb hv
  have sup := (sup_iff ls (g, u)).mpr hK
  rcases tot 0 (ve (tri a) (tri b)) with z | z
  · exact R.corner sup ma mb (by grind) ta tb
  · have e : ve (tri b) (tri a) = -ve (tri a) (tri b) := by unfold ve; grind
    exact R.corner sup mb ma (by grind) tb ta
theorem exists_min {α : Type} (f : α → Rat) : ∀ (l : List α), l ≠ [] → ∃ x ∈ l, ∀ y ∈ l, f x ≤ f y
  | [], h => absurd rfl h
  | [x], _ => ⟨x, List.mem_cons_self, fun y hy => by rw [List.mem_singleton.mp hy]; exact Rat.le_refl⟩
  | x :: y :: r, _ => by
    obtain ⟨m, hm, h⟩ := exists_min f (y :: r) (fun z => nomatch z)
    by_cases c : f x ≤ f m
    · refine ⟨x, List.mem_cons_self, fun z hz => ?_⟩
      rcases List.mem_cons.mp hz with rfl | hz
      · exact Rat.le_refl
      · have := h z hz; grind
    · refine ⟨m, List.mem_cons_of_mem _ hm, fun z hz => ?_⟩
      rcases List.mem_cons.mp hz with rfl | hz
      · grind
      · exact h z hz
theorem end_aff (s : Rat) (l : T3) (a b t : Rat) : endS s l (a + (b - a) * t) = endS s l a + (endS s l b - endS s l a) * t := by
  unfold endS midS
  have : l.1 * (a + (b - a) * t) / l.2.1 = l.1 * a / l.2.1 + (l.1 * b / l.2.1 - l.1 * a / l.2.1) * t := by
    rw [Rat.div_def, Rat.div_def, Rat.div_def]; grind
  rw [this]; grind
theorem end_slope {s : Rat} (hs : s = 1 ∨ s = -1) {l m : T3} (ql : l.2.1 ≠ 0) (qm : m.2.1 ≠ 0) (h : l.1 * m.2.1 = m.1 * l.2.1) (a b : Rat) : endS s l b - endS s l a = endS s m b - endS s m a := by
  unfold endS midS
  have e : ∀ g : Rat, l.1 * g / l.2.1 = m.1 * g / m.2.1 := fun g => by
    have k1 := div_q (a := l.1 * g) ql
    have k2 := div_q (a := m.1 * g) qm
    have k3 : (l.1 * g / l.2.1 - m.1 * g / m.2.1) * (l.2.1 * m.2.1) = 0 := by
      have : (l.1 * g / l.2.1 - m.1 * g / m.2.1) * (l.2.1 * m.2.1) = (l.1 * g / l.2.1 * l.2.1) * m.2.1 - (m.1 * g / m.2.1 * m.2.1) * l.2.1 := by grind
      rw [this, k1, k2]; grind
    have k4 : l.2.1 * m.2.1 ≠ 0 := by grind
    grind
  rw [e a, e b]; grind
theorem passed {ls : List T3} {h0 : T3} {r : List T3} (R : Rim ((sidesF ls).map tri) h0 r) (hok : ∀ l ∈ ls, LineOk l) {s : Rat} (hs : s = 1 ∨ s = -1) {a b ua ub : Rat} (Ka : letsB ls a ua = true) (Kb : letsB ls b ub = true) {l : T3} (hl : l ∈ ls) (ql : l.2.1 ≠ 0)
    (top : ∀ m ∈ ls, m.2.1 ≠ 0 → endS s m a ≤ endS s l a) {m : T3} (hm : m ∈ ls) (qm : m.2.1 ≠ 0) (hp : endS s l b < endS s m b) : ∃ t u, 0 ≤ t ∧ t < 1 ∧ (a + (b - a) * t, u) ∈ corR h0 r := by
  let P := ls.filter fun k => decide (k.2.1 ≠ 0) && decide (endS s l b < endS s k b)
  have memP : ∀ k, k ∈ P ↔ k ∈ ls ∧ k.2.1 ≠ 0 ∧ endS s l b < endS s k b := fun k => by
    rw [List.mem_filter, Bool.and_eq_true, decide_eq_true_eq, decide_eq_true_eq]
  let tk : T3 → Rat := fun k => (endS s l a - endS s k a) / ((endS s l a - endS s k a) + (endS s k b - endS s l b))
  obtain ⟨j, hj, hmin⟩ := exists_min tk P (List.ne_nil_of_mem ((memP m).mpr ⟨hm, qm, hp⟩))
  have tkf : ∀ k ∈ P, 0 < (endS s l a - endS s k a) + (endS s k b - endS s l b) ∧ tk k * ((endS s l a - endS s k a) + (endS s k b - endS s l b)) = endS s l a - endS s k a := fun k hk => by
    obtain ⟨k1, k2, k3⟩ := (memP k).mp hk
    have := top k k1 k2
    have d : 0 < (endS s l a - endS s k a) + (endS s k b - endS s l b) := by grind
    exact ⟨d, div_q (npos d)⟩
  obtain ⟨j1, j2, j3⟩ := (memP j).mp hj
  obtain ⟨dj, ej⟩ := tkf j hj
  have tj := top j j1 j2
  have t0 : 0 ≤ tk j := pos_of dj (by rw [Rat.mul_comm, ej]; grind)
  have t1 : tk j < 1 := by
    have : 0 < ((endS s l a - endS s j a) + (endS s j b - endS s l b)) * (1 - tk j) := by grind
    rcases tot (1 - tk j) 0 with z | z
    · have := Rat.mul_nonneg (lpos dj) (show 0 ≤ -(1 - tk j) by grind)
      grind
    · by_cases e : 1 - tk j = 0
      · rw [e] at this; grind
      · grind
  refine ⟨tk j, s * endS s l (a + (b - a) * tk j), t0, t1, ?_⟩
  have ss : s * s = 1 := by rcases hs with rfl | rfl <;> grind
  have hu : s * (s * endS s l (a + (b - a) * tk j)) = endS s l (a + (b - a) * tk j) := by
    rw [← Rat.mul_assoc, ss, Rat.one_mul]
  have eq : endS s j (a + (b - a) * tk j) = endS s l (a + (b - a) * tk j) := by
    rw [end_aff, end_aff]; grind
  have dom : ∀ k ∈ ls, k.2.1 ≠ 0 → endS s k (a + (b - a) * tk j) ≤ endS s l (a + (b - a) * tk j) := fun k hk qk => by
    rw [end_aff, end_aff]
    have ta := top k hk qk
    by_cases c : endS s l b < endS s k b
    · have hkP := (memP k).mpr ⟨hk, qk, c⟩
      have := hmin k hkP
      obtain ⟨dk, ek⟩ := tkf k hkP
      have := Rat.mul_nonneg (show 0 ≤ tk k - tk j by grind) (lpos dk)
      grind
    · have n1 := Rat.mul_nonneg (show 0 ≤ 1 - tk j by grind) (show 0 ≤ endS s l a - endS s k a by grind)
      have n2 := Rat.mul_nonneg t0 (show 0 ≤ endS s l b - endS s k b by grind)
      grind
  have Kc := lets_conv t0 (by grind) Ka Kb
  have hv : l.1 * j.2.1 ≠ j.1 * l.2.1 := fun z => by
    have := end_slope hs ql j2 z a b
    have := top j j1 j2
    grind
  refine corner_of R hl j1 hok ql j2 hs hu (by rw [hu, eq]) hv ?_
  generalize hc : a + (b - a) * tk j = c at *
  generalize ua + (ub - ua) * tk j = uc at *
  unfold letsB at Kc ⊢
  rw [List.all_eq_true] at Kc ⊢
  intro k hk
  by_cases qk : k.2.1 = 0
  · exact (let_flat qk c _).mpr ((let_flat qk c uc).mp (Kc k hk))
  · obtain ⟨c1, c2⟩ := (let_ends (hok k hk).pos qk c uc).mp (Kc k hk)
    obtain ⟨l1, l2⟩ := (let_ends (hok l hl).pos ql c uc).mp (Kc l hl)
    have d := dom k hk qk
    rw [let_ends (hok k hk).pos qk]
    rcases hs with rfl | rfl
    · rw [end_lo, end_lo] at d
      rw [end_lo]
      exact ⟨by grind, by grind⟩
    · rw [end_hi, end_hi] at d
      rw [end_hi]
      exact ⟨by grind, by grind⟩
theorem ends_at {ls : List T3} {g lo hi : Rat} (h : ConeAt ls g lo hi) {s : Rat} (hs : s = 1 ∨ s = -1) : ∃ T, (T = if s = 1 then lo else -hi) ∧ (∀ m ∈ ls, m.2.1 ≠ 0 → endS s m g ≤ T) ∧ ∃ l ∈ ls, l.2.1 ≠ 0 ∧ endS s l g = T := by
  rcases hs with rfl | rfl
  · refine ⟨lo, by rw [if_pos rfl], fun m hm hn => by rw [end_lo]; exact (h.ub m hm hn).1, ?_⟩
    obtain ⟨l, hl, hn, e⟩ := h.lo
    exact ⟨l, hl, hn, by rw [end_lo, e]⟩
  · refine ⟨-hi, by rw [if_neg (by decide)], fun m hm hn => by rw [end_hi]; have := (h.ub m hm hn).2; grind, ?_⟩
    obtain ⟨l, hl, hn, e⟩ := h.hi
    exact ⟨l, hl, hn, by rw [end_hi, e]⟩
theorem mid_end {ls : List T3} {h0 : T3} {r : List T3} (R : Rim ((sidesF ls).map tri) h0 r) (hok : ∀ l ∈ ls, LineOk l) {s : Rat} (hs : s = 1 ∨ s = -1) {a b lo1 hi1 lo2 hi2 lo hi : Rat} (hab : a < b) (ca : ConeAt ls a lo1 hi1) (cb : ConeAt ls b lo2 hi2) (cm : ConeAt ls (a + (b - a) * (1 / 2)) lo hi)
    (no : ∀ z ∈ corR h0 r, ¬ (a < z.1 ∧ z.1 < b)) : (if s = 1 then lo else -hi) = (if s = 1 then lo1 else -hi1) * (1 / 2) + (if s = 1 then lo2 else -hi2) * (1 / 2) := by
  obtain ⟨T, eT, hT, l, hl, ql, el⟩ := ends_at cm hs
  obtain ⟨T1, eT1, hT1, l1, hl1, ql1, el1⟩ := ends_at ca hs
  obtain ⟨T2, eT2, hT2, l2, hl2, ql2, el2⟩ := ends_at cb hs
  have Km := cone_lets hok cm.eq Rat.le_refl cm.le
  have Ka := cone_lets hok ca.eq Rat.le_refl ca.le
  have Kb := cone_lets hok cb.eq Rat.le_refl cb.le
  have top : ∀ m ∈ ls, m.2.1 ≠ 0 → endS s m (a + (b - a) * (1 / 2)) ≤ endS s l (a + (b - a) * (1 / 2)) := fun m hm qm => by rw [el]; exact hT m hm qm
  have e1 : endS s l a = T1 := by
    have u1 := hT1 l hl ql
    by_cases c : endS s l a < T1
    · rw [← el1] at c
      obtain ⟨t, u, t0, t1, hz⟩ := passed R hok hs Km Ka hl ql top hl1 ql1 c
      refine absurd ?_ (no _ hz)
      have m1 := Rat.mul_nonneg t0 (show 0 ≤ b - a by grind)
      have m2 := Rat.mul_pos (show 0 < 1 - t by grind) (show 0 < b - a by grind)
      exact ⟨by show a < _; grind, by show _ < b; grind⟩
    · grind
  have e2 : endS s l b = T2 := by
    have u2 := hT2 l hl ql
    by_cases c : endS s l b < T2
    · rw [← el2] at c
      obtain ⟨t, u, t0, t1, hz⟩ := passed R hok hs Km Kb hl ql top hl2 ql2 c
      refine absurd ?_ (no _ hz)
      have m1 := Rat.mul_nonneg t0 (show 0 ≤ b - a by grind)
      have m2 := Rat.mul_pos (show 0 < 1 - t by grind) (show 0 < b - a by grind)
      exact ⟨by show a < _; grind, by show _ < b; grind⟩
    · grind
  rw [← eT, ← eT1, ← eT2, ← el, end_aff, e1, e2]
  grind
theorem mid_cone {ls : List T3} {h0 : T3} {r : List T3} (R : Rim ((sidesF ls).map tri) h0 r) (hok : ∀ l ∈ ls, LineOk l) (hq : ∃ l ∈ ls, l.2.1 ≠ 0) {a b lo1 hi1 lo2 hi2 : Rat} (hab : a < b) (ca : ConeAt ls a lo1 hi1) (cb : ConeAt ls b lo2 hi2)
    (no : ∀ z ∈ corR h0 r, ¬ (a < z.1 ∧ z.1 < b)) : ConeAt ls ((a + b) * (1 / 2)) ((lo1 + lo2) * (1 / 2)) ((hi1 + hi2) * (1 / 2)) := by
  have Ka := cone_lets hok ca.eq Rat.le_refl ca.le
  have Kb := cone_lets hok cb.eq Rat.le_refl cb.le
  have Km := lets_conv (t := 1 / 2) (by grind) (by grind) Ka Kb
  obtain ⟨lo, hi, cm, _, _⟩ := cone_at hok hq Km
  have e1 := mid_end R hok (.inl rfl) hab ca cb cm no
  have e2 := mid_end R hok (.inr rfl) hab ca cb cm no
  rw [if_pos rfl, if_pos rfl, if_pos rfl] at e1
  rw [if_neg (by decide), if_neg (by decide), if_neg (by decide)] at e2
  have em : a + (b - a) * (1 / 2) = (a + b) * (1 / 2) := by grind
  have el : lo = (lo1 + lo2) * (1 / 2) := by grind
  have eh : hi = (hi1 + hi2) * (1 / 2) := by grind
  rw [em, el, eh] at cm
  exact cm
theorem Rim.tight {ss : List T3} {h0 : T3} {l : List T3} (R : Rim ss h0 l) {z : Rat × Rat} (h : z ∈ corR h0 l) : Sup ss z ∧ ∃ a b, a ∈ ss ∧ b ∈ ss ∧ ve a b ≠ 0 ∧ dt a z = a.2.2 ∧ dt b z = b.2.2 := by
  rcases List.mem_append.mp h with h | h
  · obtain ⟨ab, hab, rfl⟩ := List.mem_map.mp h
    obtain ⟨q1, q2, q3, q4⟩ := R.all ab hab
    exact ⟨q4, _, _, q1, q2, npos q3, ry_a (npos q3), ry_b (npos q3)⟩
  · obtain ⟨ab, hab, rfl⟩ := List.mem_map.mp h
    obtain ⟨q1, q2, q3, q4⟩ := R.all ab hab
    have e : ∀ (a : T3) z, dt (ng a) (ngZ z) = dt a z := fun a z => by unfold dt ng ngZ; grind
    refine ⟨sup_ng R.sy q4, _, _, R.sy _ q1, R.sy _ q2, ?_, by rw [e, ry_a (npos q3)]; rfl, by rw [e, ry_b (npos q3)]; rfl⟩
    have : ve (ng ab.1) (ng ab.2) = ve ab.1 ab.2 := by unfold ve ng; grind
    rw [this]; exact npos q3
theorem Rim.neg {ss : List T3} {h0 : T3} {l : List T3} {z : Rat × Rat} (h : z ∈ corR h0 l) : ngZ z ∈ corR h0 l := by
  have nn : ∀ z : Rat × Rat, ngZ (ngZ z) = z := fun z => by
    unfold ngZ; exact Prod.ext (by show - -z.1 = z.1; grind) (by show - -z.2 = z.2; grind)
  rcases List.mem_append.mp h with h | h
  · obtain ⟨ab, hab, rfl⟩ := List.mem_map.mp h
    exact List.mem_append_right _ (List.mem_map.mpr ⟨ab, hab, rfl⟩)
  · obtain ⟨ab, hab, rfl⟩ := List.mem_map.mp h
    rw [nn]
    exact List.mem_append_left _ (List.mem_map.mpr ⟨ab, hab, rfl⟩)
theorem even_no {a b : T3} {h1 h2 h3 x1 x2 x3 : Rat} (l1 : h1 < h2) (l2 : h2 < h3) (a1 : dt a (h1, x1) ≤ a.2.2) (a3 : dt a (h3, x3) ≤ a.2.2) (b1 : dt b (h1, x1) ≤ b.2.2) (b3 : dt b (h3, x3) ≤ b.2.2) (ta : dt a (h2, x2) = a.2.2) (tb : dt b (h2, x2) = b.2.2)
    (e : (x2 - x1) / (h2 - h1) = (x3 - x2) / (h3 - h2)) : ve a b = 0 := by
  have d1 : 0 < h2 - h1 := by grind
  have d2 : 0 < h3 - h2 := by grind
  have k1 := div_q (a := x2 - x1) (npos d1)
  have k2 := div_q (a := x3 - x2) (npos d2)
  rw [e] at k1
  generalize (x3 - x2) / (h3 - h2) = w at *
  have one : ∀ c : T3, dt c (h1, x1) ≤ c.2.2 → dt c (h3, x3) ≤ c.2.2 → dt c (h2, x2) = c.2.2 → c.1 + c.2.1 * w = 0 := fun c c1 c3 c2 => by
    unfold dt at c1 c2 c3
    have c1 : c.1 * h1 + c.2.1 * x1 ≤ c.2.2 := c1
    have c3 : c.1 * h3 + c.2.1 * x3 ≤ c.2.2 := c3
    have c2 : c.1 * h2 + c.2.1 * x2 = c.2.2 := c2
    have e1 : x1 = x2 - w * (h2 - h1) := by grind
    have e3 : x3 = x2 + w * (h3 - h2) := by grind
    rw [e1] at c1
    rw [e3] at c3
    have p1 : 0 ≤ (h2 - h1) * (c.1 + c.2.1 * w) := by grind
    have p3 : 0 ≤ (h3 - h2) * -(c.1 + c.2.1 * w) := by grind
    have := pos_of d1 p1
    have := pos_of d2 p3
    grind
  have oa := one a a1 a3 ta
  have ob := one b b1 b3 tb
  unfold ve
  have : a.1 = -(a.2.1 * w) := by grind
  have : b.1 = -(b.2.1 * w) := by grind
  grind
theorem bent {ls : List T3} {h0 : T3} {r : List T3} (R : Rim ((sidesF ls).map tri) h0 r) (hok : ∀ l ∈ ls, LineOk l) {h1 h2 h3 lo1 hi1 lo2 hi2 lo3 hi3 u : Rat} (l1 : h1 < h2) (l2 : h2 < h3) (c1 : ConeAt ls h1 lo1 hi1) (c2 : ConeAt ls h2 lo2 hi2) (c3 : ConeAt ls h3 lo3 hi3) (hc : (h2, u) ∈ corR h0 r) :
    ¬ ((lo2 - lo1) / (h2 - h1) = (lo3 - lo2) / (h3 - h2) ∧ (hi2 - hi1) / (h2 - h1) = (hi3 - hi2) / (h3 - h2)) := by
  rintro ⟨e1, e2⟩
  obtain ⟨sup, a, b, ha, hb, hv, ta, tb⟩ := R.tight hc
  have sp : ∀ {g lo hi x : Rat}, ConeAt ls g lo hi → lo ≤ x → x ≤ hi → Sup ((sidesF ls).map tri) (g, x) := fun c z1 z2 => (sup_iff ls (_, _)).mpr (cone_lets hok c.eq z1 z2)
  obtain ⟨lo, hi, c, q1, q2⟩ := cone_at hok (by obtain ⟨l, hl, hn, _⟩ := c2.lo; exact ⟨l, hl, hn⟩) ((sup_iff ls (h2, u)).mp sup)
  have ee : some (some (lo, hi)) = some (some (lo2, hi2)) := by rw [← c.eq, ← c2.eq]
  injection ee with ee
  injection ee with ee
  injection ee with ee1 ee2
  subst ee1; subst ee2
  have Lo1 := sp c1 Rat.le_refl c1.le
  have Lo2 := sp c2 Rat.le_refl c2.le
  have Lo3 := sp c3 Rat.le_refl c3.le
  have Hi1 := sp c1 c1.le Rat.le_refl
  have Hi2 := sp c2 c2.le Rat.le_refl
  have Hi3 := sp c3 c3.le Rat.le_refl
  have pa := R.pos a ha
  rcases tot 0 a.2.1 with z | z
  · by_cases z0 : a.2.1 = 0
    · have k1 := Lo1 a ha
      have k3 := Lo3 a ha
      unfold dt at k1 k3 ta
      have k1 : a.1 * h1 + a.2.1 * lo1 ≤ a.2.2 := k1
      have k3 : a.1 * h3 + a.2.1 * lo3 ≤ a.2.2 := k3
      have ta : a.1 * h2 + a.2.1 * u = a.2.2 := ta
      rw [z0] at k1 k3 ta
      have p1 : 0 ≤ (h2 - h1) * a.1 := by grind
      have p3 : 0 ≤ (h3 - h2) * -a.1 := by grind
      have := pos_of (by grind) p1
      have := pos_of (by grind) p3
      have : a.1 = 0 := by grind
      rw [this] at ta
      grind
    · have k := Hi2 a ha
      have eu : u = hi := by
        unfold dt at k ta
        have k : a.1 * h2 + a.2.1 * hi ≤ a.2.2 := k
        have ta : a.1 * h2 + a.2.1 * u = a.2.2 := ta
        have : 0 ≤ a.2.1 * (u - hi) := by grind
        have := pos_of (by grind) this
        grind
      subst eu
      exact hv (even_no l1 l2 (Hi1 a ha) (Hi3 a ha) (Hi1 b hb) (Hi3 b hb) ta tb e2)
  · by_cases z0 : a.2.1 = 0
    · have k1 := Lo1 a ha
      have k3 := Lo3 a ha
      unfold dt at k1 k3 ta
      have k1 : a.1 * h1 + a.2.1 * lo1 ≤ a.2.2 := k1
      have k3 : a.1 * h3 + a.2.1 * lo3 ≤ a.2.2 := k3
      have ta : a.1 * h2 + a.2.1 * u = a.2.2 := ta
      rw [z0] at k1 k3 ta
      have p1 : 0 ≤ (h2 - h1) * a.1 := by grind
      have p3 : 0 ≤ (h3 - h2) * -a.1 := by grind
      have := pos_of (by grind) p1
      have := pos_of (by grind) p3
      have : a.1 = 0 := by grind
      rw [this] at ta
      grind
    · have k := Lo2 a ha
      have eu : u = lo := by
        unfold dt at k ta
        have k : a.1 * h2 + a.2.1 * lo ≤ a.2.2 := k
        have ta : a.1 * h2 + a.2.1 * u = a.2.2 := ta
        have : 0 ≤ -a.2.1 * (lo - u) := by grind
        have := pos_of (by grind) this
        grind
      subst eu
      exact hv (even_no l1 l2 (Lo1 a ha) (Lo3 a ha) (Lo1 b hb) (Lo3 b hb) ta tb e1)
theorem beyond {ls : List T3} {h0 : T3} {r : List T3} (R : Rim ((sidesF ls).map tri) h0 r) {g : Rat} (h : ∀ z ∈ corR h0 r, z.1 < g) : ∀ u, letsB ls g u = false := fun u => by
  cases e : letsB ls g u with
  | false => rfl
  | true =>
    obtain ⟨c, hc, _, hm⟩ := R.most (1, 0, 0) (fun z => by have := z.1; revert this; decide)
    have := hm (g, u) ((sup_iff ls (g, u)).mpr e)
    unfold dt at this
    have := h c hc
    grind
theorem above {ls : List T3} {h0 : T3} {r : List T3} (R : Rim ((sidesF ls).map tri) h0 r) (hok : ∀ l ∈ ls, LineOk l) : ∃ z ∈ corR h0 r, 0 < z.1 := by
  have eps : ∀ (l : List T3), (∀ x ∈ l, LineOk x) → ∃ e : Rat, 0 < e ∧ ∀ x ∈ l, letB x e 0 = true := fun l => by
    induction l with
    | nil => exact fun _ => ⟨1, by decide, fun _ h => nomatch h⟩
    | cons x l ih =>
      intro h
      obtain ⟨e, e0, he⟩ := ih fun y hy => h y (List.mem_cons_of_mem _ hy)
      have hr := (h x List.mem_cons_self).pos
      have small : ∀ {y : T3} {e e' : Rat}, letB y e 0 = true → 0 ≤ e' → e' ≤ e → 0 < e → letB y e' 0 = true := fun {y e e'} k z1 z2 z3 => by
        rw [letB_iff] at k ⊢
        rw [Rat.mul_zero, Rat.add_zero] at k ⊢
        obtain ⟨k1, k2⟩ := k
        have m1 : 0 ≤ e' * (y.2.2 - y.1 * e) := Rat.mul_nonneg z1 (by grind)
        have m2 : 0 ≤ e' * (y.2.2 + y.1 * e) := Rat.mul_nonneg z1 (by grind)
        have r0 : 0 ≤ y.2.2 := by grind
        have m3 : 0 ≤ y.2.2 * (e - e') := Rat.mul_nonneg r0 (by grind)
        exact ⟨by have : 0 ≤ e * (y.2.2 - y.1 * e') := by grind
                  have := pos_of z3 this
                  grind, by have : 0 ≤ e * (y.2.2 + y.1 * e') := by grind
                            have := pos_of z3 this
                            grind⟩
      by_cases p0 : x.1 = 0
      · refine ⟨e, e0, fun y hy => ?_⟩
        rcases List.mem_cons.mp hy with rfl | hy
        · rw [letB_iff, p0]; exact ⟨by grind, by grind⟩
        · exact he y hy
      · have ap : 0 < absQ x.1 := abs_pos p0
        have dd := div_q (a := x.2.2) (npos ap)
        have t0 : 0 < x.2.2 / absQ x.1 := by
          rcases tot (x.2.2 / absQ x.1) 0 with z | z
          · have := Rat.mul_nonneg (show 0 ≤ -(x.2.2 / absQ x.1) by grind) (lpos ap)
            grind
          · by_cases z0 : x.2.2 / absQ x.1 = 0
            · rw [z0] at dd; grind
            · grind
        have lx : letB x (x.2.2 / absQ x.1) 0 = true := by
          rw [letB_iff, Rat.mul_zero, Rat.add_zero]
          generalize x.2.2 / absQ x.1 = t at *
          unfold absQ at dd
          split at dd
          · exact ⟨by grind, by have : 0 ≤ x.2.2 := by grind
                                grind⟩
          · exact ⟨by have : 0 ≤ x.2.2 := by grind
                      grind, by grind⟩
        by_cases c : x.2.2 / absQ x.1 ≤ e
        · refine ⟨_, t0, fun y hy => ?_⟩
          rcases List.mem_cons.mp hy with rfl | hy
          · exact lx
          · exact small (he y hy) (lpos t0) c e0
        · refine ⟨e, e0, fun y hy => ?_⟩
          rcases List.mem_cons.mp hy with rfl | hy
          · exact small lx (lpos e0) (by grind) t0
          · exact he y hy
  obtain ⟨e, e0, he⟩ := eps ls hok
  obtain ⟨c, hc, _, hm⟩ := R.most (1, 0, 0) (fun z => by have := z.1; revert this; decide)
  have := hm (e, 0) ((sup_iff ls (e, 0)).mpr (by unfold letsB; rw [List.all_eq_true]; exact he))
  unfold dt at this
  exact ⟨c, hc, by grind⟩
noncomputable def insQ (xs : List Rat) (a : Rat) : List Rat := if a ∈ xs then xs else xs.filter (fun b => decide (b < a)) ++ [a] ++ xs.drop (xs.filter fun b => decide (b < a)).length
noncomputable def risF (qs : List Rat) : List Rat := qs.foldl insQ []
noncomputable def Ris (xs : List Rat) : Prop := xs.Pairwise (· < ·)
theorem Ris.cut {xs : List Rat} (h : Ris xs) (a : Rat) : xs.filter (fun b => decide (b < a)) ++ xs.drop (xs.filter fun b => decide (b < a)).length = xs ∧ ∀ y ∈ xs.drop (xs.filter fun b => decide (b < a)).length, ¬ y < a := by
  induction xs with
  | nil => exact ⟨rfl, fun _ h => nomatch h⟩
  | cons x xs ih =>
    obtain ⟨h1, h2⟩ := List.pairwise_cons.mp h
    obtain ⟨i1, i2⟩ := ih h2
    by_cases c : x < a
    · rw [List.filter_cons_of_pos (by simpa using c), List.length_cons, List.drop_succ_cons]
      exact ⟨by rw [List.cons_append, i1], i2⟩
    · have e : xs.filter (fun b => decide (b < a)) = [] := by
        rw [List.filter_eq_nil_iff]
        intro y hy
        have := h1 y hy
        simp only [decide_eq_true_eq]
        grind
      rw [List.filter_cons_of_neg (by simpa using c), e]
      refine ⟨rfl, fun y hy => ?_⟩
      rcases List.mem_cons.mp hy with rfl | hy
      · exact c
      · have := h1 y hy; grind
theorem Ris.ins {xs : List Rat} (h : Ris xs) (a : Rat) : Ris (insQ xs a) ∧ ∀ y, y ∈ insQ xs a ↔ y ∈ xs ∨ y = a := by
  unfold insQ
  split
  · rename_i ha
    exact ⟨h, fun y => ⟨.inl, fun z => z.elim id fun e => e ▸ ha⟩⟩
  · rename_i ha
    obtain ⟨e, hd⟩ := h.cut a
    generalize hl : xs.filter (fun b => decide (b < a)) = lo at *
    generalize hu : xs.drop lo.length = up at *
    have hlo : ∀ y ∈ lo, y < a := fun y hy => by
      rw [← hl] at hy
      simpa using (List.mem_filter.mp hy).2
    have hup : ∀ y ∈ up, a < y := fun y hy => by
      have h1 := hd y hy
      have h2 : y ≠ a := fun z => ha (by rw [← e, ← z]; exact List.mem_append_right _ hy)
      grind
    have hp : Ris (lo ++ up) := by rw [e]; exact h
    obtain ⟨p1, p2, p3⟩ := List.pairwise_append.mp hp
    refine ⟨?_, fun y => ?_⟩
    · refine List.pairwise_append.mpr ⟨List.pairwise_append.mpr ⟨p1, List.pairwise_singleton _ _, fun x hx y hy => ?_⟩, p2, fun x hx y hy => ?_⟩
      · rw [List.mem_singleton.mp hy]; exact hlo x hx
      · rcases List.mem_append.mp hx with hx | hx
        · exact p3 x hx y hy
        · rw [List.mem_singleton.mp hx]; exact hup y hy
    · rw [← e]
      simp only [List.mem_append, List.mem_singleton]
      grind
theorem ris_fold : ∀ (qs xs : List Rat), Ris xs → Ris (qs.foldl insQ xs) ∧ ∀ y, y ∈ qs.foldl insQ xs ↔ y ∈ xs ∨ y ∈ qs
  | [], xs, h => ⟨h, fun y => by simp⟩
  | a :: qs, xs, h => by
    obtain ⟨h1, h2⟩ := h.ins a
    obtain ⟨h3, h4⟩ := ris_fold qs (insQ xs a) h1
    refine ⟨h3, fun y => ?_⟩
    rw [List.foldl_cons, h4, h2, List.mem_cons]
    grind
theorem risF_ok (qs : List Rat) : Ris (risF qs) ∧ ∀ y, y ∈ risF qs ↔ y ∈ qs := by
  obtain ⟨h1, h2⟩ := ris_fold qs [] List.Pairwise.nil
  exact ⟨h1, fun y => by unfold risF; rw [h2]; simp⟩
theorem Ris.uniq : ∀ {xs ys : List Rat}, Ris xs → Ris ys → (∀ y, y ∈ xs ↔ y ∈ ys) → xs = ys
  | [], [], _, _, _ => rfl
  | [], y :: ys, _, _, h => absurd ((h y).mpr List.mem_cons_self) (fun z => nomatch z)
  | x :: xs, [], _, _, h => absurd ((h x).mp List.mem_cons_self) (fun z => nomatch z)
  | x :: xs, y :: ys, h1, h2, h => by
    obtain ⟨a1, a2⟩ := List.pairwise_cons.mp h1
    obtain ⟨b1, b2⟩ := List.pairwise_cons.mp h2
    have e : x = y := by
      have hx := (h x).mp List.mem_cons_self
      have hy := (h y).mpr List.mem_cons_self
      rcases List.mem_cons.mp hx with z | z
      · exact z
      · rcases List.mem_cons.mp hy with w | w
        · exact w.symm
        · have := b1 x z
          have := a1 y w
          grind
    subst e
    rw [Ris.uniq a2 b2 fun z => ?_]
    constructor
    · intro hz
      have := a1 z hz
      rcases List.mem_cons.mp ((h z).mp (List.mem_cons_of_mem _ hz)) with w | w
      · grind
      · exact w
    · intro hz
      have := b1 z hz
      rcases List.mem_cons.mp ((h z).mpr (List.mem_cons_of_mem _ hz)) with w | w
      · grind
      · exact w
theorem ris_neg {xs : List Rat} (h : Ris xs) (hn : ∀ y ∈ xs, -y ∈ xs) : (xs.map fun y => -y).reverse = xs := by
  refine Ris.uniq ?_ h fun y => ?_
  · refine List.pairwise_reverse.mpr (List.pairwise_map.mpr (h.imp fun z => ?_))
    grind
  · rw [List.mem_reverse, List.mem_map]
    constructor
    · rintro ⟨z, hz, rfl⟩; exact hn z hz
    · intro hy; exact ⟨-y, hn y hy, by grind⟩
end GM

namespace GM
open PySem PySem.Spec L2 DL
open RM (sz)
theorem CD.led5 {S k : Nat} {x : Str × Rat} {a b c d : Rat} (h : CD S a b c d) (hx : sz x.2 ≤ k) : CD (S + (k + 1)) (ledP x a c).1 (ledP x b d).1 (ledP x a c).2 (ledP x b d).2 := by
  unfold ledP
  by_cases h1 : x.1 = "gap"
  · rw [if_pos h1, if_pos h1]; exact h.step hx
  · rw [if_neg h1, if_neg h1]
    by_cases h2 : x.1 = "glass"
    · rw [if_pos h2, if_pos h2]
      have := (h.swap.step (q := -x.2) (k := k) (by rw [RM.sz_neg]; exact hx)).swap
      have e : ∀ u v : Rat, u + -x.2 * v = u - x.2 * v := fun u v => by grind
      rw [e, e] at this
      exact this
    · rw [if_neg h2, if_neg h2]; exact h.mono (by omega)
theorem out_cd5 {bs : List (Str × Rat)} (hb : ∀ x ∈ bs, PartOk x) : CD (1 + 42 * bs.length) (outP bs (1, 0)).1 (outP bs (0, 1)).1 (outP bs (1, 0)).2 (outP bs (0, 1)).2 := by
  have gen : ∀ (bs : List (Str × Rat)) (S : Nat) (a b c d : Rat), (∀ x ∈ bs, PartOk x) → CD S a b c d → CD (S + 42 * bs.length) (outP bs (a, c)).1 (outP bs (b, d)).1 (outP bs (a, c)).2 (outP bs (b, d)).2 := by
    intro bs
    induction bs with
    | nil => intro S a b c d _ h; exact h.mono (by simp)
    | cons x r ih =>
      intro S a b c d hb h
      have h1 := h.led5 (hb x List.mem_cons_self).sz
      have h2 := ih _ _ _ _ _ (fun z hz => hb z (List.mem_cons_of_mem _ hz)) h1
      exact h2.mono (by simp only [List.length_cons]; omega)
  exact gen bs 1 1 0 0 1 hb CD.one
theorem out_det5 (bs : List (Str × Rat)) : (outP bs (1, 0)).1 * (outP bs (0, 1)).2 - (outP bs (0, 1)).1 * (outP bs (1, 0)).2 = 1 := by
  have gen : ∀ (bs : List (Str × Rat)) (a b c d : Rat), a * d - b * c = 1 → (outP bs (a, c)).1 * (outP bs (b, d)).2 - (outP bs (b, d)).1 * (outP bs (a, c)).2 = 1 := by
    intro bs
    induction bs with
    | nil => intro a b c d h; exact h
    | cons x r ih =>
      intro a b c d h
      refine ih (ledP x a c).1 (ledP x b d).1 (ledP x a c).2 (ledP x b d).2 ?_
      unfold ledP
      by_cases h1 : x.1 = "gap"
      · rw [if_pos h1, if_pos h1]; grind
      · rw [if_neg h1, if_neg h1]
        by_cases h2 : x.1 = "glass"
        · rw [if_pos h2, if_pos h2]; grind
        · rw [if_neg h2, if_neg h2]; exact h
  exact gen bs 1 0 0 1 (by grind)
theorem lns_of {bs : List (Str × Rat)} (hok : ∀ x ∈ bs, PartOk x) : ∀ i, ∀ l ∈ lnsN bs i, ∃ (j : Nat) (r : Rat), l = ((outP (bs.take j) (1, 0)).1, (outP (bs.take j) (0, 1)).1, r) ∧ 0 < r ∧ sz r ≤ 41
  | 0, l, h => by cases h
  | i + 1, l, h => by
    rcases List.mem_append.mp h with h | h
    · exact lns_of hok i l h
    · cases e : bs[i]? with
      | none => rw [e] at h; cases h
      | some x =>
        replace h : l ∈ (if x.1 = "stop" then [((outP (bs.take i) (1, 0)).1, (outP (bs.take i) (0, 1)).1, x.2)] else []) := by rw [e] at h; exact h
        by_cases hx : x.1 = "stop"
        · rw [if_pos hx] at h
          have ok := hok x (List.mem_of_getElem? e)
          refine ⟨i, x.2, List.mem_singleton.mp h, ?_, ok.sz⟩
          rcases ok.kind with ⟨z, _⟩ | z | ⟨_, z⟩
          · rw [z] at hx; exact absurd hx (by decide)
          · rw [z] at hx; exact absurd hx (by decide)
          · exact z
        · rw [if_neg hx] at h; cases h
theorem top_le {q : Rat} {c N : Nat} {A : Int} (hd : q.den ∣ c) (hc : c ∣ N) (hN : 0 < N) (e : q * (N : Rat) = (A : Rat)) : (topQ q c).natAbs ≤ A.natAbs := by
  obtain ⟨m, rfl⟩ := hc
  have h1 := topQ_eq hd
  have e2 : (A : Rat) = ((topQ q c * (m : Int) : Int) : Rat) := by
    rw [Rat.intCast_mul, h1, ← e, Rat.natCast_mul, Rat.intCast_natCast]; grind
  have e3 : A = topQ q c * (m : Int) := Rat.intCast_inj.mp e2
  rw [e3, Int.natAbs_mul, Int.natAbs_natCast]
  exact Nat.le_mul_of_pos_right _ (Nat.pos_of_ne_zero fun z => by rw [z] at hN; simp at hN)
theorem den_dvd {q : Rat} {N : Nat} {A : Int} (e : q * (N : Rat) = (A : Rat)) : q.den ∣ N := by
  have e1 := mul_den q
  have e2 : ((q.num * (N : Int) : Int) : Rat) = ((A * (q.den : Int) : Int) : Rat) := by
    rw [Rat.intCast_mul, Rat.intCast_mul, ← e1, ← e, Rat.intCast_natCast, Rat.intCast_natCast]; grind
  have e3 : q.num * (N : Int) = A * (q.den : Int) := Rat.intCast_inj.mp e2
  have e4 : q.num.natAbs * N = A.natAbs * q.den := by
    have := congrArg Int.natAbs e3
    rwa [Int.natAbs_mul, Int.natAbs_mul, Int.natAbs_natCast, Int.natAbs_natCast] at this
  have e5 : q.den ∣ q.num.natAbs * N := ⟨A.natAbs, by rw [e4, Nat.mul_comm]⟩
  exact Nat.Coprime.dvd_of_dvd_mul_left (Nat.Coprime.symm q.reduced) e5
structure LS5 (l : T3) : Prop where
  p : sz l.1 ≤ 505
  q : sz l.2.1 ≤ 547
  r : sz l.2.2 ≤ 41
noncomputable def Bits (n : Nat) (s : Sd) : Prop := s.1.natAbs < 2 ^ n ∧ s.2.1.natAbs < 2 ^ n ∧ s.2.2.1.natAbs < 2 ^ n
theorem seen_ok5 {bs : List (Str × Rat)} {x : Rat} (hl : bs.length ≤ 12) (hok : ∀ x ∈ bs, PartOk x) (hx : sz x ≤ 41) : ∀ l ∈ seenL bs x, LnOk l ∧ LS5 l ∧ Bits 588 (sideL l 0) := fun l h => by
  obtain ⟨m, hm, rfl⟩ := List.mem_map.mp h
  obtain ⟨j, r, rfl, r0, hr⟩ := lns_of hok bs.length m hm
  have cd := out_cd5 (bs := bs.take j) fun x hx => hok x (List.mem_of_mem_take hx)
  have dt1 := out_det5 (bs.take j)
  have hlen : (bs.take j).length ≤ 12 := by rw [List.length_take]; omega
  have cd := cd.mono (show 1 + 42 * (bs.take j).length ≤ 505 by omega)
  show LnOk ((outP (bs.take j) (1, 0)).1, (outP (bs.take j) (1, 0)).1 * x + (outP (bs.take j) (0, 1)).1, r) ∧ _
  generalize (outP (bs.take j) (1, 0)).1 = p at *
  generalize (outP (bs.take j) (0, 1)).1 = q at *
  obtain ⟨A, B, C, E, D, h0, hd, ⟨h1, h2, _, _⟩, e1, e2, _, _⟩ := cd.ex
  have xn := num_lt' x hx
  have xd := den_lt' x hx
  have rn := num_lt' r hr
  have rd := den_lt' r hr
  have ex := mul_den x
  have er := mul_den r
  have xd' : (x.den : Int).natAbs < 2 ^ 41 := by rw [Int.natAbs_natCast]; exact xd
  have rd' : (r.den : Int).natAbs < 2 ^ 41 := by rw [Int.natAbs_natCast]; exact rd
  -- with one bottom
  have p1 : p * ((D * x.den : Nat) : Rat) = ((A * (x.den : Int) : Int) : Rat) := by
    rw [Rat.natCast_mul, Rat.intCast_mul, Rat.intCast_natCast, ← e1]; grind
  have q1 : (p * x + q) * ((D * x.den : Nat) : Rat) = ((A * x.num + B * (x.den : Int) : Int) : Rat) := by
    rw [Rat.natCast_mul, Rat.intCast_add, Rat.intCast_mul, Rat.intCast_mul, Rat.intCast_natCast, ← e1, ← e2, ← ex]; grind
  have bp : (A * (x.den : Int)).natAbs < 2 ^ 546 := int_mul_lt h1 xd'
  have bq : (A * x.num + B * (x.den : Int)).natAbs < 2 ^ 547 := int_add_lt (int_mul_lt h1 xn) (int_mul_lt h2 xd')
  have bd : D * x.den < 2 ^ 546 := nat_mul_lt hd xd
  have d0 : D * x.den ≠ 0 := Nat.mul_ne_zero h0 x.den_nz
  have sp : sz p ≤ 505 := cd_sz (by decide) h0 hd e1 h1
  have sq : sz (p * x + q) ≤ 547 := cd_sz (by decide) d0 (Nat.lt_trans bd (by decide)) q1 bq
  generalize p * x + q = q' at *
  have np : ¬ (p = 0 ∧ q' = 0) := fun ⟨z1, z2⟩ => by
    have hA : A = 0 := by
      rw [z1, Rat.zero_mul] at e1
      exact Rat.intCast_inj.mp (by rw [← e1]; rfl)
    have hB : B * (x.den : Int) = 0 := by
      rw [z2, Rat.zero_mul, hA, Int.zero_mul, Int.zero_add] at q1
      exact Rat.intCast_inj.mp (by rw [← q1]; rfl)
    have hB0 : B = 0 := (Int.mul_eq_zero.mp hB).resolve_right (by have := x.den_nz; omega)
    rw [hB0] at e2
    have dn : (D : Rat) ≠ 0 := by intro z; exact h0 (by exact_mod_cast z)
    have q0 : q = 0 := by
      have : q * (D : Rat) = 0 := e2
      grind
    rw [z1, q0] at dt1
    grind
  have np' : 0 < D * x.den * r.den := Nat.mul_pos (Nat.pos_of_ne_zero d0) r.den_pos
  have p2 : p * ((D * x.den * r.den : Nat) : Rat) = ((A * (x.den : Int) * (r.den : Int) : Int) : Rat) := by
    rw [Rat.natCast_mul, ← Rat.mul_assoc, p1, Rat.intCast_mul (A * (x.den : Int)), Rat.intCast_natCast]
  have q2 : q' * ((D * x.den * r.den : Nat) : Rat) = (((A * x.num + B * (x.den : Int)) * (r.den : Int) : Int) : Rat) := by
    rw [Rat.natCast_mul, ← Rat.mul_assoc, q1, Rat.intCast_mul, Rat.intCast_natCast]
  have r2 : r * ((D * x.den * r.den : Nat) : Rat) = ((((D * x.den : Nat) : Int) * r.num : Int) : Rat) := by
    rw [Rat.natCast_mul, Rat.intCast_mul, Rat.intCast_natCast, ← er]; grind
  have cdv : cbL (p, q', r) ∣ D * x.den * r.den := by
    rw [cbL_eq]
    exact Nat.lcm_dvd (Nat.lcm_dvd (den_dvd p2) (den_dvd q2)) (den_dvd r2)
  have tp : (topQ p (cbL (p, q', r))).natAbs < 2 ^ 588 := Nat.lt_of_le_of_lt (top_le (cbL_p (p, q', r)) cdv np' p2) (Nat.lt_trans (int_mul_lt bp rd') (by decide))
  have tq : (topQ q' (cbL (p, q', r))).natAbs < 2 ^ 588 := Nat.lt_of_le_of_lt (top_le (cbL_q (p, q', r)) cdv np' q2) (int_mul_lt bq rd')
  have tr : (topQ r (cbL (p, q', r))).natAbs < 2 ^ 588 := Nat.lt_of_le_of_lt (top_le (cbL_r (p, q', r)) cdv np' r2) (Nat.lt_trans (int_mul_lt (by rw [Int.natAbs_natCast]; exact bd) rn) (by decide))
  have up : ∀ {n : Nat}, n < 2 ^ 588 → n < 2 ^ 1200 := fun h => Nat.lt_trans h (by decide)
  exact ⟨⟨⟨np, r0⟩, by show sz p ≤ 1300; omega, by show sz q' ≤ 1300; omega, by show sz r ≤ 1300; omega, ⟨up tp, up tq, up tr⟩⟩, ⟨sp, sq, hr⟩, tp, tq, tr⟩
theorem seen_ls {bs : List (Str × Rat)} {x : Rat} (hl : bs.length ≤ 12) (hok : ∀ x ∈ bs, PartOk x) (hx : sz x ≤ 41) : LsOk (seenL bs x) :=
  ⟨Nat.le_trans (seenL_len bs x) hl, fun l h => (seen_ok5 hl hok hx l h).1⟩
theorem cor_sz {ls : List T3} {n : Nat} (hok : ∀ l ∈ ls, LineOk l) (hb : ∀ l ∈ ls, Bits n (sideL l 0)) {cs : List (Rat × Rat)} (e : corF ls = some cs) : cs.length ≤ 4 * ls.length + 2 ∧ ∀ z ∈ cs, sz z.1 ≤ 2 * n + 1 ∧ sz z.2 ≤ 2 * n + 1 := by
  have hne : ls ≠ [] := fun z => by rw [z] at e; cases e
  have bs : ∀ s ∈ sidesF ls, Bits n s := fun s hs => by
    obtain ⟨l, hl, j, es⟩ := sid_mem hs
    obtain ⟨a, b, c⟩ := hb l hl
    rcases es with rfl | rfl
    · exact ⟨a, b, c⟩
    · exact ⟨by show (-(sideL l j).1).natAbs < _; rw [Int.natAbs_neg]; exact a, by show (-(sideL l j).2.1).natAbs < _; rw [Int.natAbs_neg]; exact b, c⟩
  obtain ⟨h0, l, eh, m0, h⟩ := half_main hok hne
  have hlen := half_len hok
  unfold corF at e
  rw [eh] at e hlen
  cases l with
  | nil => cases e
  | cons x l =>
    have e := Option.some.inj e
    rcases h with ⟨z, _⟩ | ⟨_, _, h⟩
    · cases z
    have rl := rays_len h0 (x :: l)
    have hz : ∀ z ∈ raysF h0 (x :: l), sz z.1 ≤ 2 * n + 1 ∧ sz z.2 ≤ 2 * n + 1 := fun z hz => by
      obtain ⟨ab, hab, rfl⟩ := List.mem_map.mp hz
      obtain ⟨q1, q2, q3⟩ := h ab hab
      exact ry_sz (bs _ q1) (bs _ q2) (by omega)
    refine ⟨?_, fun z hzc => ?_⟩
    · rw [← e]
      unfold rotF
      rw [List.length_append, List.length_drop, List.length_take, List.length_append, List.length_map, rl]
      simp only [List.length_cons] at hlen ⊢
      omega
    · rw [← e, rot_mem] at hzc
      rcases List.mem_append.mp hzc with hzc | hzc
      · exact hz z hzc
      · obtain ⟨y, hy, rfl⟩ := List.mem_map.mp hzc
        obtain ⟨y1, y2⟩ := hz y hy
        exact ⟨by show sz (-y.1) ≤ _; rw [RM.sz_neg]; exact y1, by show sz (-y.2) ≤ _; rw [RM.sz_neg]; exact y2⟩
theorem ratsD_iff {xs ys : List Rat} : xs.map ratD = ys.map ratD ↔ xs = ys := List.map_inj_right (fun _ _ h => ratD_iff.mp h)
local macro_rules | `(tactic| walk_at "inj") => `(tactic| (rename_i e h; simp only [List.cons.injEq, GM.ratsD_iff, and_true, true_and, GM.ratD_iff, GM.partD_iff, GM.partsD_iff, GM.lineD_iff, GM.linesD_iff, D.tup.injEq, D.ref.injEq, D.int.injEq, D.str.injEq, D.bl.injEq, D.vl.injEq, Int.natCast_inj, and_assoc] at e; (repeat (obtain ⟨e1, e⟩ := e; subst e1)); subst e; exact h))
local macro_rules | `(tactic| walk_at "injs") => `(tactic| (rename_i e o h; rcases o with o | o <;> (subst o; first | (exfalso; simp only [D.tup.injEq, List.cons.injEq, reduceCtorEq, false_and, and_false] at e; done) | (simp only [List.cons.injEq, GM.ratsD_iff, and_true, true_and, GM.ratD_iff, GM.partD_iff, GM.partsD_iff, GM.lineD_iff, GM.linesD_iff, D.tup.injEq, D.ref.injEq, D.int.injEq, D.str.injEq, D.bl.injEq, D.vl.injEq, Int.natCast_inj, and_assoc] at e; (repeat (obtain ⟨e1, e⟩ := e; subst e1)); subst e; exact h))))
noncomputable abbrev sRising_b (qs : List Rat) (M : Mem) (R : DK) (Y : DXK) : Prop := (qs.length ≤ 100 ∧ ∀ q ∈ qs, sz q ≤ 2402) ∧ R (.vl ((risF qs).map ratD)) M
noncomputable def sRising : DSp := fun ds M R Y => ∃ (qs : List Rat), ds = [.vl (qs.map ratD)] ∧ sRising_b qs M R Y
theorem z_sRising {qs : List Rat} {M : Mem} {R : DK} {Y : DXK} : sRising [.vl (qs.map ratD)] M R Y = (sRising_b qs M R Y) := propext ⟨fun z => by obtain ⟨_, _, _⟩ := z; walk_at "inj", fun h => ⟨qs, rfl, h⟩⟩
noncomputable abbrev sSlopesByW_b (l : T3) (g : Rat) (M : Mem) (R : DK) (Y : DXK) : Prop := (LS5 l ∧ l.2.1 ≠ 0 ∧ sz g ≤ 2400) ∧ R (.tup [ratD (midS l g - halfS l), ratD (midS l g + halfS l)]) M
noncomputable def sSlopesByW : DSp := fun ds M R Y => ∃ (l : T3) (g : Rat), ds = [lineD l, ratD g] ∧ sSlopesByW_b l g M R Y
theorem z_sSlopesByW {l : T3} {g : Rat} {M : Mem} {R : DK} {Y : DXK} : sSlopesByW [lineD l, ratD g] M R Y = (sSlopesByW_b l g M R Y) := propext ⟨fun z => by obtain ⟨_, _, _, _⟩ := z; walk_at "inj", fun h => ⟨l, g, rfl, h⟩⟩
noncomputable abbrev sSlopesW_b (ls : List T3) (g : Rat) (M : Mem) (R : DK) (Y : DXK) : Prop := (ls.length ≤ 12 ∧ (∀ l ∈ ls, LS5 l) ∧ sz g ≤ 2400) ∧ R (coneD (coneL g ls none)) M
noncomputable def sSlopesW : DSp := fun ds M R Y => ∃ (ls : List T3) (g : Rat), ds = [.vl (ls.map lineD), ratD g] ∧ sSlopesW_b ls g M R Y
theorem z_sSlopesW {ls : List T3} {g : Rat} {M : Mem} {R : DK} {Y : DXK} : sSlopesW [.vl (ls.map lineD), ratD g] M R Y = (sSlopesW_b ls g M R Y) := propext ⟨fun z => by obtain ⟨_, _, _, _⟩ := z; walk_at "inj", fun h => ⟨ls, g, rfl, h⟩⟩
noncomputable abbrev sLawConeW_b (bs : List (Str × Rat)) (x g : Rat) (M : Mem) (R : DK) (Y : DXK) : Prop := (bs.length ≤ 12 ∧ (∀ x ∈ bs, PartOk x) ∧ sz x ≤ 41 ∧ sz g ≤ 2400) ∧ R (coneD (coneL g (seenL bs x) none)) M
noncomputable def sLawConeW : DSp := fun ds M R Y => ∃ (bs : List (Str × Rat)) (x g : Rat), ds = [.vl (bs.map partD), ratD x, ratD g] ∧ sLawConeW_b bs x g M R Y
theorem z_sLawConeW {bs : List (Str × Rat)} {x g : Rat} {M : Mem} {R : DK} {Y : DXK} : sLawConeW [.vl (bs.map partD), ratD x, ratD g] M R Y = (sLawConeW_b bs x g M R Y) := propext ⟨fun z => by obtain ⟨_, _, _, _, _⟩ := z; walk_at "inj", fun h => ⟨bs, x, g, rfl, h⟩⟩
noncomputable def coneP (ls : List T3) (g : Rat) : Rat × Rat := match coneL g ls none with
  | some (some p) => p
  | _ => (0, 0)
noncomputable def rowsF (ls : List T3) (cs : List (Rat × Rat)) : List T3 := (risF (cs.map (·.1))).map fun h => (h, coneP ls h)
noncomputable def fieldK (ls : List T3) (M : Mem) (R : DK) : Prop := match corF ls with
  | none => R .non M
  | some cs => ∀ p, M p = none → R (.ref p) (updM M p (.lst ((rowsF ls cs).map lineD)))
noncomputable abbrev sField_b (bs : List (Str × Rat)) (x : Rat) (M : Mem) (R : DK) (Y : DXK) : Prop := (bs.length ≤ 12 ∧ (∀ x ∈ bs, PartOk x) ∧ sz x ≤ 41) ∧ fieldK (seenL bs x) M R
noncomputable def sField : DSp := fun ds M R Y => ∃ (x0 : D) (bs : List (Str × Rat)) (x : Rat), ds = [x0, ratD x] ∧ (x0 = .vl (bs.map partD) ∨ x0 = .tup (bs.map partD)) ∧ sField_b bs x M R Y
theorem z_sField {bs : List (Str × Rat)} {x : Rat} {M : Mem} {R : DK} {Y : DXK} : sField [.vl (bs.map partD), ratD x] M R Y = (sField_b bs x M R Y) := propext ⟨fun z => by obtain ⟨_, _, _, _, _, _⟩ := z; walk_at "injs", fun h => ⟨_, bs, x, rfl, .inl rfl, h⟩⟩
theorem z_sField_t {bs : List (Str × Rat)} {x : Rat} {M : Mem} {R : DK} {Y : DXK} : sField [.tup (bs.map partD), ratD x] M R Y = (sField_b bs x M R Y) := propext ⟨fun z => by obtain ⟨_, _, _, _, _, _⟩ := z; walk_at "injs", fun h => ⟨_, bs, x, rfl, .inr rfl, h⟩⟩
noncomputable abbrev sMean_b (a b : Rat) (M : Mem) (R : DK) (Y : DXK) : Prop := sz a + sz b ≤ 8890 ∧ R (ratD ((a + b) * (1 / 2))) M
noncomputable def sMean : DSp := fun ds M R Y => ∃ (a b : Rat), ds = [ratD a, ratD b] ∧ sMean_b a b M R Y
theorem z_sMean {a b : Rat} {M : Mem} {R : DK} {Y : DXK} : sMean [ratD a, ratD b] M R Y = (sMean_b a b M R Y) := propext ⟨fun z => by obtain ⟨_, _, _, _⟩ := z; walk_at "inj", fun h => ⟨a, b, rfl, h⟩⟩
theorem lineK_iff {a b : Nat × Rat × Rat × Rat} : lineK a = lineK b ↔ a = b := by
  constructor
  · intro h
    unfold lineK at h
    injection h with h
    injection h with h1 h
    injection h with h2 h
    injection h with h3 h
    injection h with h4 h
    injection h1 with h1
    exact Prod.ext (by omega) (Prod.ext (ratD_iff.mp h2) (Prod.ext (ratD_iff.mp h3) (ratD_iff.mp h4)))
  · rintro rfl; rfl
theorem linesK_iff {xs ys : List (Nat × Rat × Rat × Rat)} : xs.map lineK = ys.map lineK ↔ xs = ys := List.map_inj_right (fun _ _ h => lineK_iff.mp h)
end GM
namespace GM
open PySem PySem.Spec L2 DL
open RM (sz)
local macro_rules | `(tactic| walk_at "inj") => `(tactic| (rename_i e h; simp only [List.cons.injEq, GM.linesK_iff, and_true, true_and, GM.ratD_iff, GM.partD_iff, GM.partsD_iff, GM.lineD_iff, GM.linesD_iff, D.tup.injEq, D.ref.injEq, D.int.injEq, D.str.injEq, D.bl.injEq, D.vl.injEq, Int.natCast_inj, and_assoc] at e; (repeat (obtain ⟨e1, e⟩ := e; subst e1)); subst e; exact h))
local macro_rules | `(tactic| walk_at "injs") => `(tactic| (rename_i e o h; rcases o with o | o <;> (subst o; first | (exfalso; simp only [D.tup.injEq, List.cons.injEq, reduceCtorEq, false_and, and_false] at e; done) | (simp only [List.cons.injEq, GM.linesK_iff, and_true, true_and, GM.ratD_iff, GM.partD_iff, GM.partsD_iff, GM.lineD_iff, GM.linesD_iff, D.tup.injEq, D.ref.injEq, D.int.injEq, D.str.injEq, D.bl.injEq, D.vl.injEq, Int.natCast_inj, and_assoc] at e; (repeat (obtain ⟨e1, e⟩ := e; subst e1)); subst e; exact h))))
noncomputable abbrev sAlongL_b (ks : List (Nat × Rat × Rat × Rat)) (M : Mem) (R : DK) (Y : DXK) : Prop := (ks.length ≤ 12 ∧ ∀ k ∈ ks, LSz 600 k.2) ∧ ∀ b : Bool, (b = true ↔ AllAlong (ks.map (·.2))) → R (.bl b) M
noncomputable def sAlongL : DSp := fun ds M R Y => ∃ (ks : List (Nat × Rat × Rat × Rat)), ds = [.vl (ks.map lineK)] ∧ sAlongL_b ks M R Y
theorem z_sAlongL {ks : List (Nat × Rat × Rat × Rat)} {M : Mem} {R : DK} {Y : DXK} : sAlongL [.vl (ks.map lineK)] M R Y = (sAlongL_b ks M R Y) := propext ⟨fun z => by obtain ⟨_, _, _⟩ := z; walk_at "inj", fun h => ⟨ks, rfl, h⟩⟩
noncomputable abbrev sBetw_b (bs : List (Str × Rat)) (x : Rat) (a b : T3) (M : Mem) (R : DK) (Y : DXK) : Prop := (bs.length ≤ 12 ∧ (∀ x ∈ bs, PartOk x) ∧ sz x ≤ 41 ∧ sz a.1 ≤ 1180 ∧ sz b.1 ≤ 1180 ∧ sz a.2.1 ≤ 4100 ∧ sz b.2.1 ≤ 4100 ∧ sz a.2.2 ≤ 4100 ∧ sz b.2.2 ≤ 4100) ∧ ∀ c : Bool, (c = true ↔ coneD (coneL ((a.1 + b.1) * (1 / 2)) (seenL bs x) none) = .tup [ratD ((a.2.1 + b.2.1) * (1 / 2)), ratD ((a.2.2 + b.2.2) * (1 / 2))]) → R (.bl c) M
noncomputable def sBetw : DSp := fun ds M R Y => ∃ (bs : List (Str × Rat)) (x : Rat) (a b : T3), ds = [.vl (bs.map partD), ratD x, lineD a, lineD b] ∧ sBetw_b bs x a b M R Y
theorem z_sBetw {bs : List (Str × Rat)} {x : Rat} {a b : T3} {M : Mem} {R : DK} {Y : DXK} : sBetw [.vl (bs.map partD), ratD x, lineD a, lineD b] M R Y = (sBetw_b bs x a b M R Y) := propext ⟨fun z => by obtain ⟨_, _, _, _, _, _⟩ := z; walk_at "inj", fun h => ⟨bs, x, a, b, rfl, h⟩⟩
structure Row32 (a : T3) : Prop where
  h : sz a.1 ≤ 1180
  lo : sz a.2.1 ≤ 2900
  hi : sz a.2.2 ≤ 2900
noncomputable abbrev sBent_b (a b c : T3) (M : Mem) (R : DK) (Y : DXK) : Prop := (Row32 a ∧ Row32 b ∧ Row32 c ∧ a.1 < b.1 ∧ b.1 < c.1) ∧ ∀ v : Bool, (v = true ↔ ¬ ((b.2.1 - a.2.1) / (b.1 - a.1) = (c.2.1 - b.2.1) / (c.1 - b.1) ∧ (b.2.2 - a.2.2) / (b.1 - a.1) = (c.2.2 - b.2.2) / (c.1 - b.1))) → R (.bl v) M
noncomputable def sBent : DSp := fun ds M R Y => ∃ (a b c : T3), ds = [lineD a, lineD b, lineD c] ∧ sBent_b a b c M R Y
theorem z_sBent {a b c : T3} {M : Mem} {R : DK} {Y : DXK} : sBent [lineD a, lineD b, lineD c] M R Y = (sBent_b a b c M R Y) := propext ⟨fun z => by obtain ⟨_, _, _, _, _⟩ := z; walk_at "inj", fun h => ⟨a, b, c, rfl, h⟩⟩
noncomputable abbrev sGood32_b (bs : List (Str × Rat)) (d : D) (x : Rat) (M : Mem) (R : DK) (Y : DXK) : Prop := ((d = .vl (bs.map partD) ∨ d = .tup (bs.map partD)) ∧ bs.length ≤ 12 ∧ (∀ x ∈ bs, PartOk x) ∧ sz x ≤ 41) ∧ R (.bl true) M
noncomputable def sGood32 : DSp := fun ds M R Y => ∃ (bs : List (Str × Rat)) (d : D) (x : Rat), ds = [.vl (bs.map partD), d, ratD x] ∧ sGood32_b bs d x M R Y
theorem z_sGood32 {bs : List (Str × Rat)} {d : D} {x : Rat} {M : Mem} {R : DK} {Y : DXK} : sGood32 [.vl (bs.map partD), d, ratD x] M R Y = (sGood32_b bs d x M R Y) := propext ⟨fun z => by obtain ⟨_, _, _, _, _⟩ := z; walk_at "inj", fun h => ⟨bs, d, x, rfl, h⟩⟩
theorem half_eq : (1 / 2 : Rat) = Rat.divInt 1 2 := by rw [Rat.divInt_eq_div]; rfl
theorem half_D : D.tup [.int 1, .int 2] = ratD (1 / 2) := by rw [half_eq]; rfl
theorem half_sz : sz (1 / 2) ≤ 3 := by rw [half_eq]; decide
theorem cone_sz {ls : List T3} {g lo hi : Rat} {n : Nat} (h5 : ∀ l ∈ ls, LS5 l) (hg : sz g ≤ n) (h : ConeAt ls g lo hi) : sz lo ≤ n + 1642 ∧ sz hi ≤ n + 1642 := by
  have one : ∀ l ∈ ls, l.2.1 ≠ 0 → sz (midS l g) ≤ n + 1052 ∧ sz (halfS l) ≤ 588 := fun l hl hn => by
    obtain ⟨a1, a2, a3⟩ := h5 l hl
    have m1 := RM.sz_mul l.1 g
    have m2 := RM.sz_div (l.1 * g) l.2.1 hn
    have m3 := RM.sz_neg (l.1 * g / l.2.1)
    have m4 := RM.sz_div l.2.2 l.2.1 hn
    have m5 := sz_abs (l.2.2 / l.2.1)
    unfold midS halfS
    omega
  obtain ⟨l, hl, hn, e⟩ := h.lo
  obtain ⟨m, hm, hn', e'⟩ := h.hi
  have o1 := one l hl hn
  have o2 := one m hm hn'
  refine ⟨?_, ?_⟩
  · rw [e]; unfold loS
    have := RM.sz_sub (midS l g) (halfS l)
    omega
  · rw [e']; unfold hiS
    have := RM.sz_add (midS m g) (halfS m)
    omega
theorem coneP_of {ls : List T3} {g lo hi : Rat} (h : ConeAt ls g lo hi) : coneP ls g = (lo, hi) := by unfold coneP; rw [h.eq]
theorem some_q {ls : List T3} (hok : ∀ l ∈ ls, LineOk l) (h : ¬ AllAlong ls) : ∃ l ∈ ls, l.2.1 ≠ 0 := by
  apply Classical.byContradiction
  intro hn
  apply h
  intro a ha b hb
  have e1 : a.2.1 = 0 := Classical.byContradiction fun z => hn ⟨a, ha, z⟩
  have e2 : b.2.1 = 0 := Classical.byContradiction fun z => hn ⟨b, hb, z⟩
  rw [e1, e2, Rat.mul_zero, Rat.mul_zero]
structure FieldOk (ls : List T3) (cs : List (Rat × Rat)) (hs : List Rat) : Prop where
  na : ¬ AllAlong ls
  q : ∃ l ∈ ls, l.2.1 ≠ 0
  ris : Ris hs
  mem : ∀ h, h ∈ hs ↔ ∃ z ∈ cs, z.1 = h
  cone : ∀ h ∈ hs, ∃ lo hi, ConeAt ls h lo hi
  neg : (hs.map fun y => -y).reverse = hs
  len : 2 ≤ hs.length
  mid : ∀ (i : Nat) (a b lo1 hi1 lo2 hi2 : Rat), hs[i]? = some a → hs[i + 1]? = some b → ConeAt ls a lo1 hi1 → ConeAt ls b lo2 hi2 → ConeAt ls ((a + b) * (1 / 2)) ((lo1 + lo2) * (1 / 2)) ((hi1 + hi2) * (1 / 2))
  bent : ∀ (a b c lo1 hi1 lo2 hi2 lo3 hi3 : Rat), a < b → b < c → b ∈ hs → ConeAt ls a lo1 hi1 → ConeAt ls b lo2 hi2 → ConeAt ls c lo3 hi3 → ¬ ((lo2 - lo1) / (b - a) = (lo3 - lo2) / (c - b) ∧ (hi2 - hi1) / (b - a) = (hi3 - hi2) / (c - b))
  far : ∀ g, (∀ h ∈ hs, h < g) → coneD (coneL g ls none) = .non
theorem ris_next {hs : List Rat} (h : Ris hs) {i : Nat} {a b : Rat} (ha : hs[i]? = some a) (hb : hs[i + 1]? = some b) : a < b ∧ ∀ y ∈ hs, ¬ (a < y ∧ y < b) := by
  obtain ⟨i1, rfl⟩ := List.getElem?_eq_some_iff.mp ha
  obtain ⟨i2, rfl⟩ := List.getElem?_eq_some_iff.mp hb
  have pw := List.pairwise_iff_getElem.mp h
  refine ⟨pw i (i + 1) i1 i2 (by omega), fun y hy ⟨z1, z2⟩ => ?_⟩
  obtain ⟨j, hj, rfl⟩ := List.mem_iff_getElem.mp hy
  rcases Nat.lt_trichotomy j i with c | c | c
  · have := pw j i hj i1 c; grind
  · subst c; grind
  · rcases Nat.lt_or_eq_of_le (show i + 1 ≤ j by omega) with c2 | c2
    · have := pw (i + 1) j i2 hj c2; grind
    · subst c2; grind
theorem field_ok {ls : List T3} (hok : ∀ l ∈ ls, LineOk l) {cs : List (Rat × Rat)} (e : corF ls = some cs) : FieldOk ls cs (risF (cs.map (·.1))) := by
  rcases cor_main hok with ⟨e0, _⟩ | ⟨cs', e', na, h0, r, R, hm⟩
  · rw [e] at e0; cases e0
  · obtain rfl : cs = cs' := by rw [e] at e'; exact Option.some.inj e'
    have q := some_q hok na
    obtain ⟨ris, mem⟩ := risF_ok (cs.map (·.1))
    have mem' : ∀ h, h ∈ risF (cs.map (·.1)) ↔ ∃ z ∈ cs, z.1 = h := fun h => by rw [mem, List.mem_map]
    have K : ∀ z ∈ cs, letsB ls z.1 z.2 = true := fun z hz => (sup_iff ls z).mp (R.tight ((hm z).mp hz)).1
    have cone : ∀ h ∈ risF (cs.map (·.1)), ∃ lo hi, ConeAt ls h lo hi := fun h hh => by
      obtain ⟨z, hz, rfl⟩ := (mem' h).mp hh
      obtain ⟨lo, hi, c, _⟩ := cone_at hok q (K z hz)
      exact ⟨lo, hi, c⟩
    have ng : ∀ y ∈ risF (cs.map (·.1)), -y ∈ risF (cs.map (·.1)) := fun y hy => by
      obtain ⟨z, hz, rfl⟩ := (mem' y).mp hy
      exact (mem' _).mpr ⟨ngZ z, (hm _).mpr (Rim.neg (ss := (sidesF ls).map tri) ((hm z).mp hz)), rfl⟩
    refine ⟨na, q, ris, mem', cone, ris_neg ris ng, ?_, fun i a b lo1 hi1 lo2 hi2 ha hb ca cb => ?_, fun a b c lo1 hi1 lo2 hi2 lo3 hi3 l1 l2 hb c1 c2 c3 => ?_, fun g hg => ?_⟩
    · obtain ⟨z, hz, z0⟩ := above R hok
      have m1 := (mem' z.1).mpr ⟨z, (hm z).mpr hz, rfl⟩
      have m2 := ng _ m1
      generalize risF (cs.map (·.1)) = hs at *
      match hs, m1, m2 with
      | [], m1, _ => cases m1
      | [a], m1, m2 =>
        have e1 := List.mem_singleton.mp m1
        have e2 := List.mem_singleton.mp m2
        grind
      | _ :: _ :: _, _, _ => exact Nat.le_add_left 2 _
    · obtain ⟨hab, no⟩ := ris_next ris ha hb
      exact mid_cone R hok q hab ca cb fun z hz w => no z.1 ((mem' z.1).mpr ⟨z, (hm z).mpr hz, rfl⟩) w
    · obtain ⟨z, hz, rfl⟩ := (mem' b).mp hb
      exact GM.bent R hok (u := z.2) l1 l2 c1 c2 c3 ((hm z).mp hz)
    · exact cone_no hok q (beyond R fun z hz => hg z.1 ((mem' z.1).mpr ⟨z, (hm z).mpr hz, rfl⟩))
theorem rat_in {q : Rat} {xs : List Rat} : ratD q ∈ xs.map ratD ↔ q ∈ xs := by
  rw [List.mem_map]
  constructor
  · rintro ⟨y, hy, e⟩; rw [← ratD_iff.mp e]; exact hy
  · exact fun h => ⟨q, h, rfl⟩
theorem clL_rats : ∀ (xs : List Rat), clL 59 (xs.map ratD) = true
  | [] => rfl
  | q :: xs => by
    show (cl 59 (ratD q) && clL 59 (xs.map ratD)) = true
    rw [clL_rats xs]; rfl
theorem ris_len : ∀ (ys xs : List Rat), (ys.foldl insQ xs).length ≤ xs.length + ys.length
  | [], xs => Nat.le_refl _
  | y :: ys, xs => by
    have h1 := ris_len ys (insQ xs y)
    have h2 : (insQ xs y).length ≤ xs.length + 1 := by
      unfold insQ
      split
      · omega
      · have := List.length_filter_le (fun b => decide (b < y)) xs
        rw [List.length_append, List.length_append, List.length_drop, List.length_singleton]; omega
    rw [List.foldl_cons, List.length_cons]; omega
theorem risF_len (qs : List Rat) : (risF qs).length ≤ qs.length := by
  have := ris_len qs []
  unfold risF
  have h0 : ([] : List Rat).length = 0 := rfl
  omega
theorem atI_neg {xs : List D} {i : Nat} (h : i < xs.length) : atI xs (-1 - (i : Int)) = xs[xs.length - 1 - i]? := by
  unfold atI ixN
  rw [if_neg (by omega), if_pos (by omega)]
  have e : ((-1 : Int) - (i : Int) + (xs.length : Int)).toNat = xs.length - 1 - i := by omega
  rw [e]
  rfl
theorem ris_opp {hs : List Rat} (h : (hs.map fun y => -y).reverse = hs) {i : Nat} {a : Rat} (hi : hs[i]? = some a) : hs[hs.length - 1 - i]? = some (-a) := by
  have hl := (List.getElem?_eq_some_iff.mp hi).1
  have e := congrArg (fun l => l[hs.length - 1 - i]?) h
  have e : (hs.map fun y => -y).reverse[hs.length - 1 - i]? = hs[hs.length - 1 - i]? := e
  rw [← e, List.getElem?_reverse (by rw [List.length_map]; omega), List.getElem?_map, List.length_map, show hs.length - 1 - (hs.length - 1 - i) = i by omega, hi]
  rfl
theorem opp_D (a : Rat) : D.tup [.int (0 - (-a).num), .int ((-a).den : Int)] = ratD a := by
  rw [Rat.neg_num, Rat.neg_den, Int.zero_sub, Int.neg_neg]; rfl
theorem slice_row {a b c : Rat} {M : Mem} {R : DK} (h : R (.tup [ratD b, ratD c]) M) : gSlV (lineD (a, b, c)) (some 1) none M R := by
  show gSlV (.tup [ratD a, ratD b, ratD c]) (some 1) none M R
  rw [z_gSlVt]
  refine ⟨fun z => absurd z.1 (by show ¬ HT.sIx 3 0 (some 1) = 0; decide), ?_⟩
  rw [cut_hd]; exact h
theorem atI_pred {xs : List D} {i : Nat} {d : D} (h : 0 < i) (e : xs[i - 1]? = some d) : atI xs ((i : Int) - 1) = some d := by
  rw [show ((i : Int) - 1) = ((i - 1 : Nat) : Int) by omega]; exact atI_lit e
theorem atI_succ {xs : List D} {i : Nat} {d : D} (e : xs[i + 1]? = some d) : atI xs ((i : Int) + 1) = some d := by
  rw [show ((i : Int) + 1) = ((i + 1 : Nat) : Int) by omega]; exact atI_lit e
end GM


namespace K32
open PySem PySem.Spec L2 DL GM
open RM (sz)
open PyProof.Rows hiding St
local macro_rules | `(tactic| walk_at "sim") => `(tactic| (try simp only [↓DL.z_C, ↓DL.z_Op, ↓DL.z_Un, ↓DL.z_fI, ↓DL.z_fB, ↓DL.z_fS, ↓DL.z_gI, ↓DL.z_gU, ↓DL.z_Test, ↓DL.z_BlK, ↓DL.z_And, ↓DL.z_Or, ↓DL.z_Not, ↓DL.z_AndV, ↓DL.z_NotV, ↓DL.z_If, ↓DL.z_IfS, ↓DL.z_Nil, ↓DL.z_Cons, ↓DL.z_Tup, ↓DL.z_Lst, ↓DL.z_Call, ↓DL.z_CB, ↓DL.z_Next, ↓DL.z_Seq, ↓DL.z_Drop, ↓DL.z_Ret, ↓DL.z_Never, ↓DL.z_gName, ↓DL.z_gNil, ↓DL.z_gCons, ↓DL.z_gTup, ↓DL.z_gTupLs, ↓DL.z_Asg, ↓DL.z_Par, ↓DL.z_ParK, ↓DL.z_Abs, ↓DL.z_Max, ↓DL.z_IfT, ↓DL.z_IfF, ↓DL.z_IfK, ↓DL.z_LstV, ↓DL.z_CatV, ↓DL.z_SlV, ↓DL.z_NoPart, ↓DL.z_Part, ↓DL.z_PartK, ↓DL.z_ListV, ↓DL.z_gListT, ↓DL.z_gListVl, ↓DL.z_gTupVl, ↓DL.z_gCatVl, ↓DL.z_gSlVl, ↓DL.z_InCV, ↓DL.z_gSub, ↓DL.z_gSlVt, ↓DL.z_Frz, ↓DL.z_Fgt, ↓DL.z_CompV, ↓DL.z_Yes, ↓DL.z_diSeq, ↓DL.z_SeqT, ↓DL.z_SeqV, ↓DL.z_diEnum, ↓DL.z_EnumT, ↓DL.z_EnumV, ↓DL.z_diZip, ↓DL.z_ZipTT, ↓DL.z_ZipVV, ↓DL.z_ZipTV, ↓DL.z_ZipVT, ↓DL.z_diRng, ↓DL.z_RngK, ↓DL.z_For, ↓DL.z_EqC, ↓DL.z_LenV, ↓DL.z_LenT, ↓DL.z_LM, ↓DL.z_Chain, ↓DL.z_isiTTuple, ↓DL.z_isiTList, ↓DL.z_isiTInt, ↓DL.z_isiTBool, ↓DL.z_isiTStr, ↓DL.z_isiVTuple, ↓DL.z_isiVList, ↓DL.z_isiVInt, ↓DL.z_isiVBool, ↓DL.z_isiVStr, ↓DL.z_isiITuple, ↓DL.z_isiIList, ↓DL.z_isiIInt, ↓DL.z_isiIBool, ↓DL.z_isiIStr, ↓DL.z_isiNTuple, ↓DL.z_isiNList, ↓DL.z_isiNInt, ↓DL.z_isiNBool, ↓DL.z_isiNStr, ↓DL.z_isiSTuple, ↓DL.z_isiSList, ↓DL.z_isiSInt, ↓DL.z_isiSBool, ↓DL.z_isiSStr, ↓DL.z_isiBTuple, ↓DL.z_isiBList, ↓DL.z_isiBInt, ↓DL.z_isiBBool, ↓DL.z_isiBStr, ↓DL.z_isiDTuple, ↓DL.z_isiDList, ↓DL.z_isiDInt, ↓DL.z_isiDBool, ↓DL.z_isiDStr, ↓DL.z_v0, ↓DL.z_v1, ↓DL.z_v2, ↓DL.z_v3, ↓DL.z_v4, ↓DL.z_v5, ↓DL.z_v6, ↓DL.z_v7, ↓DL.z_v8, ↓DL.z_v9, ↓DL.z_v10, ↓DL.z_v11, ↓DL.z_v12, ↓DL.z_v13, ↓DL.z_s0, ↓DL.z_s1, ↓DL.z_s2, ↓DL.z_s3, ↓DL.z_s4, ↓DL.z_s5, ↓DL.z_s6, ↓DL.z_s7, ↓DL.z_s8, ↓DL.z_s9, ↓DL.z_s10, ↓DL.z_s11, ↓DL.z_s12, ↓DL.z_s13, ↓DL.z_ixT0, ↓DL.z_ixT1, ↓DL.z_ixT2, ↓DL.z_ixT3, ↓DL.z_ixT4, ↓DL.z_ixT5, ↓DL.z_ixT6, ↓DL.z_ixT7, ↓DL.z_ixV0, ↓DL.z_ixV1, ↓DL.z_ixV2, ↓DL.z_ixV3, ↓DL.z_ixV4, ↓DL.z_ixV5, ↓DL.z_ixV6, ↓DL.z_ixV7, ↓DL.z_sz0, ↓DL.z_sz1, ↓DL.z_sz2, ↓DL.z_sz3, ↓DL.z_sz4, ↓DL.z_sz5, ↓DL.z_sz6, ↓DL.z_sz7, ↓DL.z_sz8, ↓DL.z_sz9, ↓DL.z_LM0, ↓GM.z_ratIsT, ↓GM.z_partIsT, ↓GM.z_partL, ↓GM.z_rat0, ↓GM.z_rat1, ↓GM.z_ratG, ↓GM.z_ratL, ↓GM.z_part0, ↓GM.z_part1, ↓GM.z_partG, ↓GM.z_lineG, ↓GM.z_line0, ↓GM.z_line1, ↓GM.z_line2, ↓GM.z_sAlongL, ↓GM.z_sBenchW, ↓GM.z_sBent, ↓GM.z_sBetw, ↓GM.z_sCbL, ↓GM.z_sCorn, ↓GM.z_sCorn_t, ↓GM.z_sFac, ↓GM.z_sField, ↓GM.z_sField_t, ↓GM.z_sFromL, ↓GM.z_sGood32, ↓GM.z_sHalf, ↓GM.z_sHalf_t, ↓GM.z_sJuts, ↓GM.z_sLawConeW, ↓GM.z_sLedP, ↓GM.z_sLinesK, ↓GM.z_sLinesOf, ↓GM.z_sLinesOf_t, ↓GM.z_sLower, ↓GM.z_sMean, ↓GM.z_sMet, ↓GM.z_sNxt, ↓GM.z_sOutm, ↓GM.z_sPartW, ↓GM.z_sRd0, ↓GM.z_sRd1, ↓GM.z_sRising, ↓GM.z_sSd0, ↓GM.z_sSd1, ↓GM.z_sSd2, ↓GM.z_sSeen, ↓GM.z_sSeen_t, ↓GM.z_sSides, ↓GM.z_sSides_t, ↓GM.z_sSlopesByW, ↓GM.z_sSlopesW, ↓GM.z_sTopsL, ↓GM.z_sTurn, ↓GM.z_sVeer, ↓GM.z_spAbs, ↓GM.z_spDivisor, ↓GM.z_spLess, ↓GM.z_spLow, ↓GM.z_spMinus, ↓GM.z_spNext, ↓GM.z_spNumber, ↓GM.z_spOpp, ↓GM.z_spOver, ↓GM.z_spPlus, ↓GM.z_spPool, ↓GM.z_spTimes, ↓GM.sAlongL_b, ↓GM.sBenchW_b, ↓GM.sBent_b, ↓GM.sBetw_b, ↓GM.sCbL_b, ↓GM.sCorn_b, ↓GM.sFac_b, ↓GM.sField_b, ↓GM.sFromL_b, ↓GM.sGood32_b, ↓GM.sHalf_b, ↓GM.sJuts_b, ↓GM.sLawConeW_b, ↓GM.sLedP_b, ↓GM.sLinesK_b, ↓GM.sLinesOf_b, ↓GM.sLower_b, ↓GM.sMean_b, ↓GM.sMet_b, ↓GM.sNxt_b, ↓GM.sOutm_b, ↓GM.sPartW_b, ↓GM.sRising_b, ↓GM.sSeen_b, ↓GM.sSides_b, ↓GM.sSlopesByW_b, ↓GM.sSlopesW_b, ↓GM.sTopsL_b, ↓GM.sTurn_b, ↓GM.sVeer_b, GM.z_ratIsT, GM.z_partIsT, GM.z_partL, GM.z_rat0, GM.z_rat1, GM.z_ratG, GM.z_ratL, GM.z_part0, GM.z_part1, GM.z_partG, GM.z_lineG, GM.z_line0, GM.z_line1, GM.z_line2, GM.z_sAlongL, GM.z_sBenchW, GM.z_sBent, GM.z_sBetw, GM.z_sCbL, GM.z_sCorn, GM.z_sCorn_t, GM.z_sFac, GM.z_sField, GM.z_sField_t, GM.z_sFromL, GM.z_sGood32, GM.z_sHalf, GM.z_sHalf_t, GM.z_sJuts, GM.z_sLawConeW, GM.z_sLedP, GM.z_sLinesK, GM.z_sLinesOf, GM.z_sLinesOf_t, GM.z_sLower, GM.z_sMean, GM.z_sMet, GM.z_sNxt, GM.z_sOutm, GM.z_sPartW, GM.z_sRd0, GM.z_sRd1, GM.z_sRising, GM.z_sSd0, GM.z_sSd1, GM.z_sSd2, GM.z_sSeen, GM.z_sSeen_t, GM.z_sSides, GM.z_sSides_t, GM.z_sSlopesByW, GM.z_sSlopesW, GM.z_sTopsL, GM.z_sTurn, GM.z_sVeer, GM.z_spAbs, GM.z_spDivisor, GM.z_spLess, GM.z_spLow, GM.z_spMinus, GM.z_spNext, GM.z_spNumber, GM.z_spOpp, GM.z_spOver, GM.z_spPlus, GM.z_spPool, GM.z_spTimes, GM.sAlongL_b, GM.sBenchW_b, GM.sBent_b, GM.sBetw_b, GM.sCbL_b, GM.sCorn_b, GM.sFac_b, GM.sField_b, GM.sFromL_b, GM.sGood32_b, GM.sHalf_b, GM.sJuts_b, GM.sLawConeW_b, GM.sLedP_b, GM.sLinesK_b, GM.sLinesOf_b, GM.sLower_b, GM.sMean_b, GM.sMet_b, GM.sNxt_b, GM.sOutm_b, GM.sPartW_b, GM.sRising_b, GM.sSeen_b, GM.sSides_b, GM.sSlopesByW_b, GM.sSlopesW_b, GM.sTopsL_b, GM.sTurn_b, GM.sVeer_b, DL.z_C, DL.z_Op, DL.z_Un, DL.z_fI, DL.z_fB, DL.z_fS, DL.z_gI, DL.z_gU, DL.z_Test, DL.z_BlK, DL.z_And, DL.z_Or, DL.z_Not, DL.z_AndV, DL.z_NotV, DL.z_If, DL.z_IfS, DL.z_Nil, DL.z_Cons, DL.z_Tup, DL.z_Lst, DL.z_Call, DL.z_CB, DL.z_Next, DL.z_Seq, DL.z_Drop, DL.z_Ret, DL.z_Never, DL.z_gName, DL.z_gNil, DL.z_gCons, DL.z_gTup, DL.z_gTupLs, DL.z_Asg, DL.z_Par, DL.z_ParK, DL.z_Abs, DL.z_Max, DL.z_IfT, DL.z_IfF, DL.z_IfK, DL.z_LstV, DL.z_CatV, DL.z_SlV, DL.z_NoPart, DL.z_Part, DL.z_PartK, DL.z_ListV, DL.z_gListT, DL.z_gListVl, DL.z_gTupVl, DL.z_gCatVl, DL.z_gSlVl, DL.z_InCV, DL.z_gSub, DL.z_gSlVt, DL.z_Frz, DL.z_Fgt, DL.z_CompV, DL.z_Yes, DL.z_diSeq, DL.z_SeqT, DL.z_SeqV, DL.z_diEnum, DL.z_EnumT, DL.z_EnumV, DL.z_diZip, DL.z_ZipTT, DL.z_ZipVV, DL.z_ZipTV, DL.z_ZipVT, DL.z_diRng, DL.z_RngK, DL.z_For, DL.z_EqC, DL.z_LenV, DL.z_LenT, DL.z_LM, DL.z_Chain, DL.z_isiTTuple, DL.z_isiTList, DL.z_isiTInt, DL.z_isiTBool, DL.z_isiTStr, DL.z_isiVTuple, DL.z_isiVList, DL.z_isiVInt, DL.z_isiVBool, DL.z_isiVStr, DL.z_isiITuple, DL.z_isiIList, DL.z_isiIInt, DL.z_isiIBool, DL.z_isiIStr, DL.z_isiNTuple, DL.z_isiNList, DL.z_isiNInt, DL.z_isiNBool, DL.z_isiNStr, DL.z_isiSTuple, DL.z_isiSList, DL.z_isiSInt, DL.z_isiSBool, DL.z_isiSStr, DL.z_isiBTuple, DL.z_isiBList, DL.z_isiBInt, DL.z_isiBBool, DL.z_isiBStr, DL.z_isiDTuple, DL.z_isiDList, DL.z_isiDInt, DL.z_isiDBool, DL.z_isiDStr, DL.z_v0, DL.z_v1, DL.z_v2, DL.z_v3, DL.z_v4, DL.z_v5, DL.z_v6, DL.z_v7, DL.z_v8, DL.z_v9, DL.z_v10, DL.z_v11, DL.z_v12, DL.z_v13, DL.z_s0, DL.z_s1, DL.z_s2, DL.z_s3, DL.z_s4, DL.z_s5, DL.z_s6, DL.z_s7, DL.z_s8, DL.z_s9, DL.z_s10, DL.z_s11, DL.z_s12, DL.z_s13, DL.z_ixT0, DL.z_ixT1, DL.z_ixT2, DL.z_ixT3, DL.z_ixT4, DL.z_ixT5, DL.z_ixT6, DL.z_ixT7, DL.z_ixV0, DL.z_ixV1, DL.z_ixV2, DL.z_ixV3, DL.z_ixV4, DL.z_ixV5, DL.z_ixV6, DL.z_ixV7, DL.z_sz0, DL.z_sz1, DL.z_sz2, DL.z_sz3, DL.z_sz4, DL.z_sz5, DL.z_sz6, DL.z_sz7, DL.z_sz8, DL.z_sz9, DL.z_LM0, DL.z_clI60, DL.z_clN60, DL.z_clT60, DL.z_clV60, DL.z_clI59, DL.z_clN59, DL.z_clT59, DL.z_clV59, DL.z_clI58, DL.z_clN58, DL.z_clT58, DL.z_clV58, DL.z_clI57, DL.z_clN57, DL.z_clT57, DL.z_clV57, DL.z_clI56, DL.z_clN56, DL.z_clT56, DL.z_clV56, DL.z_clI55, DL.z_clN55, DL.z_clT55, DL.z_clV55, DL.z_cln59, DL.z_clc59, DL.z_cln58, DL.z_clc58, DL.z_cln57, DL.z_clc57, DL.z_cln56, DL.z_clc56, DL.z_cln55, DL.z_clc55, DL.z_cln54, DL.z_clc54, GM.z_clR60, GM.z_clR59, GM.z_clR58, GM.z_clR57, DL.z_szk1, DL.z_szk2, DL.z_szk3, DL.z_szk4, DL.z_szk5, DL.z_szk6, DL.z_szk7, DL.z_szk8, DL.z_szk9, DL.z_szk10, DL.z_szk11, DL.z_szk12, Nat.reduceAdd, Nat.reduceLT, Nat.reduceLeDiff, Nat.zero_add, Int.reduceLT, Int.reduceLE, Int.reduceEq, eq_self, decide_true, decide_false, D.int.injEq, D.str.injEq, beq_self_eq_true, and_self, true_and, and_true, not_true_eq_false, not_false_eq_true, false_implies, true_implies, forall_const, dstart, List.map_cons, List.map_nil, List.cons_append, List.nil_append, List.append_nil, List.length_cons, List.length_nil, List.replicate, capE, List.getElem?_cons_zero, List.getElem?_cons_succ, Option.getD_some, decide_eq_true_eq, decide_eq_false_iff_not, Bool.not_eq_true', Bool.not_eq_false', Bool.and_self, Bool.true_and, Bool.and_true, Bool.xor_false, Bool.false_xor, Bool.true_xor, Bool.not_true, Bool.not_false, Bool.false_eq_true, Bool.true_eq_false, reduceIte, GM.r0, GM.r1, GM.r2, GM.r4, GM.rm1, GM.rm2, GM.ratD_iff, GM.r_line, GM.r_abs, GM.r_neg, GM.r_self]))
local macro_rules | `(tactic| walk_at "len") => `(tactic| (intro ds M R Y h; repeat (first | exact congrArg List.length h.1 | (obtain ⟨_, h⟩ := h))))
local macro_rules | `(tactic| walk_at "size") => `(tactic| first | omega | grind only [RM.sz_mul, RM.sz_add, RM.sz_sub, RM.sz_neg, RM.sz_one, RM.sz_zero, GM.sz_abs])
local macro_rules | `(tactic| walk_at "sc") => `(tactic| exact ⟨rfl, rfl, rfl, by decide +kernel, rfl, by decide +kernel, by decide +kernel⟩)
noncomputable def top (i : Nat) : Stmt := PySem.Challenge.pw_roundglass_k32_whole_fields.main.body.getD i (.Pass ⟨0, 0, 0, 0⟩)
noncomputable abbrev s_less : Stmt := top 16
noncomputable abbrev s_rising_once : Stmt := top 41
noncomputable abbrev s_unsigned : Stmt := top 9
noncomputable abbrev s_divisor : Stmt := top 6
noncomputable abbrev s_is_whole : Stmt := top 5
noncomputable abbrev s_ratio : Stmt := top 7
noncomputable abbrev s_times : Stmt := top 12
noncomputable abbrev s_plus : Stmt := top 10
noncomputable abbrev s_opposite : Stmt := top 8
noncomputable abbrev s_minus : Stmt := top 11
noncomputable abbrev s_over : Stmt := top 13
noncomputable abbrev s_slopes_by : Stmt := top 39
noncomputable abbrev s_slopes : Stmt := top 40
noncomputable abbrev s_is_lower : Stmt := top 32
noncomputable abbrev s_from_lowest : Stmt := top 33
noncomputable abbrev s_facing : Stmt := top 22
noncomputable abbrev s_veer : Stmt := top 24
noncomputable abbrev s_met_at : Stmt := top 30
noncomputable abbrev s_turn : Stmt := top 25
noncomputable abbrev s_next_side : Stmt := top 28
noncomputable abbrev s_juts_more : Stmt := top 26
noncomputable abbrev s_outermost : Stmt := top 27
noncomputable abbrev s_tops_over : Stmt := top 15
noncomputable abbrev s_common_bottom : Stmt := top 14
noncomputable abbrev s_sides_of : Stmt := top 23
noncomputable abbrev s_half_rim : Stmt := top 29
noncomputable abbrev s_corners : Stmt := top 34
noncomputable abbrev s_led_by_part : Stmt := top 20
noncomputable abbrev s_lines_of : Stmt := top 36
noncomputable abbrev s_seen_from : Stmt := top 38
noncomputable abbrev s_field : Stmt := top 42
noncomputable abbrev s__law_under : Stmt := top 50
noncomputable abbrev s__law_ratio : Stmt := top 46
noncomputable abbrev s__law_take : Stmt := top 48
noncomputable abbrev s__law_by : Stmt := top 49
noncomputable abbrev s__law_add : Stmt := top 47
noncomputable abbrev s__law_led : Stmt := top 54
noncomputable abbrev s__law_lines : Stmt := top 55
noncomputable abbrev s__law_over : Stmt := top 56
noncomputable abbrev s__law_cone : Stmt := top 57
noncomputable abbrev s__law_bent : Stmt := top 61
noncomputable abbrev s__law_mean : Stmt := top 59
noncomputable abbrev s__law_between : Stmt := top 60
noncomputable abbrev s__law_along : Stmt := top 58
noncomputable abbrev s__law_good : Stmt := top 62
noncomputable abbrev s__law_next : Stmt := top 45
noncomputable abbrev s__law_number : Stmt := top 51
noncomputable abbrev s__law_part : Stmt := top 52
noncomputable abbrev s__law_bench : Stmt := top 53
noncomputable abbrev s__law_pool : Stmt := top 44
noncomputable abbrev s_law : Stmt := top 63
theorem sc_less : FnScope ["one", "other"] ["one", "other"] (defScope s_less) := by walk_at "sc"
theorem sc_rising_once : FnScope ["ratios", "rising", "one", "lower"] ["ratios"] (defScope s_rising_once) := by walk_at "sc"
theorem sc_unsigned : FnScope ["one"] ["one"] (defScope s_unsigned) := by walk_at "sc"
theorem sc_divisor : FnScope ["one", "other"] ["one", "other"] (defScope s_divisor) := by walk_at "sc"
theorem sc_is_whole : FnScope ["thing"] ["thing"] (defScope s_is_whole) := by walk_at "sc"
theorem sc_ratio : FnScope ["top", "bottom", "share"] ["top", "bottom"] (defScope s_ratio) := by walk_at "sc"
theorem sc_times : FnScope ["one", "other"] ["one", "other"] (defScope s_times) := by walk_at "sc"
theorem sc_plus : FnScope ["one", "other"] ["one", "other"] (defScope s_plus) := by walk_at "sc"
theorem sc_opposite : FnScope ["one"] ["one"] (defScope s_opposite) := by walk_at "sc"
theorem sc_minus : FnScope ["one", "other"] ["one", "other"] (defScope s_minus) := by walk_at "sc"
theorem sc_over : FnScope ["one", "other"] ["one", "other"] (defScope s_over) := by walk_at "sc"
theorem sc_slopes_by : FnScope ["line", "h", "p", "q", "r", "middle", "half"] ["line", "h"] (defScope s_slopes_by) := by walk_at "sc"
theorem sc_slopes : FnScope ["lines", "h", "low", "high", "line", "p", "q", "r", "least", "greatest"] ["lines", "h"] (defScope s_slopes) := by walk_at "sc"
theorem sc_is_lower : FnScope ["one", "other"] ["one", "other"] (defScope s_is_lower) := by walk_at "sc"
theorem sc_from_lowest : FnScope ["rays", "place", "number", "ray"] ["rays"] (defScope s_from_lowest) := by walk_at "sc"
theorem sc_facing : FnScope ["side", "p", "q", "r", "number", "scale"] ["side"] (defScope s_facing) := by walk_at "sc"
theorem sc_veer : FnScope ["one", "other"] ["one", "other"] (defScope s_veer) := by walk_at "sc"
theorem sc_met_at : FnScope ["one", "other", "bottom", "y", "u"] ["one", "other"] (defScope s_met_at) := by walk_at "sc"
theorem sc_turn : FnScope ["one", "other", "third"] ["one", "other", "third"] (defScope s_turn) := by walk_at "sc"
theorem sc_next_side : FnScope ["sides", "here", "found", "side", "bend"] ["sides", "here"] (defScope s_next_side) := by walk_at "sc"
theorem sc_juts_more : FnScope ["one", "other", "more"] ["one", "other"] (defScope s_juts_more) := by walk_at "sc"
theorem sc_outermost : FnScope ["sides", "found", "side"] ["sides"] (defScope s_outermost) := by walk_at "sc"
theorem sc_tops_over : FnScope ["ratios", "bottom"] ["ratios", "bottom"] (defScope s_tops_over) := by walk_at "sc"
theorem sc_common_bottom : FnScope ["ratios", "bottom", "one"] ["ratios"] (defScope s_common_bottom) := by walk_at "sc"
theorem sc_sides_of : FnScope ["lines", "sides", "number", "line", "scale", "p", "q", "r", "side"] ["lines"] (defScope s_sides_of) := by walk_at "sc"
theorem sc_half_rim : FnScope ["lines", "sides", "half", "here"] ["lines"] (defScope s_half_rim) := by walk_at "sc"
theorem sc_corners : FnScope ["lines", "half", "rays"] ["lines"] (defScope s_corners) := by walk_at "sc"
theorem sc_led_by_part : FnScope ["part", "ray", "word", "number", "y", "u"] ["part", "ray"] (defScope s_led_by_part) := by walk_at "sc"
theorem sc_lines_of : FnScope ["bench", "lines", "level", "axis", "part"] ["bench"] (defScope s_lines_of) := by walk_at "sc"
theorem sc_seen_from : FnScope ["bench", "x"] ["bench", "x"] (defScope s_seen_from) := by walk_at "sc"
theorem sc_field : FnScope ["bench", "x", "lines", "rays", "told", "h", "low", "high"] ["bench", "x"] (defScope s_field) := by walk_at "sc"
theorem sc__law_under : FnScope ["one", "other"] ["one", "other"] (defScope s__law_under) := by walk_at "sc"
theorem sc__law_ratio : FnScope ["top", "bottom", "one", "other"] ["top", "bottom"] (defScope s__law_ratio) := by walk_at "sc"
theorem sc__law_take : FnScope ["one", "other"] ["one", "other"] (defScope s__law_take) := by walk_at "sc"
theorem sc__law_by : FnScope ["one", "other"] ["one", "other"] (defScope s__law_by) := by walk_at "sc"
theorem sc__law_add : FnScope ["one", "other"] ["one", "other"] (defScope s__law_add) := by walk_at "sc"
theorem sc__law_led : FnScope ["part", "ray", "y", "u"] ["part", "ray"] (defScope s__law_led) := by walk_at "sc"
theorem sc__law_lines : FnScope ["bench", "one", "other", "found", "k", "part"] ["bench"] (defScope s__law_lines) := by walk_at "sc"
theorem sc__law_over : FnScope ["one", "other"] ["one", "other"] (defScope s__law_over) := by walk_at "sc"
theorem sc__law_cone : FnScope ["bench", "x", "h", "low", "high", "k", "p", "q", "r", "slope", "at", "one", "other"] ["bench", "x", "h"] (defScope s__law_cone) := by walk_at "sc"
theorem sc__law_bent : FnScope ["one", "two", "three", "k", "first", "second"] ["one", "two", "three"] (defScope s__law_bent) := by walk_at "sc"
theorem sc__law_mean : FnScope ["one", "other"] ["one", "other"] (defScope s__law_mean) := by walk_at "sc"
theorem sc__law_between : FnScope ["bench", "x", "one", "other", "due"] ["bench", "x", "one", "other"] (defScope s__law_between) := by walk_at "sc"
theorem sc__law_along : FnScope ["seen", "a", "b"] ["seen"] (defScope s__law_along) := by walk_at "sc"
theorem sc__law_good : FnScope ["bench", "handed", "x", "found", "seen", "k", "row", "end", "beyond", "kept"] ["bench", "handed", "x"] (defScope s__law_good) := by walk_at "sc"
theorem sc__law_next : FnScope ["pool", "base", "digit", "near", "stir"] ["pool", "base"] (defScope s__law_next) := by walk_at "sc"
theorem sc__law_number : FnScope ["pool", "pick", "top"] ["pool"] (defScope s__law_number) := by walk_at "sc"
theorem sc__law_part : FnScope ["pool", "words", "word", "top", "bottom"] ["pool", "words"] (defScope s__law_part) := by walk_at "sc"
theorem sc__law_bench : FnScope ["pool", "count", "words"] ["pool", "count", "words"] (defScope s__law_bench) := by walk_at "sc"
theorem sc__law_pool : FnScope ["cell"] ["cell"] (defScope s__law_pool) := by walk_at "sc"
theorem sc_law : FnScope ["script", "cell", "pool", "bench", "handed"] ["script"] (defScope s_law) := by walk_at "sc"
structure Txt (K : PySem.W.Frag) (mg : Str → Option Value) : Prop where
  b_abs : mg "abs" = none
  b_bool : mg "bool" = none
  b_enumerate : mg "enumerate" = none
  b_int : mg "int" = none
  b_isinstance : mg "isinstance" = none
  b_len : mg "len" = none
  b_list : mg "list" = none
  b_max : mg "max" = none
  b_range : mg "range" = none
  b_tuple : mg "tuple" = none
  b_zip : mg "zip" = none
  sub : SubOk K
  c_AXIS_RAY : GlD K mg "AXIS_RAY" (.tup [(.tup [(.int 0), (.int 1)]), (.tup [(.int 1), (.int 1)])])
  c_LEVEL_RAY : GlD K mg "LEVEL_RAY" (.tup [(.tup [(.int 1), (.int 1)]), (.tup [(.int 0), (.int 1)])])
  c_NOUGHT : GlD K mg "NOUGHT" (.tup [(.int 0), (.int 1)])
section
variable {P : Program} {w : World} {K : PySem.W.Frag} {mg : Str → Option Value} {base : Heap}
theorem ok_less (T : Txt K mg) (d : Df K mg "less" s_less ["one", "other"]) : Fn P w K mg base "less" 1 ["one", "other"] spLess := by
  have sc := sc_less
  refine fn_by d sc (fun ds M R Y h => ?_) (fun f cdv A outer s H E ds M R Y hr h => ?_)
  · obtain ⟨q, r, rfl, _⟩ := h; rfl
  · obtain ⟨q, r, rfl, hz, k⟩ := h
    refine ⟨_, (jds_one (jds_ret (jm o_lt (jd_op o_mul (jx (jd_var 0) jd_int) (jx (jd_var 1) jd_int)) (jd_op o_mul (jx (jd_var 1) jd_int) (jx (jd_var 0) jd_int))))), ?_⟩
    refine ⟨_, rfl, _, rfl, _, rfl, _, rfl, _, _, rfl, rfl, mND hz, _, rfl, _, rfl, _, rfl, _, rfl, _, _, rfl, rfl, mND (by omega), _, rfl, ?_⟩
    rw [← RM.lt_eq] at k
    exact k

theorem ok_rising_once (T : Txt K mg) (d : Df K mg "rising_once" s_rising_once ["ratios"]) (G_less : Fn P w K mg base "less" 1 ["one", "other"] spLess) : Fn P w K mg base "rising_once" 2 ["ratios"] sRising := by
  have sc := sc_rising_once
  refine fn_by d sc (by walk_at "len") (fun f cdv A outer s H E ds M R Y hr h => ?_)
  have hu := hr.units
  obtain ⟨qs, rfl, ⟨hl, hz⟩, k⟩ := h
  refine ⟨_, (jds_cons (jst 1 sc.nd (jd_lstV jda_nil)) (jds_cons (jds_forI PassesOwn.never rfl (jpd_seq (jd_var 0)) (jn 2 sc.nd) (jds_cons (jds_setCompV (i := 3) [2] ["other"] ["one"] sc.nd rfl (Or.inl rfl) rfl (by decide +kernel) rfl (by decide +kernel) (by decide +kernel) rfl (all1 ⟨rfl, rfl⟩) (all1 (Or.inl rfl)) (jpd_seq (jd_var 1)) (fun _ _ _ _ _ _ => (jn 0 (show (["other", "one"] : List Str).Nodup by decide +kernel))) (fun _ _ _ _ _ _ => (jdifs_one (jd_tval (jc G_less hr (jda_cons (jd_var 0) (jda_cons (jd_var 1) jda_nil)))))) (fun _ _ _ _ _ _ => (jd_var 0))) (jds_one (jds_if (jtm (o_notinC hu) (jd_var 2) (jd_var 1)) (jds_one (jst 1 sc.nd (jd_catV (jd_catV (jd_var 3) (jd_lstV (jda_cons (jd_var 2) jda_nil))) (jd_sliceV (jd_var 1) (jdpo_some (jd_blt c_len rfl T.b_len bt_len (jda_cons (jd_var 3) jda_nil))) jdpo_none)))) jds_nil)))) (jds_one (jds_ret (jd_var 1))))), ?_⟩
  walk_at "sim"
  refine ForK.by (fun i e M' => M' = M ∧ ∃ z2 z3 : Option D, e = [some (.vl (qs.map ratD)), some (.vl ((risF (qs.take i)).map ratD)), z2, z3]) ⟨rfl, _, _, rfl⟩ (fun i e M' _ _ => by simp only [seqD_vl]) ?_ ?_
  · rintro i dd e M' hd ⟨rfl, z2, z3, rfl⟩
    rw [List.getElem?_map] at hd
    cases hq : qs[i]? with
    | none => rw [hq] at hd; cases hd
    | some q =>
      rw [hq] at hd
      obtain rfl := Option.some.inj hd
      have e1 : risF (qs.take (i + 1)) = insQ (risF (qs.take i)) q := by
        unfold risF
        rw [List.take_add_one, hq, List.foldl_append]; rfl
      have hi := (List.getElem?_eq_some_iff.mp hq).1
      obtain ⟨rs, rm⟩ := risF_ok (qs.take i)
      have hzr : ∀ y ∈ risF (qs.take i), sz y ≤ 2402 := fun y hy => hz y (List.mem_of_mem_take ((rm y).mp hy))
      have hlr : (risF (qs.take i)).length ≤ i := by
        have := risF_len (qs.take i)
        rw [List.length_take] at this
        omega
      have hqz := hz q (List.mem_of_getElem? hq)
      rw [e1]
      unfold insQ
      generalize risF (qs.take i) = xs at *
      walk_at "sim"
      refine compV_filter (xs := xs) (enc := ratD) (fun y => decide (y < q)) ratD (by omega) (by simp only [seqD_vl]) (fun y hy Q N h1 h2 => ?_) ?_
      · have := hzr y hy
        walk_at "sim"
        exact ⟨by omega, fun z => h1 (decide_eq_true z), fun z => h2 (decide_eq_false z)⟩
      · walk_at "sim"
        have fl := List.length_filter_le (fun y => decide (y < q)) xs
        have s1 : ((xs.filter fun y => decide (y < q)).map ratD).length + 1 ≤ sizeLine := by
          rw [List.length_map]; exact Nat.le_trans (by omega : _ + 1 ≤ 1000) (by decide)
        refine ⟨clL_rats xs, fun hn => ⟨s1, ?_, some (ratD q), some (.vl ((xs.filter fun y => decide (y < q)).map ratD)), ?_⟩, fun hin => ⟨some (ratD q), some (.vl ((xs.filter fun y => decide (y < q)).map ratD)), ?_⟩⟩
        · rw [cut_frm, List.length_append, List.length_drop, List.length_map, List.length_map]
          exact Nat.le_trans (by show _ + 1 + _ ≤ 1000; omega) (by decide)
        · rw [if_neg (fun z => hn (rat_in.mpr z)), cut_frm, List.length_map, ← List.map_drop, List.map_append, List.map_append]
          rfl
        · rw [if_pos (rat_in.mp hin)]
  · rintro e M' ⟨rfl, z2, z3, rfl⟩
    walk_at "sim"
    rw [List.length_map, List.take_length]
    exact k
theorem ok_unsigned (T : Txt K mg) (d : Df K mg "unsigned" s_unsigned ["one"])  : Fn P w K mg base "unsigned" 1 ["one"] spAbs := by
  have sc := sc_unsigned
  refine fn_by d sc (by walk_at "len") (fun f cdv A outer s H E ds M R Y hr h => ?_)
  have hu := hr.units
  obtain ⟨q, rfl, k⟩ := h
  refine ⟨_, (jds_one (jds_ret (jd_tup (jda_cons (jd_blt c_abs rfl T.b_abs bt_abs (jda_cons (jx (jd_var 0) jd_int) jda_nil)) (jda_cons (jx (jd_var 0) jd_int) jda_nil))))), ?_⟩
  walk_at "sim"
  exact k
theorem ok_divisor (T : Txt K mg) (d : Df K mg "divisor" s_divisor ["one", "other"]) : Fn P w K mg base "divisor" 1 ["one", "other"] spDivisor := by
  have sc := sc_divisor
  refine fn_by d sc (fun ds M R Y h => ?_) (fun f cdv A outer s H E ds M R Y hr h => ?_)
  · obtain ⟨a, b, rfl, _⟩ := h; rfl
  · obtain ⟨a, b, rfl, k⟩ := h
    refine ⟨_, (jds_cons (jds_while PassesOwn.never (jtm o_neI (jd_var 1) jd_int) (jds_one (jds_par (i := 0) (j := 1) rfl sc.nd rfl rfl (by decide) rfl rfl (jda_cons (jd_var 1) (jda_cons (jd_op o_mod (jd_var 0) (jd_var 1)) jda_nil))))) (jds_one (jds_ret (jd_var 0)))), ?_⟩
    refine ⟨fun m e M' => M' = M ∧ ∃ u : Nat, e = [some (.int (u : Int)), some (.int (m : Int))] ∧ Nat.gcd u m = Nat.gcd a b, ⟨b, rfl, a, rfl, rfl⟩, ?_⟩
    rintro v e M' ⟨rfl, u, rfl, hg⟩
    refine ⟨_, rfl, _, rfl, _, rfl, ?_⟩
    refine iteND (fun h0 => ?_) (fun h0 => ?_)
    · have hv : 0 < v := by omega
      refine ⟨_, rfl, _, rfl, _, rfl, _, _, rfl, rfl, by omega, _, _, rfl, ?_⟩
      exact ⟨u % v, Nat.mod_lt _ hv, rfl, v, rfl, by rw [← RM.gcd_step u v (by omega)]; exact hg⟩
    · have hv : v = 0 := by omega
      subst hv
      rw [Nat.gcd_zero_right] at hg
      subst hg
      exact ⟨_, rfl, k⟩
theorem ok_is_whole (T : Txt K mg) (d : Df K mg "is_whole" s_is_whole ["thing"]) : Fn P w K mg base "is_whole" 1 ["thing"] spWhole := by
  have sc := sc_is_whole
  refine fn_by d sc (fun ds M R Y h => ?_) (fun f cdv A outer s H E ds M R Y hr h => ?_)
  · obtain ⟨n, rfl, _⟩ := h; rfl
  · obtain ⟨n, rfl, k⟩ := h
    refine ⟨_, (jds_one (jds_ret (jd_vand (jd_blt (c_isi T.sub) rfl T.b_isinstance bt_isinstance (jda_cons (jd_var 0) (jda_cons (jd_ty rfl T.b_int bt_int) jda_nil))) (jd_vone (jd_vnot (jd_blt (c_isi T.sub) rfl T.b_isinstance bt_isinstance (jda_cons (jd_var 0) (jda_cons (jd_ty rfl T.b_bool bt_bool) jda_nil)))))))), ?_⟩
    refine ⟨_, rfl, _, _, _, _, rfl, rfl, rfl, _, rfl, ?_⟩
    refine iteT ?_
    exact ⟨_, rfl, _, _, _, _, rfl, rfl, rfl, _, rfl, k⟩
theorem ok_ratio (T : Txt K mg) (d : Df K mg "ratio" s_ratio ["top", "bottom"]) (G_is_whole : Fn P w K mg base "is_whole" 1 ["thing"] spWhole) (G_divisor : Fn P w K mg base "divisor" 1 ["one", "other"] spDivisor) : Fn P w K mg base "ratio" 2 ["top", "bottom"] spLow := by
  have sc := sc_ratio
  refine fn_by d sc (fun ds M R Y h => ?_) (fun f cdv A outer s H E ds M R Y hr h => ?_)
  · obtain ⟨p, b, rfl, _⟩ := h; rfl
  · obtain ⟨a, b, rfl, hb, hl, k⟩ := h
    refine ⟨_, (jds_cons (jds_if (jd_tw (jd_or (jd_not (jd_tval (jc G_is_whole hr (jda_cons (jd_var 0) jda_nil)))) (jd_or (jd_not (jd_tval (jc G_is_whole hr (jda_cons (jd_var 1) jda_nil)))) (jd_or1 (jtm o_eqI (jd_var 1) jd_int))))) (jds_one jds_never) jds_nil) (jds_cons (jst 2 sc.nd (jc G_divisor hr (jda_cons (jd_blt c_abs rfl T.b_abs bt_abs (jda_cons (jd_var 0) jda_nil)) (jda_cons (jd_blt c_abs rfl T.b_abs bt_abs (jda_cons (jd_var 1) jda_nil)) jda_nil)))) (jds_cons (jds_if (jtm o_lt (jd_var 1) jd_int) (jds_one (jst 2 sc.nd (jd_neg (jd_var 2)))) jds_nil) (jds_one (jds_ret (jd_tup (jda_cons (jd_op o_fdiv (jd_var 0) (jd_var 2)) (jda_cons (jd_op o_fdiv (jd_var 1) (jd_var 2)) jda_nil)))))))), ?_⟩
    refine ⟨_, rfl, _, rfl, true, rfl, ?_⟩
    refine iteF ?_
    refine ⟨_, rfl, _, rfl, true, rfl, ?_⟩
    refine iteF ?_
    refine ⟨_, rfl, _, rfl, _, rfl, ?_⟩
    refine iteD (fun h => absurd h hb) (fun _ => ?_)
    refine ⟨_, rfl, _, rfl, _, rfl, _, rfl, a.natAbs, b.natAbs, rfl, ?_⟩
    have hn := gcd_ne (a := a) hb
    have hlg := gcd_log (a := a) hb hl
    refine ⟨_, rfl, _, rfl, _, rfl, ?_⟩
    refine iteD (fun h1 => ?_) (fun h1 => ?_)
    · have c1 : ∀ i : Int, CFd i (-((Nat.gcd a.natAbs b.natAbs : Nat) : Int)) := fun i => ⟨by omega, by rw [Int.natAbs_neg]; exact hlg⟩
      refine ⟨_, rfl, _, rfl, _, rfl, _, rfl, _, _, rfl, rfl, c1 _, _, rfl, _, rfl, _, _, rfl, rfl, c1 _, sl 2, ?_⟩
      exact low_fin hb (by rw [if_pos h1]) k
    · have c1 : ∀ i : Int, CFd i ((Nat.gcd a.natAbs b.natAbs : Nat) : Int) := fun i => ⟨hn, hlg⟩
      refine ⟨_, rfl, _, rfl, _, _, rfl, rfl, c1 _, _, rfl, _, rfl, _, _, rfl, rfl, c1 _, sl 2, ?_⟩
      exact low_fin hb (by rw [if_neg h1]) k
theorem ok_times (T : Txt K mg) (d : Df K mg "times" s_times ["one", "other"]) (G_ratio : Fn P w K mg base "ratio" 2 ["top", "bottom"] spLow) : Fn P w K mg base "times" 3 ["one", "other"] spTimes := by
  have sc := sc_times
  refine fn_by d sc (fun ds M R Y h => ?_) (fun f cdv A outer s H E ds M R Y hr h => ?_)
  · obtain ⟨q, r, rfl, _⟩ := h; rfl
  · obtain ⟨q, r, rfl, hz, k⟩ := h
    refine ⟨_, (jds_one (jds_ret (jc G_ratio hr (jda_cons (jd_op o_mul (jx (jd_var 0) jd_int) (jx (jd_var 1) jd_int)) (jda_cons (jd_op o_mul (jx (jd_var 0) jd_int) (jx (jd_var 1) jd_int)) jda_nil))))), ?_⟩
    refine ⟨_, rfl, _, rfl, _, rfl, _, rfl, _, _, rfl, rfl, mNN hz, _, rfl, _, rfl, _, rfl, _, rfl, _, _, rfl, rfl, mDD hz, _, _, rfl, Int.mul_ne_zero (RM.den_ne q) (RM.den_ne r), lDD hz, ?_⟩
    rw [RM.mul_eq] at k
    exact k
theorem ok_plus (T : Txt K mg) (d : Df K mg "plus" s_plus ["one", "other"]) (G_ratio : Fn P w K mg base "ratio" 2 ["top", "bottom"] spLow) : Fn P w K mg base "plus" 3 ["one", "other"] spPlus := by
  have sc := sc_plus
  refine fn_by d sc (fun ds M R Y h => ?_) (fun f cdv A outer s H E ds M R Y hr h => ?_)
  · obtain ⟨q, r, rfl, _⟩ := h; rfl
  · obtain ⟨q, r, rfl, hz, k⟩ := h
    refine ⟨_, (jds_one (jds_ret (jc G_ratio hr (jda_cons (jd_op o_add (jd_op o_mul (jx (jd_var 0) jd_int) (jx (jd_var 1) jd_int)) (jd_op o_mul (jx (jd_var 1) jd_int) (jx (jd_var 0) jd_int))) (jda_cons (jd_op o_mul (jx (jd_var 0) jd_int) (jx (jd_var 1) jd_int)) jda_nil))))), ?_⟩
    refine ⟨_, rfl, _, rfl, _, rfl, _, rfl, _, _, rfl, rfl, mND hz, _, rfl, _, rfl, _, rfl, _, rfl, _, _, rfl, rfl, mND (by omega), _, rfl, _, rfl, _, rfl, _, rfl, _, rfl, _, _, rfl, rfl, mDD hz, _, _, rfl, Int.mul_ne_zero (RM.den_ne q) (RM.den_ne r), lDD hz, ?_⟩
    rw [RM.add_eq] at k
    exact k
theorem ok_opposite (T : Txt K mg) (d : Df K mg "opposite" s_opposite ["one"]) : Fn P w K mg base "opposite" 1 ["one"] spOpp := by
  have sc := sc_opposite
  refine fn_by d sc (fun ds M R Y h => ?_) (fun f cdv A outer s H E ds M R Y hr h => ?_)
  · obtain ⟨q, rfl, _⟩ := h; rfl
  · obtain ⟨q, rfl, k⟩ := h
    refine ⟨_, (jds_one (jds_ret (jd_tup (jda_cons (jd_neg (jx (jd_var 0) jd_int)) (jda_cons (jx (jd_var 0) jd_int) jda_nil))))), ?_⟩
    refine ⟨_, rfl, _, rfl, _, rfl, _, rfl, _, rfl, sl 2, ?_⟩
    have e : ratD (-q) = .tup [.int (-q.num), .int (q.den : Int)] := by unfold ratD; rw [Rat.neg_num, Rat.neg_den]
    rw [e] at k
    exact k
theorem ok_minus (T : Txt K mg) (d : Df K mg "minus" s_minus ["one", "other"]) (G_plus : Fn P w K mg base "plus" 3 ["one", "other"] spPlus) (G_opposite : Fn P w K mg base "opposite" 1 ["one"] spOpp) : Fn P w K mg base "minus" 4 ["one", "other"] spMinus := by
  have sc := sc_minus
  refine fn_by d sc (fun ds M R Y h => ?_) (fun f cdv A outer s H E ds M R Y hr h => ?_)
  · obtain ⟨q, r, rfl, _⟩ := h; rfl
  · obtain ⟨q, r, rfl, hz, k⟩ := h
    refine ⟨_, (jds_one (jds_ret (jc G_plus hr (jda_cons (jd_var 0) (jda_cons (jc G_opposite hr (jda_cons (jd_var 1) jda_nil)) jda_nil))))), ?_⟩
    refine ⟨_, rfl, _, rfl, r, rfl, q, -r, rfl, by rw [RM.sz_neg]; exact hz, ?_⟩
    rw [Rat.sub_eq_add_neg] at k
    exact k
theorem ok_over (T : Txt K mg) (d : Df K mg "over" s_over ["one", "other"]) (G_ratio : Fn P w K mg base "ratio" 2 ["top", "bottom"] spLow) : Fn P w K mg base "over" 3 ["one", "other"] spOver := by
  have sc := sc_over
  refine fn_by d sc (fun ds M R Y h => ?_) (fun f cdv A outer s H E ds M R Y hr h => ?_)
  · obtain ⟨q, r, rfl, _⟩ := h; rfl
  · obtain ⟨q, r, rfl, h0, hz, k⟩ := h
    refine ⟨_, (jds_one (jds_ret (jc G_ratio hr (jda_cons (jd_op o_mul (jx (jd_var 0) jd_int) (jx (jd_var 1) jd_int)) (jda_cons (jd_op o_mul (jx (jd_var 0) jd_int) (jx (jd_var 1) jd_int)) jda_nil))))), ?_⟩
    refine ⟨_, rfl, _, rfl, _, rfl, _, rfl, _, _, rfl, rfl, mND hz, _, rfl, _, rfl, _, rfl, _, rfl, _, _, rfl, rfl, mDN hz, _, _, rfl, Int.mul_ne_zero (RM.den_ne q) (num_ne h0), lDN hz, ?_⟩
    rw [RM.div_eq] at k
    exact k
theorem ok_slopes_by (T : Txt K mg) (d : Df K mg "slopes_by" s_slopes_by ["line", "h"]) (G_plus : Fn P w K mg base "plus" 3 ["one", "other"] spPlus) (G_minus : Fn P w K mg base "minus" 4 ["one", "other"] spMinus) (G_unsigned : Fn P w K mg base "unsigned" 1 ["one"] spAbs) (G_over : Fn P w K mg base "over" 3 ["one", "other"] spOver) (G_opposite : Fn P w K mg base "opposite" 1 ["one"] spOpp) (G_times : Fn P w K mg base "times" 3 ["one", "other"] spTimes) : Fn P w K mg base "slopes_by" 5 ["line", "h"] sSlopesByW := by
  have sc := sc_slopes_by
  refine fn_by d sc (by walk_at "len") (fun f cdv A outer s H E ds M R Y hr h => ?_)
  have hu := hr.units
  obtain ⟨l, g, rfl, ⟨⟨h1, h2, h3⟩, hn, hh⟩, k⟩ := h
  refine ⟨_, (jds_cons (jds_asg (jd_var 0) (jdg_tup (n := 3) rfl (jdgs_cons (jn 2 sc.nd) (jdgs_cons (jn 3 sc.nd) (jdgs_cons (jn 4 sc.nd) jdgs_nil))))) (jds_cons (jst 5 sc.nd (jc G_opposite hr (jda_cons (jc G_over hr (jda_cons (jc G_times hr (jda_cons (jd_var 2) (jda_cons (jd_var 1) jda_nil))) (jda_cons (jd_var 3) jda_nil))) jda_nil))) (jds_cons (jst 6 sc.nd (jc G_unsigned hr (jda_cons (jc G_over hr (jda_cons (jd_var 4) (jda_cons (jd_var 3) jda_nil))) jda_nil))) (jds_one (jds_ret (jd_tup (jda_cons (jc G_minus hr (jda_cons (jd_var 5) (jda_cons (jd_var 6) jda_nil))) (jda_cons (jc G_plus hr (jda_cons (jd_var 5) (jda_cons (jd_var 6) jda_nil))) jda_nil)))))))), ?_⟩
  walk_at "sim"
  have m1 := RM.sz_mul l.1 g
  have m2 := RM.sz_div (l.1 * g) l.2.1 hn
  have m3 := RM.sz_neg (l.1 * g / l.2.1)
  have m4 := RM.sz_div l.2.2 l.2.1 hn
  have m5 := sz_abs (l.2.2 / l.2.1)
  exact ⟨by omega, hn, by omega, hn, by omega, by omega, by omega, k⟩
theorem ok_slopes (T : Txt K mg) (d : Df K mg "slopes" s_slopes ["lines", "h"]) (G_less : Fn P w K mg base "less" 1 ["one", "other"] spLess) (G_unsigned : Fn P w K mg base "unsigned" 1 ["one"] spAbs) (G_times : Fn P w K mg base "times" 3 ["one", "other"] spTimes) (G_slopes_by : Fn P w K mg base "slopes_by" 5 ["line", "h"] sSlopesByW) : Fn P w K mg base "slopes" 6 ["lines", "h"] sSlopesW := by
  have sc := sc_slopes
  refine fn_by d sc (by walk_at "len") (fun f cdv A outer s H E ds M R Y hr h => ?_)
  have hu := hr.units
  obtain ⟨ls, g, rfl, ⟨hl, hz, hg⟩, k⟩ := h
  refine ⟨_, (jds_cons (jst 2 sc.nd jd_non) (jds_cons (jst 3 sc.nd jd_non) (jds_cons (jds_forI PassesOwn.never rfl (jpd_seq (jd_var 0)) (jn 4 sc.nd) (jds_cons (jds_asg (jd_var 4) (jdg_tup (n := 3) rfl (jdgs_cons (jn 5 sc.nd) (jdgs_cons (jn 6 sc.nd) (jdgs_cons (jn 7 sc.nd) jdgs_nil))))) (jds_one (jds_if (jtm (o_eqC hu) (jd_var 6) (jd_globD rfl T.c_NOUGHT)) (jds_one (jds_if (jd_tval (jc G_less hr (jda_cons (jd_var 7) (jda_cons (jc G_unsigned hr (jda_cons (jc G_times hr (jda_cons (jd_var 5) (jda_cons (jd_var 1) jda_nil))) jda_nil)) jda_nil)))) (jds_one (jds_ret jd_non)) jds_nil)) (jds_cons (jds_asg (jc G_slopes_by hr (jda_cons (jd_var 4) (jda_cons (jd_var 1) jda_nil))) (jdg_tup (n := 2) rfl (jdgs_cons (jn 8 sc.nd) (jdgs_cons (jn 9 sc.nd) jdgs_nil)))) (jds_cons (jds_if (jd_tw (jd_or (jtm o_is (jd_var 2) jd_non) (jd_or1 (jd_tval (jc G_less hr (jda_cons (jd_var 2) (jda_cons (jd_var 8) jda_nil))))))) (jds_one (jst 2 sc.nd (jd_var 8))) jds_nil) (jds_one (jds_if (jd_tw (jd_or (jtm o_is (jd_var 3) jd_non) (jd_or1 (jd_tval (jc G_less hr (jda_cons (jd_var 9) (jda_cons (jd_var 3) jda_nil))))))) (jds_one (jst 3 sc.nd (jd_var 9))) jds_nil)))))))) (jds_cons (jds_if (jd_tw (jd_and (jtm o_isnot (jd_var 2) jd_non) (jd_and1 (jd_tval (jc G_less hr (jda_cons (jd_var 3) (jda_cons (jd_var 2) jda_nil))))))) (jds_one (jds_ret jd_non)) jds_nil) (jds_one (jds_ret (jd_tup (jda_cons (jd_var 2) (jda_cons (jd_var 3) jda_nil))))))))), ?_⟩
  walk_at "sim"
  refine ForK.by (fun i e M' => M' = M ∧ ∃ (st : Option (Rat × Rat)) (z4 z5 z6 z7 z8 z9 : Option D), e = [some (D.vl (List.map lineD ls)), some (ratD g), some (optD (st.map (·.1))), some (optD (st.map (·.2))), z4, z5, z6, z7, z8, z9] ∧ coneL g (ls.drop i) st = coneL g ls none ∧ ∀ a b, st = some (a, b) → sz a ≤ 4100 ∧ sz b ≤ 4100) ⟨rfl, none, _, _, _, _, _, _, rfl, rfl, fun a b h => nomatch h⟩ (fun i e M' _ _ => by simp only [seqD_vl]) ?_ ?_
  · rintro i dd e M' hd ⟨rfl, st, z4, z5, z6, z7, z8, z9, rfl, hc, hs⟩
    obtain ⟨l, hli, rfl⟩ := line_item hd
    have hm := List.mem_of_getElem? hli
    have hle := hz l hm
    obtain ⟨q1, q2, q3⟩ := hz l hm
    have hi := (List.getElem?_eq_some_iff.mp hli).1
    have hdrop : ls.drop i = l :: ls.drop (i + 1) := by
      rw [List.drop_eq_getElem_cons hi, (List.getElem?_eq_some_iff.mp hli).2]
    rw [hdrop] at hc
    rw [coneL_cons] at hc
    have m0 := RM.sz_mul l.1 g
    have m1 := sz_abs (l.1 * g)
    walk_at "sim"
    refine ⟨fun hq0 => ?_, fun hq0 => ?_⟩
    · rw [if_pos hq0] at hc
      refine ⟨by omega, by omega, fun h => ?_, fun h => ?_⟩
      · rw [if_pos h] at hc
        rw [← hc] at k
        exact k
      · rw [if_neg h] at hc
        exact ⟨st, _, _, _, _, _, _, rfl, hc, hs⟩
    · rw [if_neg hq0] at hc
      refine ⟨⟨hle, hq0, hg⟩, ?_⟩
      have m2 := RM.sz_div (l.1 * g) l.2.1 hq0
      have m3 := RM.sz_neg (l.1 * g / l.2.1)
      have m4 := RM.sz_div l.2.2 l.2.1 hq0
      have m5 := sz_abs (l.2.2 / l.2.1)
      have m6 : sz (midS l g - halfS l) ≤ 4100 := by
        have := RM.sz_sub (midS l g) (halfS l)
        unfold midS halfS at *
        omega
      have m7 : sz (midS l g + halfS l) ≤ 4100 := by
        have := RM.sz_add (midS l g) (halfS l)
        unfold midS halfS at *
        omega
      generalize midS l g - halfS l = lo at *
      generalize midS l g + halfS l = up at *
      rcases st with _ | ⟨a, b⟩
      · simp only [Option.map_none, optD, isNN]
        walk_at "sim"
        exact ⟨some (lo, up), _, _, _, _, _, _, rfl, hc, fun a b e => by cases e; exact ⟨m6, m7⟩⟩
      · obtain ⟨ha, hb⟩ := hs a b rfl
        replace hc : coneL g (ls.drop (i + 1)) (some (if a < lo then lo else a, if up < b then up else b)) = coneL g ls none := hc
        simp only [Option.map_some, optD, isRN]
        walk_at "sim"
        refine ⟨by omega, fun h1 => ?_, fun h1 => ?_⟩
        · rw [if_pos h1] at hc
          refine ⟨by omega, fun h2 => ?_, fun h2 => ?_⟩
          · rw [if_pos h2] at hc
            exact ⟨some (lo, up), _, _, _, _, _, _, rfl, hc, fun a b e => by cases e; exact ⟨m6, m7⟩⟩
          · rw [if_neg h2] at hc
            exact ⟨some (lo, b), _, _, _, _, _, _, rfl, hc, fun a b e => by cases e; exact ⟨m6, hb⟩⟩
        · rw [if_neg h1] at hc
          refine ⟨by omega, fun h2 => ?_, fun h2 => ?_⟩
          · rw [if_pos h2] at hc
            exact ⟨some (a, up), _, _, _, _, _, _, rfl, hc, fun a b e => by cases e; exact ⟨ha, m7⟩⟩
          · rw [if_neg h2] at hc
            exact ⟨some (a, b), _, _, _, _, _, _, rfl, hc, fun a b e => by cases e; exact ⟨ha, hb⟩⟩
  · rw [List.length_map]
    rintro e M' ⟨rfl, st, z4, z5, z6, z7, z8, z9, rfl, hc, hs⟩
    rw [List.drop_length, coneL_nil] at hc
    rw [← hc] at k
    rcases st with _ | ⟨a, b⟩
    · simp only [Option.map_none, optD]
      walk_at "sim"
      simp only [isNN]
      walk_at "sim"
      exact k
    · obtain ⟨ha, hb⟩ := hs a b rfl
      simp only [Option.map_some, optD]
      walk_at "sim"
      simp only [isRN]
      walk_at "sim"
      replace k : R (if b < a then D.non else D.tup [ratD a, ratD b]) M' := k
      refine ⟨by omega, fun h => ?_, fun h => ?_⟩
      · rw [if_pos h] at k; exact k
      · rw [if_neg h] at k; exact k
theorem ok_is_lower (T : Txt K mg) (d : Df K mg "is_lower" s_is_lower ["one", "other"]) (G_less : Fn P w K mg base "less" 1 ["one", "other"] spLess) : Fn P w K mg base "is_lower" 2 ["one", "other"] sLower := by
  have sc := sc_is_lower
  refine fn_by d sc (by walk_at "len") (fun f cdv A outer s H E ds M R Y hr h => ?_)
  have hu := hr.units
  obtain ⟨a, b, rfl, ⟨ha, hb⟩, k⟩ := h
  refine ⟨_, (jds_cons (jds_if (jtm (o_neC hu) (jx (jd_var 0) jd_int) (jx (jd_var 1) jd_int)) (jds_one (jds_ret (jc G_less hr (jda_cons (jx (jd_var 0) jd_int) (jda_cons (jx (jd_var 1) jd_int) jda_nil))))) jds_nil) (jds_one (jds_ret (jc G_less hr (jda_cons (jx (jd_var 0) jd_int) (jda_cons (jx (jd_var 1) jd_int) jda_nil)))))), ?_⟩
  walk_at "sim"
  unfold lowB at k
  obtain ⟨a1, a2⟩ := ha
  obtain ⟨b1, b2⟩ := hb
  refine ⟨fun z => ⟨by omega, ?_⟩, fun z => ⟨by omega, ?_⟩⟩
  · rw [if_neg z] at k; exact k
  · rw [if_pos z] at k; exact k
theorem ok_from_lowest (T : Txt K mg) (d : Df K mg "from_lowest" s_from_lowest ["rays"]) (G_is_lower : Fn P w K mg base "is_lower" 2 ["one", "other"] sLower) : Fn P w K mg base "from_lowest" 3 ["rays"] sFromL := by
  have sc := sc_from_lowest
  refine fn_by d sc (by walk_at "len") (fun f cdv A outer s H E ds M R Y hr h => ?_)
  have hu := hr.units
  obtain ⟨rs, rfl, ⟨hne, hl, hz⟩, k⟩ := h
  refine ⟨_, (jds_cons (jst 1 sc.nd jd_int) (jds_cons (jds_forI PassesOwn.never rfl (jpd_enum rfl T.b_enumerate (jda_cons (jd_var 0) jda_nil)) (jdg_tup (n := 2) rfl (jdgs_cons (jn 2 sc.nd) (jdgs_cons (jn 3 sc.nd) jdgs_nil))) (jds_one (jds_if (jd_tval (jc G_is_lower hr (jda_cons (jd_var 3) (jda_cons (jx (jd_var 0) (jd_var 1)) jda_nil)))) (jds_one (jst 1 sc.nd (jd_var 2))) jds_nil))) (jds_one (jds_ret (jd_catV (jd_sliceV (jd_var 0) (jdpo_some (jd_var 1)) jdpo_none) (jd_sliceV (jd_var 0) jdpo_none (jdpo_some (jd_var 1)))))))), ?_⟩
  walk_at "sim"
  refine ForK.by (fun i e M' => M' = M ∧ ∃ z2 z3 : Option D, e = [some (.vl (rs.map rD)), some (.int ((plcF rs i : Nat) : Int)), z2, z3]) ⟨rfl, _, _, rfl⟩ (fun i e M' _ _ => by simp only [seqD_vl]) ?_ ?_
  · rintro i dd e M' hd ⟨rfl, z2, z3, rfl⟩
    obtain ⟨d, hd2, rfl⟩ := enumD_of hd
    rw [List.getElem?_map] at hd2
    cases hq : rs[i]? with
    | none => rw [hq] at hd2; cases hd2
    | some c =>
      rw [hq] at hd2
      obtain rfl := Option.some.inj hd2
      have hi := (List.getElem?_eq_some_iff.mp hq).1
      have hp := plc_lt hne i (by omega)
      have e1 : rs[plcF rs i]? = some (rs.getD (plcF rs i) (0, 0)) := by rw [List.getElem?_eq_getElem hp]; simp [hp]
      have e2 : rs.getD i (0, 0) = c := by simp [hq]
      have ex : atI (rs.map rD) ((plcF rs i : Nat) : Int) = some (rD (rs.getD (plcF rs i) (0, 0))) := atI_lit (by rw [List.getElem?_map, e1]; rfl)
      walk_at "sim"
      refine ⟨_, ex, ?_⟩
      walk_at "sim"
      have es : plcF rs (i + 1) = if lowB c (rs.getD (plcF rs i) (0, 0)) = true then i else plcF rs i := by
        show (if lowB (rs.getD i (0, 0)) _ = true then _ else _) = _
        rw [e2]
      rw [es]
      refine ⟨⟨hz c (List.mem_of_getElem? hq), hz _ (List.mem_of_getElem? e1)⟩, fun z => ⟨some (.int (i : Int)), some (rD c), ?_⟩, fun z => ⟨some (.int (i : Int)), some (rD c), ?_⟩⟩
      · rw [if_pos z]
      · rw [if_neg (by rw [z]; decide)]
  · rintro e M' ⟨rfl, z2, z3, rfl⟩
    rw [enumD_length, List.length_map]
    walk_at "sim"
    rw [cut_frm, cut_to]
    refine ⟨?_, ?_⟩
    · have h1 : ((rs.map rD).drop (plcF rs rs.length)).length ≤ rs.length := by rw [List.length_drop, List.length_map]; omega
      have h2 : ((rs.map rD).take (plcF rs rs.length)).length ≤ rs.length := by rw [List.length_take, List.length_map]; omega
      exact Nat.le_trans (Nat.add_le_add h1 h2) (Nat.le_trans (by omega : rs.length + rs.length ≤ 1000) (by decide))
    · rw [← List.map_drop, ← List.map_take, ← List.map_append]
      exact k
theorem ok_facing (T : Txt K mg) (d : Df K mg "facing" s_facing ["side"])  : Fn P w K mg base "facing" 1 ["side"] sFac := by
  have sc := sc_facing
  refine fn_by d sc (by walk_at "len") (fun f cdv A outer s H E ds M R Y hr h => ?_)
  have hu := hr.units
  obtain ⟨a, rfl, k⟩ := h
  unfold sdD
  refine ⟨_, (jds_cons (jds_asg (jd_var 0) (jdg_tup (n := 5) rfl (jdgs_cons (jn 1 sc.nd) (jdgs_cons (jn 2 sc.nd) (jdgs_cons (jn 3 sc.nd) (jdgs_cons (jn 4 sc.nd) (jdgs_cons (jn 5 sc.nd) jdgs_nil))))))) (jds_one (jds_ret (jd_tup (jda_cons (jd_neg (jd_var 1)) (jda_cons (jd_neg (jd_var 2)) (jda_cons (jd_var 3) (jda_cons (jd_var 4) (jda_cons (jd_neg (jd_var 5)) jda_nil))))))))), ?_⟩
  walk_at "sim"
  exact k
theorem ok_veer (T : Txt K mg) (d : Df K mg "veer" s_veer ["one", "other"])  : Fn P w K mg base "veer" 1 ["one", "other"] sVeer := by
  have sc := sc_veer
  refine fn_by d sc (by walk_at "len") (fun f cdv A outer s H E ds M R Y hr h => ?_)
  have hu := hr.units
  obtain ⟨a, b, rfl, ⟨ha, hb⟩, k⟩ := h
  unfold sdD
  refine ⟨_, (jds_one (jds_ret (jd_op o_sub (jd_op o_mul (jx (jd_var 0) jd_int) (jx (jd_var 1) jd_int)) (jd_op o_mul (jx (jd_var 0) jd_int) (jx (jd_var 1) jd_int))))), ?_⟩
  walk_at "sim"
  exact ⟨mulOk _ _ ha.p hb.q (by decide), mulOk _ _ ha.q hb.p (by decide), k⟩
theorem ok_met_at (T : Txt K mg) (d : Df K mg "met_at" s_met_at ["one", "other"]) (G_ratio : Fn P w K mg base "ratio" 2 ["top", "bottom"] spLow) (G_veer : Fn P w K mg base "veer" 1 ["one", "other"] sVeer) : Fn P w K mg base "met_at" 3 ["one", "other"] sMet := by
  have sc := sc_met_at
  refine fn_by d sc (by walk_at "len") (fun f cdv A outer s H E ds M R Y hr h => ?_)
  have hu := hr.units
  obtain ⟨a, b, rfl, ⟨ha, hb, hv⟩, k⟩ := h
  refine ⟨_, (jds_cons (jst 2 sc.nd (jc G_veer hr (jda_cons (jd_var 0) (jda_cons (jd_var 1) jda_nil)))) (jds_cons (jst 3 sc.nd (jc G_ratio hr (jda_cons (jd_op o_sub (jd_op o_mul (jx (jd_var 0) jd_int) (jx (jd_var 1) jd_int)) (jd_op o_mul (jx (jd_var 1) jd_int) (jx (jd_var 0) jd_int))) (jda_cons (jd_var 2) jda_nil)))) (jds_cons (jst 4 sc.nd (jc G_ratio hr (jda_cons (jd_op o_sub (jd_op o_mul (jx (jd_var 0) jd_int) (jx (jd_var 1) jd_int)) (jd_op o_mul (jx (jd_var 1) jd_int) (jx (jd_var 0) jd_int))) (jda_cons (jd_var 2) jda_nil)))) (jds_one (jds_ret (jd_tup (jda_cons (jd_var 3) (jda_cons (jd_var 4) jda_nil)))))))), ?_⟩
  walk_at "sim"
  have lv : (veZ a b).natAbs.log2 < 9000 := Nat.lt_of_lt_of_le (log_lt (ha.ve hb) (by decide)) (by decide)
  refine ⟨⟨ha, hb⟩, mulOk _ _ ha.r hb.q (by decide), mulOk _ _ hb.r ha.q (by decide), hv, lv, mulOk _ _ ha.p hb.r (by decide), mulOk _ _ hb.p ha.r (by decide), hv, lv, ?_⟩
  rw [← ry_div] at k
  exact k
theorem ok_turn (T : Txt K mg) (d : Df K mg "turn" s_turn ["one", "other", "third"]) (G_veer : Fn P w K mg base "veer" 1 ["one", "other"] sVeer) : Fn P w K mg base "turn" 2 ["one", "other", "third"] sTurn := by
  have sc := sc_turn
  refine fn_by d sc (by walk_at "len") (fun f cdv A outer s H E ds M R Y hr h => ?_)
  have hu := hr.units
  obtain ⟨a, b, c, rfl, ⟨ha, hb, hc⟩, k⟩ := h
  refine ⟨_, (jds_one (jds_ret (jd_op o_add (jd_op o_sub (jd_op o_mul (jx (jd_var 0) jd_int) (jc G_veer hr (jda_cons (jd_var 1) (jda_cons (jd_var 2) jda_nil)))) (jd_op o_mul (jx (jd_var 1) jd_int) (jc G_veer hr (jda_cons (jd_var 0) (jda_cons (jd_var 2) jda_nil))))) (jd_op o_mul (jx (jd_var 2) jd_int) (jc G_veer hr (jda_cons (jd_var 0) (jda_cons (jd_var 1) jda_nil))))))), ?_⟩
  walk_at "sim"
  have v1 := ha.ve hb
  have v2 := ha.ve hc
  have v3 := hb.ve hc
  exact ⟨⟨hb, hc⟩, mulOk _ _ ha.r v3 (by decide), ⟨ha, hc⟩, mulOk _ _ hb.r v2 (by decide), ⟨ha, hb⟩, mulOk _ _ hc.r v1 (by decide), k⟩
theorem ok_next_side (T : Txt K mg) (d : Df K mg "next_side" s_next_side ["sides", "here"]) (G_veer : Fn P w K mg base "veer" 1 ["one", "other"] sVeer) (G_turn : Fn P w K mg base "turn" 2 ["one", "other", "third"] sTurn) : Fn P w K mg base "next_side" 3 ["sides", "here"] sNxt := by
  have sc := sc_next_side
  refine fn_by d sc (by walk_at "len") (fun f cdv A outer s H E ds M R Y hr h => ?_)
  have hu := hr.units
  obtain ⟨ss, g, rfl, ⟨hg, hz⟩, k⟩ := h
  refine ⟨_, (jds_cons (jst 2 sc.nd jd_non) (jds_cons (jds_forI PassesOwn.never rfl (jpd_seq (jd_var 0)) (jn 3 sc.nd) (jds_one (jds_if (jtm o_gt (jc G_veer hr (jda_cons (jd_var 1) (jda_cons (jd_var 3) jda_nil))) jd_int) (jds_cons (jst 4 sc.nd (jd_ifExp (jtm o_is (jd_var 2) jd_non) (jd_neg jd_int) (jc G_turn hr (jda_cons (jd_var 1) (jda_cons (jd_var 2) (jda_cons (jd_var 3) jda_nil)))))) (jds_one (jds_if (jd_tw (jd_or (jtm o_lt (jd_var 4) jd_int) (jd_or1 (jd_tw (jd_and (jtm o_eqI (jd_var 4) jd_int) (jd_and1 (jtm o_gt (jc G_veer hr (jda_cons (jd_var 2) (jda_cons (jd_var 3) jda_nil))) jd_int))))))) (jds_one (jst 2 sc.nd (jd_var 3))) jds_nil))) jds_nil))) (jds_one (jds_ret (jd_var 2))))), ?_⟩
  walk_at "sim"
  refine ForK.by (fun i e M' => M' = M ∧ (∀ f, (ss.take i).foldl (nxtS g) none = some f → SzS f) ∧ ∃ z3 z4 : Option D, e = [some (.vl (ss.map sdD)), some (sdD g), some (optS ((ss.take i).foldl (nxtS g) none)), z3, z4]) ⟨rfl, fun f z => (by cases z), _, _, rfl⟩ (fun i e M' _ h => by rw [h.1]; simp only [seqD_vl]) ?_ ?_
  · rintro i dd e M' hd ⟨rfl, hf, z3, z4, rfl⟩
    rw [List.getElem?_map] at hd
    cases hq : ss[i]? with
    | none => rw [hq] at hd; cases hd
    | some t =>
      rw [hq] at hd
      obtain rfl := Option.some.inj hd
      have ht := hz t (List.mem_of_getElem? hq)
      have e1 : (ss.take (i + 1)).foldl (nxtS g) none = nxtS g ((ss.take i).foldl (nxtS g) none) t := by
        rw [List.take_add_one, hq, List.foldl_append]; rfl
      rw [e1]
      generalize (ss.take i).foldl (nxtS g) none = f at *
      walk_at "sim"
      refine ⟨⟨hg, ht⟩, fun z => ?_, fun z => ?_⟩
      · cases f with
        | none =>
          have en : nxtS g none t = some t := by unfold nxtS; rw [if_pos z]; rfl
          rw [en, show optS none = D.non from rfl, z_Is (b := true) rfl]
          walk_at "sim"
          refine ⟨fun f' hf' => by cases hf'; exact ht, _, _, rfl⟩
        | some f =>
          have hff := hf f rfl
          rw [show optS (some f) = sdD f from rfl, z_Is (b := false) rfl]
          walk_at "sim"
          refine ⟨⟨hg, hff, ht⟩, ?_⟩
          have en : ∀ b : Bool, betZ g (some f) t = b → nxtS g (some f) t = if b = true then some t else some f := fun b hb => by unfold nxtS; rw [if_pos z, hb]
          have done : ∀ b : Bool, betZ g (some f) t = b → (∀ f', nxtS g (some f) t = some f' → SzS f') ∧ optS (nxtS g (some f) t) = if b = true then sdD t else sdD f := fun b hb => by
            rw [en b hb]
            cases b with
            | true => exact ⟨fun f' h => by cases h; exact ht, rfl⟩
            | false => exact ⟨fun f' h => by cases h; exact hff, rfl⟩
          refine ⟨fun z1 => ?_, fun z1 => ⟨fun z2 => ⟨⟨hff, ht⟩, fun z3 => ?_, fun z3 => ?_⟩, fun z2 => ?_⟩⟩
          · obtain ⟨q1, q2⟩ := done true (by show (decide _ || _) = true; rw [decide_eq_true z1]; rfl)
            exact ⟨q1, some (sdD t), some (.int (tnZ g f t)), by rw [q2]; rfl⟩
          · obtain ⟨q1, q2⟩ := done true (by show (decide _ || (decide _ && decide _)) = true; rw [decide_eq_true z2, decide_eq_true z3, Bool.or_eq_true]; exact .inr rfl)
            exact ⟨q1, some (sdD t), some (.int (tnZ g f t)), by rw [q2]; rfl⟩
          · obtain ⟨q1, q2⟩ := done false (by show (decide _ || (decide _ && decide _)) = false; rw [decide_eq_false z1, decide_eq_false z3, Bool.and_false]; rfl)
            exact ⟨q1, some (sdD t), some (.int (tnZ g f t)), by rw [q2]; rfl⟩
          · obtain ⟨q1, q2⟩ := done false (by show (decide _ || (decide _ && decide _)) = false; rw [decide_eq_false z1, decide_eq_false z2]; rfl)
            exact ⟨q1, some (sdD t), some (.int (tnZ g f t)), by rw [q2]; rfl⟩
      · have en : nxtS g f t = f := by unfold nxtS; rw [if_neg z]
        rw [en]
        exact ⟨hf, _, _, rfl⟩
  · rintro e M' ⟨rfl, hf, z3, z4, rfl⟩
    walk_at "sim"
    rw [List.length_map, List.take_length]
    exact k
theorem ok_juts_more (T : Txt K mg) (d : Df K mg "juts_more" s_juts_more ["one", "other"])  : Fn P w K mg base "juts_more" 1 ["one", "other"] sJuts := by
  have sc := sc_juts_more
  refine fn_by d sc (by walk_at "len") (fun f cdv A outer s H E ds M R Y hr h => ?_)
  have hu := hr.units
  obtain ⟨a, b, rfl, ⟨ha, hb⟩, k⟩ := h
  refine ⟨_, (jds_cons (jst 2 sc.nd (jd_op o_sub (jd_op o_mul (jx (jd_var 0) jd_int) (jx (jd_var 1) jd_int)) (jd_op o_mul (jx (jd_var 1) jd_int) (jx (jd_var 0) jd_int)))) (jds_cons (jds_if (jtm o_eqI (jd_var 2) jd_int) (jds_one (jst 2 sc.nd (jd_op o_sub (jd_op o_mul (jx (jd_var 0) jd_int) (jx (jd_var 1) jd_int)) (jd_op o_mul (jx (jd_var 1) jd_int) (jx (jd_var 0) jd_int))))) jds_nil) (jds_one (jds_ret (jm o_gt (jd_var 2) jd_int))))), ?_⟩
  walk_at "sim"
  refine ⟨mulOk _ _ ha.p hb.r (by decide), mulOk _ _ hb.p ha.r (by decide), fun z => ⟨mulOk _ _ ha.q hb.r (by decide), mulOk _ _ hb.q ha.r (by decide), ?_⟩, fun z => ?_⟩
  · unfold jutsZ at k
    rw [if_pos z] at k
    exact k
  · unfold jutsZ at k
    rw [if_neg z] at k
    exact k
theorem ok_outermost (T : Txt K mg) (d : Df K mg "outermost" s_outermost ["sides"]) (G_juts_more : Fn P w K mg base "juts_more" 1 ["one", "other"] sJuts) : Fn P w K mg base "outermost" 2 ["sides"] sOutm := by
  have sc := sc_outermost
  refine fn_by d sc (by walk_at "len") (fun f cdv A outer s H E ds M R Y hr h => ?_)
  have hu := hr.units
  obtain ⟨ss, rfl, ⟨s, r, e⟩, hz, k⟩ := h
  have e0 : ss.headD (0, 0, 0, 0, 0) = s := by rw [e]; rfl
  rw [e0] at k
  refine ⟨_, (jds_cons (jst 1 sc.nd (jx (jd_var 0) jd_int)) (jds_cons (jds_forI PassesOwn.never rfl (jpd_seq (jd_var 0)) (jn 2 sc.nd) (jds_one (jds_if (jd_tval (jc G_juts_more hr (jda_cons (jd_var 2) (jda_cons (jd_var 1) jda_nil)))) (jds_one (jst 1 sc.nd (jd_var 2))) jds_nil))) (jds_one (jds_ret (jd_var 1))))), ?_⟩
  walk_at "sim"
  have ei : atI (ss.map sdD) 0 = some (sdD s) := by rw [e]; exact atI_lit (n := 0) rfl
  refine ⟨_, ei, ?_⟩
  have hs : SzS s := hz s (by rw [e]; exact List.mem_cons_self)
  refine ForK.by (fun i e M' => M' = M ∧ ∃ z : Option D, e = [some (.vl (ss.map sdD)), some (sdD (outF (ss.take i) s)), z]) ⟨rfl, _, rfl⟩ (fun i e M' _ h => by rw [h.1]; simp only [seqD_vl]) ?_ ?_
  · rintro i dd e M' hd ⟨rfl, z, rfl⟩
    rw [List.getElem?_map] at hd
    cases hq : ss[i]? with
    | none => rw [hq] at hd; cases hd
    | some t =>
      rw [hq] at hd
      obtain rfl := Option.some.inj hd
      have ht := hz t (List.mem_of_getElem? hq)
      have ho : SzS (outF (ss.take i) s) := by
        rcases outF_mem (ss.take i) s with h | h
        · rw [h]; exact hs
        · exact hz _ (List.mem_of_mem_take h)
      have e1 : outF (ss.take (i + 1)) s = if jutsZ t (outF (ss.take i) s) = true then t else outF (ss.take i) s := by
        unfold outF
        rw [List.take_add_one, hq, List.foldl_append]; rfl
      rw [e1]
      walk_at "sim"
      refine ⟨⟨ht, ho⟩, fun z => ⟨some (sdD t), ?_⟩, fun z => ⟨some (sdD t), ?_⟩⟩
      · rw [if_pos z]
      · rw [if_neg (by rw [z]; decide)]
  · rintro e M' ⟨rfl, z, rfl⟩
    walk_at "sim"
    rw [List.length_map, List.take_length]
    exact k
theorem ok_tops_over (T : Txt K mg) (d : Df K mg "tops_over" s_tops_over ["ratios", "bottom"])  : Fn P w K mg base "tops_over" 1 ["ratios", "bottom"] sTopsL := by
  have sc := sc_tops_over
  refine fn_by d sc (by walk_at "len") (fun f cdv A outer s H E ds M R Y hr h => ?_)
  have hu := hr.units
  obtain ⟨l, c, rfl, ⟨hl, rfl⟩, k⟩ := h
  refine ⟨_, (jds_one (jds_ret (jd_compV [1] ["one"] ["bottom"] rfl (by decide +kernel) rfl (by decide +kernel) (by decide +kernel) rfl (all1 ⟨rfl, rfl⟩) (all1 (Or.inl rfl)) (jpd_seq (jd_var 0)) (fun _ _ _ _ _ _ => (jn 0 (show (["one", "bottom"] : List Str).Nodup by decide +kernel))) (fun _ _ _ _ _ _ => jdifs_nil) (fun _ _ _ _ _ _ => (jd_op o_mul (jx (jd_var 0) jd_int) (jd_op o_fdiv (jd_var 1) (jx (jd_var 0) jd_int))))))), ?_⟩
  walk_at "sim"
  refine SeqK_of (ds := [l.1, l.2.1, l.2.2].map ratD) (by show seqD M (.tup _) _; rw [seqD_tup]; rfl) ?_
  refine compV_map (xs := [l.1, l.2.1, l.2.2]) (enc := ratD) (fun q => .int (topQ q (cbL l))) (by show 3 ≤ 1000; decide) (by show seqD M (.tup _) _; rw [seqD_tup]; rfl) (fun q hq Q hQ => ?_) k
  have hqs : sz q ≤ 1300 := by
    simp only [List.mem_cons, List.not_mem_nil, or_false] at hq
    rcases hq with rfl | rfl | rfl
    · exact hl.p
    · exact hl.q
    · exact hl.r
  have d0 := q.den_pos
  have hd : q.den < 2 ^ 1300 := den_lt' q hqs
  have ef : ((cbL l : Nat) : Int).fdiv (q.den : Int) = ((cbL l / q.den : Nat) : Int) := by rw [fdiv_nn (by omega) (by omega)]; rfl
  walk_at "sim"
  rw [ef]
  refine ⟨⟨by omega, Nat.lt_of_lt_of_le (log_lt (by rw [Int.natAbs_natCast]; exact hd) (by decide)) (by decide)⟩, mulOk 1300 3901 (num_lt' q hqs) (by rw [Int.natAbs_natCast]; exact Nat.lt_of_le_of_lt (Nat.div_le_self _ _) hl.cb) (by decide), hQ⟩
theorem ok_common_bottom (T : Txt K mg) (d : Df K mg "common_bottom" s_common_bottom ["ratios"]) (G_divisor : Fn P w K mg base "divisor" 1 ["one", "other"] spDivisor) : Fn P w K mg base "common_bottom" 2 ["ratios"] sCbL := by
  have sc := sc_common_bottom
  refine fn_by d sc (by walk_at "len") (fun f cdv A outer s H E ds M R Y hr h => ?_)
  have hu := hr.units
  obtain ⟨l, rfl, hl, k⟩ := h
  refine ⟨_, (jds_cons (jst 1 sc.nd jd_int) (jds_cons (jds_forI PassesOwn.never rfl (jpd_seq (jd_var 0)) (jn 2 sc.nd) (jds_one (jst 1 sc.nd (jd_op o_mul (jd_op o_fdiv (jd_var 1) (jc G_divisor hr (jda_cons (jd_var 1) (jda_cons (jx (jd_var 2) jd_int) jda_nil)))) (jx (jd_var 2) jd_int))))) (jds_one (jds_ret (jd_var 1))))), ?_⟩
  walk_at "sim"
  refine SeqK_of (ds := [l.1, l.2.1, l.2.2].map ratD) (by show seqD M (.tup _) _; rw [seqD_tup]; rfl) ?_
  refine ForK.by (fun i e M' => M' = M ∧ ∃ z : Option D, e = [some (lineD l), some (.int ((([l.1, l.2.1, l.2.2].take i).foldl (fun c q => lcmS c q.den) 1 : Nat) : Int)), z]) ⟨rfl, _, rfl⟩ (fun i e M' _ h => by rw [h.1]; show seqD M (.tup _) _; rw [seqD_tup]; rfl) ?_ ?_
  · rintro i dd e M' hd ⟨rfl, z, rfl⟩
    rw [List.getElem?_map] at hd
    cases hq : [l.1, l.2.1, l.2.2][i]? with
    | none => rw [hq] at hd; cases hd
    | some q =>
      rw [hq] at hd
      obtain rfl := Option.some.inj hd
      have e1 : ([l.1, l.2.1, l.2.2].take (i + 1)).foldl (fun c q => lcmS c q.den) 1 = lcmS (([l.1, l.2.1, l.2.2].take i).foldl (fun c q => lcmS c q.den) 1) q.den := by
        rw [List.take_add_one, hq, List.foldl_append]; rfl
      have hi := (List.getElem?_eq_some_iff.mp hq).1
      have hqs : sz q ≤ 1300 := by
        have := List.mem_of_getElem? hq
        simp only [List.mem_cons, List.not_mem_nil, or_false] at this
        rcases this with rfl | rfl | rfl
        · exact hl.p
        · exact hl.q
        · exact hl.r
      have hc : 0 < ([l.1, l.2.1, l.2.2].take i).foldl (fun c q => lcmS c q.den) 1 := by
        have : ∀ (xs : List Rat) (c : Nat), 0 < c → 0 < xs.foldl (fun c q => lcmS c q.den) c := fun xs => by
          induction xs with
          | nil => exact fun c h => h
          | cons x xs ih => exact fun c h => ih _ (by show 0 < lcmS c x.den; rw [lcmS_eq]; exact Nat.lcm_pos h x.den_pos)
        exact this _ _ (by decide)
      have hd : q.den < 2 ^ 1300 := den_lt' q hqs
      rw [e1]
      have hb : ([l.1, l.2.1, l.2.2].take i).foldl (fun c q => lcmS c q.den) 1 < 2 ^ 4000 := by
        have := cb_fold ([l.1, l.2.1, l.2.2].take i) 1 1 (fun x hx => hl.all x (List.mem_of_mem_take hx)) (by decide)
        refine Nat.lt_of_lt_of_le this (Nat.pow_le_pow_right (by decide) ?_)
        have : ([l.1, l.2.1, l.2.2].take i).length ≤ 3 := by rw [List.length_take]; exact Nat.min_le_right _ _
        omega
      generalize ([l.1, l.2.1, l.2.2].take i).foldl (fun c q => lcmS c q.den) 1 = c at *
      have g0 : 0 < Nat.gcd c q.den := Nat.gcd_pos_of_pos_right _ q.den_pos
      have g1 : Nat.gcd c q.den < 2 ^ 1300 := Nat.lt_of_le_of_lt (Nat.le_of_dvd q.den_pos (Nat.gcd_dvd_right _ _)) hd
      have ef : (c : Int).fdiv (Nat.gcd c q.den : Nat) = ((c / Nat.gcd c q.den : Nat) : Int) := by rw [fdiv_nn (by omega) (by omega)]; rfl
      walk_at "sim"
      rw [ef]
      refine ⟨⟨by omega, Nat.lt_of_lt_of_le (log_lt (by rw [Int.natAbs_natCast]; exact g1) (by decide)) (by decide)⟩, ?_, some (ratD q), ?_⟩
      · exact mulOk 4000 1300 (by rw [Int.natAbs_natCast]; exact Nat.lt_of_le_of_lt (Nat.div_le_self _ _) hb) (by rw [Int.natAbs_natCast]; exact hd) (by decide)
      · unfold lcmS
        rw [Int.natCast_mul]
  · rintro e M' ⟨rfl, z, rfl⟩
    walk_at "sim"
    exact k
theorem ok_sides_of (T : Txt K mg) (d : Df K mg "sides_of" s_sides_of ["lines"]) (G_facing : Fn P w K mg base "facing" 1 ["side"] sFac) (G_tops_over : Fn P w K mg base "tops_over" 1 ["ratios", "bottom"] sTopsL) (G_common_bottom : Fn P w K mg base "common_bottom" 2 ["ratios"] sCbL) : Fn P w K mg base "sides_of" 3 ["lines"] sSides := by
  have sc := sc_sides_of
  refine fn_by d sc (by walk_at "len") (fun f cdv A outer s H E ds M R Y hr h => ?_)
  have hu := hr.units
  obtain ⟨x0, ls, rfl, hx0, hok, k⟩ := h
  rcases hx0 with rfl | rfl
  all_goals
    refine ⟨_, (jds_cons (jst 1 sc.nd (jd_lst jda_nil)) (jds_cons (jds_forI PassesOwn.never rfl (jpd_enum rfl T.b_enumerate (jda_cons (jd_var 0) jda_nil)) (jdg_tup (n := 2) rfl (jdgs_cons (jn 2 sc.nd) (jdgs_cons (jn 3 sc.nd) jdgs_nil))) (jds_cons (jst 4 sc.nd (jc G_common_bottom hr (jda_cons (jd_var 3) jda_nil))) (jds_cons (jds_asg (jc G_tops_over hr (jda_cons (jd_var 3) (jda_cons (jd_var 4) jda_nil))) (jdg_tupL (n := 3) rfl (jdgs_cons (jn 5 sc.nd) (jdgs_cons (jn 6 sc.nd) (jdgs_cons (jn 7 sc.nd) jdgs_nil))))) (jds_cons (jst 8 sc.nd (jd_tup (jda_cons (jd_var 5) (jda_cons (jd_var 6) (jda_cons (jd_var 7) (jda_cons (jd_var 2) (jda_cons (jd_var 4) jda_nil))))))) (jds_cons (jds_expr (jd_lm PySem.F.slot_list_append PySem.F.type_list_append dm_append (jd_var 1) (jda_cons (jd_var 8) jda_nil))) (jds_one (jds_expr (jd_lm PySem.F.slot_list_append PySem.F.type_list_append dm_append (jd_var 1) (jda_cons (jc G_facing hr (jda_cons (jd_var 8) jda_nil)) jda_nil))))))))) (jds_one (jds_ret (jd_fgt (jd_frz (jd_var 1))))))), ?_⟩
    walk_at "sim"
    intro p hp
    refine ForK.by (fun i e M' => M' = updM M p (.lst ((sidN 0 (ls.take i)).map sdD)) ∧ ∃ z0 z2 z3 z4 z5 z6 z7 z8 : Option D, e = [z0, some (.ref p), z2, z3, z4, z5, z6, z7, z8]) ⟨rfl, _, _, _, _, _, _, _, _, rfl⟩ (fun i e M' _ _ => by simp only [seqD_vl, seqD_tup]) ?_ ?_
    · rintro i dd e M' hd ⟨rfl, z0, z2, z3, z4, z5, z6, z7, z8, rfl⟩
      obtain ⟨d, hd2, rfl⟩ := enumD_of hd
      obtain ⟨l, hl, rfl⟩ := line_item hd2
      have hm := hok.2 l (List.mem_of_getElem? hl)
      have h12 := hok.1
      have hi := (List.getElem?_eq_some_iff.mp hl).1
      walk_at "sim"
      refine ⟨hm, hm, ?_⟩
      have es : D.tup [.int (sideL l 0).1, .int (sideL l 0).2.1, .int (sideL l 0).2.2.1, .int (i : Int), .int ((cbL l : Nat) : Int)] = sdD (sideL l i) := rfl
      have hln : ((sidN 0 (ls.take i)).map sdD).length ≤ 24 := by
        rw [List.length_map, sid_len, List.length_take]; omega
      rw [es]
      refine LMK_of updM_same (App_of updM_same (by omega) ?_)
      rw [updM_upd]
      refine LMK_of updM_same ?_
      walk_at "sim"
      refine App_of updM_same (by rw [List.length_append]; show _ + 1 < 1000; omega) ⟨?_, _, _, _, _, _, _, _, _, rfl⟩
      rw [updM_upd, sid_take ls 0 i l hl, Nat.zero_add, List.map_append, List.append_assoc]
      rfl
    · rintro e M' ⟨rfl, z0, z2, z3, z4, z5, z6, z7, z8, rfl⟩
      walk_at "sim"
      rw [z_FrzK updM_same, delM_upd hp]
      walk_at "sim"
      rw [enumD_length, List.length_map, List.take_length]
      exact ⟨_, fun _ _ h => h, k⟩
theorem ok_half_rim (T : Txt K mg) (d : Df K mg "half_rim" s_half_rim ["lines"]) (G_veer : Fn P w K mg base "veer" 1 ["one", "other"] sVeer) (G_next_side : Fn P w K mg base "next_side" 3 ["sides", "here"] sNxt) (G_outermost : Fn P w K mg base "outermost" 2 ["sides"] sOutm) (G_sides_of : Fn P w K mg base "sides_of" 3 ["lines"] sSides) : Fn P w K mg base "half_rim" 4 ["lines"] sHalf := by
  have sc := sc_half_rim
  refine fn_by d sc (by walk_at "len") (fun f cdv A outer s H E ds M R Y hr h => ?_)
  have hu := hr.units
  obtain ⟨x0, ls, rfl, hx0, hok, k⟩ := h
  have hlo : ∀ l ∈ ls, LineOk l := fun l hl => (hok.2 l hl).toLineOk
  rcases hx0 with rfl | rfl
  all_goals
    refine ⟨_, (jds_cons (jds_if (jtm o_eqI (jd_blt c_len rfl T.b_len bt_len (jda_cons (jd_var 0) jda_nil)) jd_int) (jds_one (jds_ret (jd_fgt (jd_lstV jda_nil)))) jds_nil) (jds_cons (jst 1 sc.nd (jc G_sides_of hr (jda_cons (jd_var 0) jda_nil))) (jds_cons (jst 2 sc.nd (jd_lst (jda_cons (jc G_outermost hr (jda_cons (jd_var 1) jda_nil)) jda_nil))) (jds_cons (jst 3 sc.nd (jc G_next_side hr (jda_cons (jd_var 1) (jda_cons (jx (jd_var 2) jd_int) jda_nil)))) (jds_cons (jds_while PassesOwn.never (jd_tw (jd_and (jtm o_isnot (jd_var 3) jd_non) (jd_and1 (jtm o_gt (jc G_veer hr (jda_cons (jx (jd_var 2) jd_int) (jda_cons (jd_var 3) jda_nil))) jd_int)))) (jds_cons (jds_expr (jd_lm PySem.F.slot_list_append PySem.F.type_list_append dm_append (jd_var 2) (jda_cons (jd_var 3) jda_nil))) (jds_one (jst 3 sc.nd (jc G_next_side hr (jda_cons (jd_var 1) (jda_cons (jd_var 3) jda_nil))))))) (jds_one (jds_ret (jd_fgt (jd_frz (jd_var 2)))))))))), ?_⟩
    walk_at "sim"
    refine ⟨fun h0 => ?_, fun h0 => ?_⟩
    · have e : ls = [] := by
        cases ls with
        | nil => rfl
        | cons a b => rw [List.length_map, List.length_cons] at h0; omega
      subst e
      exact Fgt_of (fun _ _ h => h) k
    · have hp : ∀ s ∈ sidesF ls, 0 < s.2.2.1 := sid_pos hlo (i := 0)
      have hz : ∀ s ∈ sidesF ls, SzS s := szs_sides hok
      have hln := sid_len ls 0
      have h12 := hok.1
      obtain ⟨s1, r, es⟩ : ∃ s r, sidesF ls = s :: r := by
        cases ls with
        | nil => exact absurd rfl h0
        | cons a b => exact ⟨_, _, rfl⟩
      have hln : (sidesF ls).length ≤ 24 := by show (sidN 0 ls).length ≤ 24; omega
      refine ⟨hok, ⟨s1, r, es⟩, hz, fun p hpn => ?_⟩
      have eh : (sidesF ls).headD (0, 0, 0, 0, 0) = s1 := by rw [es]; rfl
      rw [eh]
      have ek : halfF (sidesF ls) = outF (sidesF ls) s1 :: rimF (outF (sidesF ls) s1) (sidesF ls) (sidesF ls).length (nxtF (outF (sidesF ls) s1) (sidesF ls)) := by rw [es]; rfl
      have m0 : outF (sidesF ls) s1 ∈ sidesF ls := by
        rcases outF_mem (sidesF ls) s1 with h | h
        · rw [h, es]; exact List.mem_cons_self
        · exact h
      rw [ek] at k
      generalize outF (sidesF ls) s1 = h0 at *
      generalize sidesF ls = ss at *
      refine ⟨_, ixD_lst updM_same rfl, ?_⟩
      walk_at "sim"
      refine ⟨⟨hz _ m0, hz⟩, ?_⟩
      refine WhileBy (fun m e M' => ∃ (pre : List Sd) (o : Option Sd) (z0 : Option D), e = [z0, some (.vl (ss.map sdD)), some (.ref p), some (optS o)] ∧ M' = updM M p (.lst ((h0 :: pre).map sdD)) ∧ pre ++ rimF h0 ss m o = rimF h0 ss ss.length (nxtF h0 ss) ∧ pre.length + m ≤ 24 ∧ (∀ f, o = some f → f ∈ ss) ∧ ∀ f, o = some f → 0 < veZ h0 f → cntZ h0 ss f < m) ss.length ⟨[], nxtF h0 ss, _, rfl, rfl, rfl, by simpa using hln, fun f hf => (nxtF_edge hp hf).1, fun f hf hv => Nat.lt_of_lt_of_le (cnt_step hp hf (.inl rfl) hv) (cnt_le h0 ss h0)⟩ ?_
      rintro m e M' ⟨pre, o, z0, rfl, rfl, hr, hlm, ho, hc⟩
      have fin : rimF h0 ss m o = [] → FrzK (D.ref p) (updM M p (.lst ((h0 :: pre).map sdD))) (fun x M1 => FgtK x M1 R) := fun hn => by
        rw [hn, List.append_nil] at hr
        rw [z_FrzK updM_same, delM_upd hpn, hr]
        exact Fgt_of (fun _ _ h => h) k
      cases o with
      | none =>
        rw [show optS none = D.non from rfl]
        walk_at "sim"
        rw [z_Is (b := true) rfl]
        walk_at "sim"
        exact fin (by cases m <;> rfl)
      | some f =>
        have hf := ho f rfl
        rw [show optS (some f) = sdD f from rfl]
        walk_at "sim"
        rw [z_Is (b := false) rfl]
        walk_at "sim"
        refine ⟨_, ixD_lst updM_same (atI_lit (n := 0) rfl), ?_⟩
        walk_at "sim"
        refine ⟨⟨hz _ m0, hz _ hf⟩, fun hv => ?_, fun hv => ?_⟩
        · have hcm := hc f rfl hv
          obtain ⟨m, rfl⟩ : ∃ m', m = m' + 1 := ⟨m - 1, by omega⟩
          have er : rimF h0 ss (m + 1) (some f) = f :: rimF h0 ss m (nxtF f ss) := if_pos hv
          rw [er] at hr
          refine LMK_of updM_same (App_of updM_same (by rw [List.length_cons, List.length_map]; omega) ⟨⟨hz _ hf, hz⟩, m, Nat.lt_succ_self _, pre ++ [f], nxtF f ss, _, rfl, ?_, by rw [List.append_assoc]; exact hr, by rw [List.length_append]; show pre.length + 1 + m ≤ 24; omega, fun g hg => (nxtF_edge hp hg).1, fun g hg hg2 => ?_⟩)
          · rw [updM_upd]
            congr 2
            rw [List.map_append]; rfl
          · have := cnt_step hp hg (.inr hv) hg2
            omega
        · refine fin ?_
          cases m with
          | zero => rfl
          | succ m => exact if_neg hv
theorem ok_corners (T : Txt K mg) (d : Df K mg "corners" s_corners ["lines"]) (G_from_lowest : Fn P w K mg base "from_lowest" 3 ["rays"] sFromL) (G_opposite : Fn P w K mg base "opposite" 1 ["one"] spOpp) (G_facing : Fn P w K mg base "facing" 1 ["side"] sFac) (G_met_at : Fn P w K mg base "met_at" 3 ["one", "other"] sMet) (G_half_rim : Fn P w K mg base "half_rim" 4 ["lines"] sHalf) : Fn P w K mg base "corners" 5 ["lines"] sCorn := by
  have sc := sc_corners
  refine fn_by d sc (by walk_at "len") (fun f cdv A outer s H E ds M R Y hr h => ?_)
  have hu := hr.units
  obtain ⟨x0, ls, rfl, hx0, hok, k⟩ := h
  have hlo : ∀ l ∈ ls, LineOk l := fun l hl => (hok.2 l hl).toLineOk
  have hlen := half_len hlo
  rcases hx0 with rfl | rfl
  all_goals
    refine ⟨_, (jds_cons (jst 1 sc.nd (jc G_half_rim hr (jda_cons (jd_var 0) jda_nil))) (jds_cons (jds_if (jtm o_lt (jd_blt c_len rfl T.b_len bt_len (jda_cons (jd_var 1) jda_nil)) jd_int) (jds_one (jds_ret jd_non)) jds_nil) (jds_cons (jds_setCompV (i := 2) [] ["one", "other"] [] sc.nd rfl (Or.inl rfl) rfl (by decide +kernel) rfl (by decide +kernel) (by decide +kernel) rfl all0 all0 (jpd_zip rfl T.b_zip (jda_cons (jd_var 1) (jda_cons (jd_catV (jd_sliceV (jd_var 1) (jdpo_some jd_int) jdpo_none) (jd_lstV (jda_cons (jc G_facing hr (jda_cons (jx (jd_var 1) jd_int) jda_nil)) jda_nil))) jda_nil))) (fun _ _ _ _ _ _ => (jdg_tup (n := 2) rfl (jdgs_cons (jn 0 (show (["one", "other"] : List Str).Nodup by decide +kernel)) (jdgs_cons (jn 1 (show (["one", "other"] : List Str).Nodup by decide +kernel)) jdgs_nil)))) (fun _ _ _ _ _ _ => jdifs_nil) (fun _ _ _ _ _ _ => (jc G_met_at hr (jda_cons (jd_var 0) (jda_cons (jd_var 1) jda_nil))))) (jds_one (jds_ret (jc G_from_lowest hr (jda_cons (jd_catV (jd_var 2) (jd_compV [] ["y", "u"] [] rfl (by decide +kernel) rfl (by decide +kernel) (by decide +kernel) rfl all0 all0 (jpd_seq (jd_var 2)) (fun _ _ _ _ _ _ => (jdg_tup (n := 2) rfl (jdgs_cons (jn 0 (show (["y", "u"] : List Str).Nodup by decide +kernel)) (jdgs_cons (jn 1 (show (["y", "u"] : List Str).Nodup by decide +kernel)) jdgs_nil)))) (fun _ _ _ _ _ _ => jdifs_nil) (fun _ _ _ _ _ _ => (jd_tup (jda_cons (jc G_opposite hr (jda_cons (jd_var 0) jda_nil)) (jda_cons (jc G_opposite hr (jda_cons (jd_var 1) jda_nil)) jda_nil)))))) jda_nil))))))), ?_⟩
    walk_at "sim"
    refine ⟨hok, fun hlt => ?_, fun hge => ?_⟩
    · have e : corF ls = none := by
        unfold corF
        cases e : halfF (sidesF ls) with
        | nil => rfl
        | cons a r =>
          cases r with
          | nil => rfl
          | cons b r => rw [e, List.length_map, List.length_cons, List.length_cons] at hlt; omega
      rw [e] at k
      exact k
    · obtain ⟨h0, x, l, e⟩ : ∃ h0 x l, halfF (sidesF ls) = h0 :: x :: l := by
        cases e : halfF (sidesF ls) with
        | nil => rw [e] at hge; exact absurd (by decide) hge
        | cons a r =>
          cases r with
          | nil => rw [e] at hge; exact absurd (by show (1 : Int) < 2; decide) hge
          | cons b r => exact ⟨a, b, r, rfl⟩
      have hne : ls ≠ [] := fun z => by rw [z] at e; cases e
      obtain ⟨g0, g, eg, m0, hg⟩ := half_main hlo hne
      rw [e] at eg
      injection eg with q1 q2
      subst q1; subst q2
      have hall : ∀ ab ∈ (h0 :: x :: l).zip (x :: l ++ [facZ h0]), SzS ab.1 ∧ SzS ab.2 ∧ veZ ab.1 ab.2 ≠ 0 := fun ab hab => by
        rcases hg with ⟨z, _⟩ | ⟨_, _, hg⟩
        · cases z
        · obtain ⟨a1, a2, a3⟩ := hg ab hab
          exact ⟨szs_sides hok _ a1, szs_sides hok _ a2, by omega⟩
      have ec : corF ls = some (rotF (raysF h0 (x :: l) ++ (raysF h0 (x :: l)).map ngZ)) := by unfold corF; rw [e]
      rw [ec] at k
      have rl := rays_len h0 (x :: l)
      have h12 := hok.1
      have hrs : ∀ z ∈ raysF h0 (x :: l), RS24 z := fun z hz => by
        obtain ⟨ab, hab, rfl⟩ := List.mem_map.mp hz
        obtain ⟨a1, a2, a3⟩ := hall ab hab
        have := ry_sz ⟨a1.p, a1.q, a1.r⟩ ⟨a2.p, a2.q, a2.r⟩ a3
        exact ⟨by have := this.1; omega, by have := this.2; omega⟩
      rw [e] at hlen ⊢
      rw [List.length_cons, List.length_cons] at hlen
      rw [List.map_cons]
      walk_at "sim"
      rw [cut_hd, ← List.map_cons, show [sdD (facZ h0)] = [facZ h0].map sdD from rfl, ← List.map_append, show sdD h0 :: (x :: l).map sdD = (h0 :: x :: l).map sdD from rfl, zip_sd]
      refine ⟨by rw [List.length_map]; exact Nat.le_trans (by rw [List.length_cons]; omega : (x :: l).length + 1 ≤ 1000) (by decide), ?_⟩
      refine compV_map (xs := (h0 :: x :: l).zip (x :: l ++ [facZ h0])) (enc := fun ab => D.tup [sdD ab.1, sdD ab.2]) (fun ab => rD (ry (tri ab.1) (tri ab.2))) ?_ (by simp only [seqD_vl, and_self]) (fun ab hab Q hQ => ?_) ?_
      · rw [List.length_zip, List.length_cons, List.length_cons]; omega
      · walk_at "sim"
        exact ⟨hall ab hab, hQ⟩
      · have er : ((h0 :: x :: l).zip (x :: l ++ [facZ h0])).map (fun ab => rD (ry (tri ab.1) (tri ab.2))) = (raysF h0 (x :: l)).map rD := by unfold raysF; rw [List.map_map]; rfl
        rw [er]
        walk_at "sim"
        refine compV_map (xs := raysF h0 (x :: l)) (enc := rD) (fun z => rD (ngZ z)) ?_ (by simp only [seqD_vl]) (fun z hz Q hQ => ?_) ?_
        · rw [rl, List.length_cons]; omega
        · rw [show rD z = D.tup [ratD z.1, ratD z.2] from rfl]
          walk_at "sim"
          exact hQ
        · have er2 : (raysF h0 (x :: l)).map (fun z => rD (ngZ z)) = ((raysF h0 (x :: l)).map ngZ).map rD := by rw [List.map_map]; rfl
          rw [er2]
          walk_at "sim"
          rw [← List.map_append]
          refine ⟨?_, ?_⟩
          · rw [List.length_map, List.length_map, List.length_map, rl]
            exact Nat.le_trans (by rw [List.length_cons]; omega : (x :: l).length + 1 + ((x :: l).length + 1) ≤ 1000) (by decide)
          · walk_at "sim"
            refine ⟨⟨?_, ?_, fun z hz => ?_⟩, k⟩
            · intro z
              have := congrArg List.length z
              rw [List.length_append, rl] at this
              simp at this
            · rw [List.length_append, List.length_map, rl, List.length_cons]; omega
            · rcases List.mem_append.mp hz with hz | hz
              · exact hrs z hz
              · obtain ⟨y, hy, rfl⟩ := List.mem_map.mp hz
                obtain ⟨y1, y2⟩ := hrs y hy
                exact ⟨by show sz (-y.1) ≤ _; rw [RM.sz_neg]; exact y1, by show sz (-y.2) ≤ _; rw [RM.sz_neg]; exact y2⟩
theorem ok_led_by_part (T : Txt K mg) (d : Df K mg "led_by_part" s_led_by_part ["part", "ray"]) (G_minus : Fn P w K mg base "minus" 4 ["one", "other"] spMinus) (G_times : Fn P w K mg base "times" 3 ["one", "other"] spTimes) (G_plus : Fn P w K mg base "plus" 3 ["one", "other"] spPlus) : Fn P w K mg base "led_by_part" 5 ["part", "ray"] sLedP := by
  have sc := sc_led_by_part
  refine fn_by d sc (by walk_at "len") (fun f cdv A outer s H E ds M R Y hr h => ?_)
  have hu := hr.units
  obtain ⟨x, y, u, rfl, hz, k⟩ := h
  refine ⟨_, (jds_cons (jds_asg (jd_var 0) (jdg_tup (n := 2) rfl (jdgs_cons (jn 2 sc.nd) (jdgs_cons (jn 3 sc.nd) jdgs_nil)))) (jds_cons (jds_asg (jd_var 1) (jdg_tup (n := 2) rfl (jdgs_cons (jn 4 sc.nd) (jdgs_cons (jn 5 sc.nd) jdgs_nil)))) (jds_cons (jds_if (jtm o_eqS (jd_var 2) jd_str) (jds_one (jds_ret (jd_tup (jda_cons (jc G_plus hr (jda_cons (jd_var 4) (jda_cons (jc G_times hr (jda_cons (jd_var 3) (jda_cons (jd_var 5) jda_nil))) jda_nil))) (jda_cons (jd_var 5) jda_nil))))) jds_nil) (jds_cons (jds_if (jtm o_eqS (jd_var 2) jd_str) (jds_one (jds_ret (jd_tup (jda_cons (jd_var 4) (jda_cons (jc G_minus hr (jda_cons (jd_var 5) (jda_cons (jc G_times hr (jda_cons (jd_var 3) (jda_cons (jd_var 4) jda_nil))) jda_nil))) jda_nil))))) jds_nil) (jds_one (jds_ret (jd_var 1))))))), ?_⟩
  walk_at "sim"
  unfold ledP at k
  refine ⟨fun h1 => ?_, fun h1 => ⟨fun h2 => ?_, fun h2 => ?_⟩⟩
  · rw [if_pos h1] at k; exact ⟨by omega, by walk_at "size", k⟩
  · rw [if_neg h1, if_pos h2] at k; exact ⟨by omega, by walk_at "size", k⟩
  · rw [if_neg h1, if_neg h2] at k; exact k
theorem ok_lines_of (T : Txt K mg) (d : Df K mg "lines_of" s_lines_of ["bench"]) (G_led_by_part : Fn P w K mg base "led_by_part" 5 ["part", "ray"] sLedP) : Fn P w K mg base "lines_of" 6 ["bench"] sLinesOf := by
  have sc := sc_lines_of
  refine fn_by d sc (by walk_at "len") (fun f cdv A outer s H E ds M R Y hr h => ?_)
  have hu := hr.units
  obtain ⟨x0, bs, rfl, hx0, ⟨hl, hok⟩, k⟩ := h
  rcases hx0 with rfl | rfl
  all_goals
    refine ⟨_, (jds_cons (jst 1 sc.nd (jd_lst jda_nil)) (jds_cons (jst 2 sc.nd (jd_globD rfl T.c_LEVEL_RAY)) (jds_cons (jst 3 sc.nd (jd_globD rfl T.c_AXIS_RAY)) (jds_cons (jds_forI PassesOwn.never rfl (jpd_seq (jd_var 0)) (jn 4 sc.nd) (jds_consM (jds_if (jtm o_eqS (jx (jd_var 4) jd_int) jd_str) (jds_one (jds_expr (jd_lm PySem.F.slot_list_append PySem.F.type_list_append dm_append (jd_var 1) (jda_cons (jd_tup (jda_cons (jx (jd_var 2) jd_int) (jda_cons (jx (jd_var 3) jd_int) (jda_cons (jx (jd_var 4) jd_int) jda_nil)))) jda_nil)))) jds_nil) (jds_cons (jst 2 sc.nd (jc G_led_by_part hr (jda_cons (jd_var 4) (jda_cons (jd_var 2) jda_nil)))) (jds_one (jst 3 sc.nd (jc G_led_by_part hr (jda_cons (jd_var 4) (jda_cons (jd_var 3) jda_nil)))))))) (jds_one (jds_ret (jd_fgt (jd_frz (jd_var 1))))))))), ?_⟩
    walk_at "sim"
    intro p hp
    refine ForK.by (fun i e M' => (∃ y0 z : Option D, e = [y0, some (.ref p), some (rayD (outP (bs.take i) (1, 0)).1 (outP (bs.take i) (1, 0)).2), some (rayD (outP (bs.take i) (0, 1)).1 (outP (bs.take i) (0, 1)).2), z]) ∧ M' = updM M p (.lst ((lnsN bs i).map lineD))) ⟨⟨_, _, rfl⟩, rfl⟩ (fun i e M' _ _ => by simp only [seqD_vl, seqD_tup]) ?_ ?_
    · rintro i dd e M' hd ⟨⟨y0, z, rfl⟩, rfl⟩
      obtain ⟨pt, hpt, rfl⟩ := part_item hd
      have hm := List.mem_of_getElem? hpt
      have t1 := (take_cd' cd10 hok i).t2
      have t2 := (take_cd' cd01 hok i).t2
      have a1 := t1.y
      have a2 := t1.u
      have b1 := t2.y
      have b2 := t2.u
      have q2 := (hok pt hm).sz
      have o1 := out_take hpt (1, 0)
      have o2 := out_take hpt (0, 1)
      have hll := lnsN_len bs i
      have hi := (List.getElem?_eq_some_iff.mp hpt).1
      walk_at "sim"
      refine JoinBy (fun e' M' => e' = [y0, some (.ref p), some (rayD (outP (bs.take i) (1, 0)).1 (outP (bs.take i) (1, 0)).2), some (rayD (outP (bs.take i) (0, 1)).1 (outP (bs.take i) (0, 1)).2), some (partD pt)] ∧ M' = updM M p (.lst ((lnsN bs (i + 1)).map lineD))) ?_ ?_
      · walk_at "sim"
        refine ⟨fun h1 => LMK_of updM_same (App_of updM_same (by rw [List.length_map]; omega) ?_), fun h1 => ?_⟩
        · rw [updM_upd, lnsN_stop hpt h1, List.map_append]; rfl
        · rw [lnsN_not hpt h1]
      · rintro e' M' ⟨rfl, rfl⟩
        walk_at "sim"
        refine ⟨by omega, by omega, ⟨y0, some (partD pt), ?_⟩⟩
        rw [o1, o2]
    · rintro e M' ⟨⟨y0, z, rfl⟩, rfl⟩
      walk_at "sim"
      rw [z_FrzK updM_same, delM_upd hp]
      walk_at "sim"
      rw [List.length_map]
      exact ⟨_, fun _ _ h => h, k⟩
theorem ok_seen_from (T : Txt K mg) (d : Df K mg "seen_from" s_seen_from ["bench", "x"]) (G_lines_of : Fn P w K mg base "lines_of" 6 ["bench"] sLinesOf) (G_plus : Fn P w K mg base "plus" 3 ["one", "other"] spPlus) (G_times : Fn P w K mg base "times" 3 ["one", "other"] spTimes) : Fn P w K mg base "seen_from" 7 ["bench", "x"] sSeen := by
  have sc := sc_seen_from
  refine fn_by d sc (by walk_at "len") (fun f cdv A outer s H E ds M R Y hr h => ?_)
  have hu := hr.units
  obtain ⟨x0, bs, x, rfl, hx0, ⟨hl, hok, hx⟩, k⟩ := h
  have hll := lnsN_len bs bs.length
  have hz := lnsN_sz hl hok bs.length
  rcases hx0 with rfl | rfl
  all_goals
    refine ⟨_, (jds_one (jds_ret (jd_compV [1] ["p", "q", "r"] ["x"] rfl (by decide +kernel) rfl (by decide +kernel) (by decide +kernel) rfl (all1 ⟨rfl, rfl⟩) (all1 (Or.inl rfl)) (jpd_seq (jc G_lines_of hr (jda_cons (jd_var 0) jda_nil))) (fun _ _ _ _ _ _ => (jdg_tup (n := 3) rfl (jdgs_cons (jn 0 (show (["p", "q", "r", "x"] : List Str).Nodup by decide +kernel)) (jdgs_cons (jn 1 (show (["p", "q", "r", "x"] : List Str).Nodup by decide +kernel)) (jdgs_cons (jn 2 (show (["p", "q", "r", "x"] : List Str).Nodup by decide +kernel)) jdgs_nil))))) (fun _ _ _ _ _ _ => jdifs_nil) (fun _ _ _ _ _ _ => (jd_tup (jda_cons (jd_var 0) (jda_cons (jc G_plus hr (jda_cons (jc G_times hr (jda_cons (jd_var 0) (jda_cons (jd_var 3) jda_nil))) (jda_cons (jd_var 1) jda_nil))) (jda_cons (jd_var 2) jda_nil)))))))), ?_⟩
    walk_at "sim"
    refine ⟨⟨hl, hok⟩, compV_map (fun l => lineD (l.1, l.1 * x + l.2.1, l.2.2)) (by omega) (by simp only [seqD_vl]) (fun l hl Q hQ => ?_) k⟩
    obtain ⟨z1, z2, z3⟩ := hz l hl
    have m := RM.sz_mul l.1 x
    walk_at "sim"
    exact ⟨by omega, by omega, hQ⟩
theorem ok_field (T : Txt K mg) (d : Df K mg "field" s_field ["bench", "x"]) (G_rising_once : Fn P w K mg base "rising_once" 2 ["ratios"] sRising) (G_slopes : Fn P w K mg base "slopes" 6 ["lines", "h"] sSlopesW) (G_corners : Fn P w K mg base "corners" 5 ["lines"] sCorn) (G_seen_from : Fn P w K mg base "seen_from" 7 ["bench", "x"] sSeen) : Fn P w K mg base "field" 8 ["bench", "x"] sField := by
  have sc := sc_field
  refine fn_by d sc (by walk_at "len") (fun f cdv A outer s H E ds M R Y hr h => ?_)
  have hu := hr.units
  obtain ⟨x0, bs, x, rfl, hx0, ⟨hl, hok, hx⟩, k⟩ := h
  have hso := seen_ok5 hl hok hx
  have hls := seen_ls hl hok hx
  have es : (lnsN bs bs.length).map (fun l => lineD (l.1, l.1 * x + l.2.1, l.2.2)) = (seenL bs x).map lineD := by unfold seenL; rw [List.map_map]; rfl
  rcases hx0 with rfl | rfl
  all_goals
    refine ⟨_, (jds_cons (jst 2 sc.nd (jc G_seen_from hr (jda_cons (jd_var 0) (jda_cons (jd_var 1) jda_nil)))) (jds_cons (jst 3 sc.nd (jc G_corners hr (jda_cons (jd_var 2) jda_nil))) (jds_cons (jds_if (jtm o_is (jd_var 3) jd_non) (jds_one (jds_ret (jd_fgt jd_non))) jds_nil) (jds_cons (jst 4 sc.nd (jd_lst jda_nil)) (jds_cons (jds_forI PassesOwn.never rfl (jpd_seq (jc G_rising_once hr (jda_cons (jd_compV [] ["ray"] [] rfl (by decide +kernel) rfl (by decide +kernel) (by decide +kernel) rfl all0 all0 (jpd_seq (jd_var 3)) (fun _ _ _ _ _ _ => (jn 0 (show (["ray"] : List Str).Nodup by decide +kernel))) (fun _ _ _ _ _ _ => jdifs_nil) (fun _ _ _ _ _ _ => (jx (jd_var 0) jd_int))) jda_nil))) (jn 5 sc.nd) (jds_cons (jds_asg (jc G_slopes hr (jda_cons (jd_var 2) (jda_cons (jd_var 5) jda_nil))) (jdg_tup (n := 2) rfl (jdgs_cons (jn 6 sc.nd) (jdgs_cons (jn 7 sc.nd) jdgs_nil)))) (jds_one (jds_expr (jd_lm PySem.F.slot_list_append PySem.F.type_list_append dm_append (jd_var 4) (jda_cons (jd_tup (jda_cons (jd_var 5) (jda_cons (jd_var 6) (jda_cons (jd_var 7) jda_nil)))) jda_nil)))))) (jds_one (jds_ret (jd_fgt (jd_var 4))))))))), ?_⟩
    walk_at "sim"
    rw [es]
    refine ⟨⟨hl, hok, hx⟩, ?_⟩
    walk_at "sim"
    refine ⟨hls, ?_⟩
    generalize seenL bs x = ls at *
    have hlo : ∀ l ∈ ls, LineOk l := fun l h => (hso l h).1.toLineOk
    unfold fieldK at k
    cases ec : corF ls with
    | none =>
      rw [ec] at k
      show gIs false .non .non _ _
      rw [z_Is (b := true) rfl]
      walk_at "sim"
      exact Fgt_of (fun _ _ h => h) k
    | some cs =>
      rw [ec] at k
      show gIs false (.vl (cs.map rD)) .non _ _
      rw [z_Is (b := false) rfl]
      walk_at "sim"
      obtain ⟨hcl, hcz⟩ := cor_sz hlo (fun l h => (hso l h).2.2) ec
      have fo := field_ok hlo ec
      have h12 := hls.1
      intro p hp
      refine SeqK_of (ds := cs.map rD) (by show seqD _ (.vl _) _; rw [seqD_vl]) ?_
      refine compV_map (xs := cs) (enc := rD) (fun z => ratD z.1) (by omega) (by show seqD _ (.vl _) _; rw [seqD_vl]) (fun z hz Q hQ => ?_) ?_
      · walk_at "sim"
        exact hQ
      · have em : cs.map (fun z => ratD z.1) = (cs.map (·.1)).map ratD := by rw [List.map_map]; rfl
        rw [em]
        walk_at "sim"
        refine ⟨⟨by rw [List.length_map]; omega, fun q hq => ?_⟩, ?_⟩
        · obtain ⟨z, hz, rfl⟩ := List.mem_map.mp hq
          have := (hcz z hz).1
          show sz z.1 ≤ 2402
          omega
        · walk_at "sim"
          unfold rowsF at k
          have hhz : ∀ h ∈ risF (cs.map (·.1)), sz h ≤ 1177 := fun h hh => by
            obtain ⟨z, hz, rfl⟩ := (fo.mem h).mp hh
            exact (hcz z hz).1
          have hhl : (risF (cs.map (·.1))).length ≤ 100 := by
            have := risF_len (cs.map (·.1))
            rw [List.length_map] at this
            omega
          have hcone := fo.cone
          obtain ⟨hs, ehs⟩ : ∃ hs, hs = risF (cs.map (·.1)) := ⟨_, rfl⟩
          have k : ∀ p, M p = none → R (.ref p) (updM M p (.lst ((hs.map fun h => (h, coneP ls h)).map lineD))) := by rw [ehs]; exact k
          rw [← ehs] at hhz hhl hcone ⊢
          refine ForK.by (fun i e M' => M' = updM M p (.lst (((hs.take i).map fun h => (h, coneP ls h)).map lineD)) ∧ ∃ z0 z3 z5 z6 z7 : Option D, e = [z0, some (ratD x), some (.vl (ls.map lineD)), z3, some (.ref p), z5, z6, z7]) ⟨rfl, _, _, _, _, _, rfl⟩ (fun i e M' _ _ => by simp only [seqD_vl]) ?_ ?_
          · rintro i dd e M' hd ⟨rfl, z0, z3, z5, z6, z7, rfl⟩
            rw [List.getElem?_map] at hd
            cases hq : hs[i]? with
            | none => rw [hq] at hd; cases hd
            | some g =>
              rw [hq] at hd
              obtain rfl := Option.some.inj hd
              have hgm := List.mem_of_getElem? hq
              obtain ⟨lo, hi, ca⟩ := hcone g hgm
              have hgz := hhz g hgm
              have hi1 := (List.getElem?_eq_some_iff.mp hq).1
              walk_at "sim"
              refine ⟨⟨h12, fun l hl => (hso l hl).2.1, by omega⟩, ?_⟩
              rw [ca.d]
              walk_at "sim"
              refine LMK_of updM_same (App_of updM_same (by rw [List.length_map, List.length_map, List.length_take]; omega) ⟨?_, _, _, _, _, _, rfl⟩)
              rw [updM_upd, List.take_add_one, hq, List.map_append, List.map_append]
              have ep : coneP ls g = (lo, hi) := coneP_of ca
              show updM M p (.lst (_ ++ [lineD (g, lo, hi)])) = updM M p (.lst (_ ++ [lineD (g, coneP ls g)]))
              rw [ep]
          · rintro e M' ⟨rfl, z0, z3, z5, z6, z7, rfl⟩
            walk_at "sim"
            rw [List.length_map, List.take_length]
            exact Fgt_of (fun _ _ h => h) (k p hp)
theorem ok__law_under (T : Txt K mg) (d : Df K mg "_law_under" s__law_under ["one", "other"])  : Fn P w K mg base "_law_under" 1 ["one", "other"] spLess := by
  have sc := sc__law_under
  refine fn_by d sc (by walk_at "len") (fun f cdv A outer s H E ds M R Y hr h => ?_)
  have hu := hr.units
  obtain ⟨q, r, rfl, hz, k⟩ := h
  refine ⟨_, (jds_one (jds_ret (jm o_lt (jd_op o_mul (jx (jd_var 0) jd_int) (jx (jd_var 1) jd_int)) (jd_op o_mul (jx (jd_var 1) jd_int) (jx (jd_var 0) jd_int))))), ?_⟩
  walk_at "sim"
  have e : decide (q.num * (r.den : Int) < r.num * (q.den : Int)) = decide (q < r) := decide_eq_decide.mpr (Rat.lt_iff q r).symm
  rw [e]
  exact ⟨mND hz, mND (by omega), k⟩
theorem ok__law_ratio (T : Txt K mg) (d : Df K mg "_law_ratio" s__law_ratio ["top", "bottom"])  : Fn P w K mg base "_law_ratio" 1 ["top", "bottom"] spLow := by
  have sc := sc__law_ratio
  refine fn_by d sc (by walk_at "len") (fun f cdv A outer s H E ds M R Y hr h => ?_)
  have hu := hr.units
  obtain ⟨a, b, rfl, hb, hl, k⟩ := h
  refine ⟨_, (jds_consM (jds_if (jtm o_lt (jd_var 1) jd_int) (jds_one (jds_par (i := 0) (j := 1) rfl sc.nd rfl rfl (by decide) rfl rfl (jda_cons (jd_op o_sub jd_int (jd_var 0)) (jda_cons (jd_op o_sub jd_int (jd_var 1)) jda_nil)))) jds_nil) (jds_cons (jds_par (i := 2) (j := 3) rfl sc.nd rfl rfl (by decide) rfl rfl (jda_cons (jd_blt c_abs rfl T.b_abs bt_abs (jda_cons (jd_var 0) jda_nil)) (jda_cons (jd_var 1) jda_nil))) (jds_cons (jds_while PassesOwn.never (jtm o_gt (jd_var 2) jd_int) (jds_one (jds_par (i := 2) (j := 3) rfl sc.nd rfl rfl (by decide) rfl rfl (jda_cons (jd_op o_mod (jd_var 3) (jd_var 2)) (jda_cons (jd_var 2) jda_nil))))) (jds_one (jds_ret (jd_tup (jda_cons (jd_op o_fdiv (jd_var 0) (jd_var 3)) (jda_cons (jd_op o_fdiv (jd_var 1) (jd_var 3)) jda_nil)))))))), ?_⟩
  walk_at "sim"
  refine JoinBy (fun e' M' => M' = M ∧ ∃ (t u : Int) (x1 x2 : Option D), e' = [some (.int t), some (.int u), x1, x2] ∧ 0 < u ∧ u.natAbs.log2 < 9000 ∧ Rat.divInt t u = Rat.divInt a b) ?_ ?_
  · walk_at "sim"
    refine ⟨fun h1 => ⟨_, _, _, _, rfl, by omega, by rw [Int.zero_sub, Int.natAbs_neg]; exact hl, by rw [Int.zero_sub, Int.zero_sub, Rat.neg_divInt_neg]⟩, fun h1 => ⟨_, _, _, _, rfl, by omega, hl, rfl⟩⟩
  · rintro e' M' ⟨rfl, t, u, x1, x2, rfl, hu0, hul, hq⟩
    walk_at "sim"
    refine WhileBy (fun m e M2 => M2 = M' ∧ ∃ v : Nat, e = [some (.int t), some (.int u), some (.int (m : Int)), some (.int (v : Int))] ∧ Nat.gcd m v = Nat.gcd t.natAbs u.natAbs) t.natAbs ⟨rfl, u.natAbs, by rw [show ((u.natAbs : Nat) : Int) = u by omega], rfl⟩ ?_
    rintro m e M2 ⟨rfl, v, rfl, hg⟩
    walk_at "sim"
    refine ⟨fun h0 => ⟨by omega, v % m, Nat.mod_lt _ (by omega), m, by rw [Int.natCast_emod], by rw [← hg, Nat.gcd_comm m v, RM.gcd_step v m (by omega), Nat.gcd_comm]⟩, fun h0 => ?_⟩
    have hm : m = 0 := by omega
    subst hm
    rw [Nat.gcd_zero_left] at hg
    subst hg
    have hn := gcd_ne (a := t) (b := u) (by omega)
    have hlg := gcd_log (a := t) (b := u) (by omega) hul
    rw [← hq] at k
    exact ⟨⟨hn, hlg⟩, ⟨hn, hlg⟩, low_fin (by omega) (by rw [if_neg (by omega)]) k⟩
theorem ok__law_take (T : Txt K mg) (d : Df K mg "_law_take" s__law_take ["one", "other"]) (G__law_ratio : Fn P w K mg base "_law_ratio" 1 ["top", "bottom"] spLow) : Fn P w K mg base "_law_take" 2 ["one", "other"] spMinus := by
  have sc := sc__law_take
  refine fn_by d sc (by walk_at "len") (fun f cdv A outer s H E ds M R Y hr h => ?_)
  have hu := hr.units
  obtain ⟨q, r, rfl, hz, k⟩ := h
  refine ⟨_, (jds_one (jds_ret (jc G__law_ratio hr (jda_cons (jd_op o_sub (jd_op o_mul (jx (jd_var 0) jd_int) (jx (jd_var 1) jd_int)) (jd_op o_mul (jx (jd_var 1) jd_int) (jx (jd_var 0) jd_int))) (jda_cons (jd_op o_mul (jx (jd_var 0) jd_int) (jx (jd_var 1) jd_int)) jda_nil))))), ?_⟩
  walk_at "sim"
  rw [sub_div]
  exact ⟨mND hz, mND (by omega), mDD hz, Int.mul_ne_zero (RM.den_ne q) (RM.den_ne r), lDD hz, k⟩
theorem ok__law_by (T : Txt K mg) (d : Df K mg "_law_by" s__law_by ["one", "other"]) (G__law_ratio : Fn P w K mg base "_law_ratio" 1 ["top", "bottom"] spLow) : Fn P w K mg base "_law_by" 2 ["one", "other"] spTimes := by
  have sc := sc__law_by
  refine fn_by d sc (by walk_at "len") (fun f cdv A outer s H E ds M R Y hr h => ?_)
  have hu := hr.units
  obtain ⟨q, r, rfl, hz, k⟩ := h
  refine ⟨_, (jds_one (jds_ret (jc G__law_ratio hr (jda_cons (jd_op o_mul (jx (jd_var 0) jd_int) (jx (jd_var 1) jd_int)) (jda_cons (jd_op o_mul (jx (jd_var 0) jd_int) (jx (jd_var 1) jd_int)) jda_nil))))), ?_⟩
  walk_at "sim"
  rw [← RM.mul_eq]
  exact ⟨mNN hz, mDD hz, Int.mul_ne_zero (RM.den_ne q) (RM.den_ne r), lDD hz, k⟩
theorem ok__law_add (T : Txt K mg) (d : Df K mg "_law_add" s__law_add ["one", "other"]) (G__law_ratio : Fn P w K mg base "_law_ratio" 1 ["top", "bottom"] spLow) : Fn P w K mg base "_law_add" 2 ["one", "other"] spPlus := by
  have sc := sc__law_add
  refine fn_by d sc (by walk_at "len") (fun f cdv A outer s H E ds M R Y hr h => ?_)
  have hu := hr.units
  obtain ⟨q, r, rfl, hz, k⟩ := h
  refine ⟨_, (jds_one (jds_ret (jc G__law_ratio hr (jda_cons (jd_op o_add (jd_op o_mul (jx (jd_var 0) jd_int) (jx (jd_var 1) jd_int)) (jd_op o_mul (jx (jd_var 1) jd_int) (jx (jd_var 0) jd_int))) (jda_cons (jd_op o_mul (jx (jd_var 0) jd_int) (jx (jd_var 1) jd_int)) jda_nil))))), ?_⟩
  walk_at "sim"
  rw [← RM.add_eq]
  exact ⟨mND hz, mND (by omega), mDD hz, Int.mul_ne_zero (RM.den_ne q) (RM.den_ne r), lDD hz, k⟩
theorem ok__law_led (T : Txt K mg) (d : Df K mg "_law_led" s__law_led ["part", "ray"]) (G__law_take : Fn P w K mg base "_law_take" 2 ["one", "other"] spMinus) (G__law_by : Fn P w K mg base "_law_by" 2 ["one", "other"] spTimes) (G__law_add : Fn P w K mg base "_law_add" 2 ["one", "other"] spPlus) : Fn P w K mg base "_law_led" 3 ["part", "ray"] sLedP := by
  have sc := sc__law_led
  refine fn_by d sc (by walk_at "len") (fun f cdv A outer s H E ds M R Y hr h => ?_)
  have hu := hr.units
  obtain ⟨x, y, u, rfl, hz, k⟩ := h
  refine ⟨_, (jds_cons (jds_asg (jd_var 1) (jdg_tup (n := 2) rfl (jdgs_cons (jn 2 sc.nd) (jdgs_cons (jn 3 sc.nd) jdgs_nil)))) (jds_cons (jds_if (jtm o_eqS (jx (jd_var 0) jd_int) jd_str) (jds_one (jds_ret (jd_tup (jda_cons (jc G__law_add hr (jda_cons (jd_var 2) (jda_cons (jc G__law_by hr (jda_cons (jx (jd_var 0) jd_int) (jda_cons (jd_var 3) jda_nil))) jda_nil))) (jda_cons (jd_var 3) jda_nil))))) jds_nil) (jds_cons (jds_if (jtm o_eqS (jx (jd_var 0) jd_int) jd_str) (jds_one (jds_ret (jd_tup (jda_cons (jd_var 2) (jda_cons (jc G__law_take hr (jda_cons (jd_var 3) (jda_cons (jc G__law_by hr (jda_cons (jx (jd_var 0) jd_int) (jda_cons (jd_var 2) jda_nil))) jda_nil))) jda_nil))))) jds_nil) (jds_one (jds_ret (jd_var 1)))))), ?_⟩
  walk_at "sim"
  unfold ledP at k
  refine ⟨fun h1 => ?_, fun h1 => ⟨fun h2 => ?_, fun h2 => ?_⟩⟩
  · rw [if_pos h1] at k; exact ⟨by omega, by walk_at "size", k⟩
  · rw [if_neg h1, if_pos h2] at k; exact ⟨by omega, by walk_at "size", k⟩
  · rw [if_neg h1, if_neg h2] at k; exact k
theorem ok__law_lines (T : Txt K mg) (d : Df K mg "_law_lines" s__law_lines ["bench"]) (G__law_led : Fn P w K mg base "_law_led" 3 ["part", "ray"] sLedP) : Fn P w K mg base "_law_lines" 4 ["bench"] sLinesK := by
  have sc := sc__law_lines
  refine fn_by d sc (by walk_at "len") (fun f cdv A outer s H E ds M R Y hr h => ?_)
  have hu := hr.units
  obtain ⟨bs, rfl, ⟨hl, hok⟩, k⟩ := h
  refine ⟨_, (jds_cons (jst 1 sc.nd (jd_tup (jda_cons (jd_tup (jda_cons jd_int (jda_cons jd_int jda_nil))) (jda_cons (jd_tup (jda_cons jd_int (jda_cons jd_int jda_nil))) jda_nil)))) (jds_cons (jst 2 sc.nd (jd_tup (jda_cons (jd_tup (jda_cons jd_int (jda_cons jd_int jda_nil))) (jda_cons (jd_tup (jda_cons jd_int (jda_cons jd_int jda_nil))) jda_nil)))) (jds_cons (jst 3 sc.nd (jd_lst jda_nil)) (jds_cons (jds_forI PassesOwn.never rfl (jpd_enum rfl T.b_enumerate (jda_cons (jd_var 0) jda_nil)) (jdg_tup (n := 2) rfl (jdgs_cons (jn 4 sc.nd) (jdgs_cons (jn 5 sc.nd) jdgs_nil))) (jds_consM (jds_if (jtm o_eqS (jx (jd_var 5) jd_int) jd_str) (jds_one (jds_expr (jd_lm PySem.F.slot_list_append PySem.F.type_list_append dm_append (jd_var 3) (jda_cons (jd_tup (jda_cons (jd_var 4) (jda_cons (jx (jd_var 1) jd_int) (jda_cons (jx (jd_var 2) jd_int) (jda_cons (jx (jd_var 5) jd_int) jda_nil))))) jda_nil)))) jds_nil) (jds_cons (jst 1 sc.nd (jc G__law_led hr (jda_cons (jd_var 5) (jda_cons (jd_var 1) jda_nil)))) (jds_one (jst 2 sc.nd (jc G__law_led hr (jda_cons (jd_var 5) (jda_cons (jd_var 2) jda_nil)))))))) (jds_one (jds_ret (jd_fgt (jd_frz (jd_var 3))))))))), ?_⟩
  walk_at "sim"
  intro p hp
  refine ForK.by (fun i e M' => (∃ z4 z5 : Option D, e = [some (D.vl (List.map partD bs)), some (rayD (outP (bs.take i) (1, 0)).1 (outP (bs.take i) (1, 0)).2), some (rayD (outP (bs.take i) (0, 1)).1 (outP (bs.take i) (0, 1)).2), some (.ref p), z4, z5]) ∧ M' = updM M p (.lst ((lnsK bs i).map lineK))) ⟨⟨_, _, rfl⟩, rfl⟩ (fun i e M' _ _ => by simp only [seqD_vl]) ?_ ?_
  · rintro i dd e M' hd ⟨⟨y0, z, rfl⟩, rfl⟩
    obtain ⟨dp, hdp, rfl⟩ := enumD_of hd
    obtain ⟨pt, hpt, rfl⟩ := part_item hdp
    have hm := List.mem_of_getElem? hpt
    have t1 := (take_cd' cd10 hok i).t2
    have t2 := (take_cd' cd01 hok i).t2
    have a1 := t1.y
    have a2 := t1.u
    have b1 := t2.y
    have b2 := t2.u
    have q2 := (hok pt hm).sz
    have o1 := out_take hpt (1, 0)
    have o2 := out_take hpt (0, 1)
    have hll := lnsK_len bs i
    have hi := (List.getElem?_eq_some_iff.mp hpt).1
    walk_at "sim"
    refine JoinBy (fun e' M' => e' = [some (D.vl (List.map partD bs)), some (rayD (outP (bs.take i) (1, 0)).1 (outP (bs.take i) (1, 0)).2), some (rayD (outP (bs.take i) (0, 1)).1 (outP (bs.take i) (0, 1)).2), some (.ref p), some (.int (i : Int)), some (partD pt)] ∧ M' = updM M p (.lst ((lnsK bs (i + 1)).map lineK))) ?_ ?_
    · walk_at "sim"
      refine ⟨fun h1 => LMK_of updM_same (App_of updM_same (by rw [List.length_map]; omega) ?_), fun h1 => ?_⟩
      · rw [updM_upd, lnsK_stop hpt h1, List.map_append]; rfl
      · rw [lnsK_not hpt h1]
    · rintro e' M' ⟨rfl, rfl⟩
      walk_at "sim"
      refine ⟨by omega, by omega, ⟨some (.int (i : Int)), some (partD pt), ?_⟩⟩
      rw [o1, o2]
  · rw [enumD_length, List.length_map]
    rintro e M' ⟨⟨y0, z, rfl⟩, rfl⟩
    walk_at "sim"
    rw [z_FrzK updM_same, delM_upd hp]
    walk_at "sim"
    exact ⟨_, fun _ _ h => h, k⟩
theorem ok__law_over (T : Txt K mg) (d : Df K mg "_law_over" s__law_over ["one", "other"]) (G__law_ratio : Fn P w K mg base "_law_ratio" 1 ["top", "bottom"] spLow) : Fn P w K mg base "_law_over" 2 ["one", "other"] spOver := by
  have sc := sc__law_over
  refine fn_by d sc (by walk_at "len") (fun f cdv A outer s H E ds M R Y hr h => ?_)
  have hu := hr.units
  obtain ⟨q, r, rfl, hr0, hz, k⟩ := h
  refine ⟨_, (jds_one (jds_ret (jc G__law_ratio hr (jda_cons (jd_op o_mul (jx (jd_var 0) jd_int) (jx (jd_var 1) jd_int)) (jda_cons (jd_op o_mul (jx (jd_var 0) jd_int) (jx (jd_var 1) jd_int)) jda_nil))))), ?_⟩
  walk_at "sim"
  rw [← RM.div_eq]
  have hn : r.num ≠ 0 := fun z => hr0 (Rat.num_eq_zero.mp z)
  exact ⟨mND hz, mulOk _ _ (den_lt q) (num_lt r) (by omega), Int.mul_ne_zero (RM.den_ne q) hn, log_lt (Nat.lt_of_lt_of_le (mulsz (den_lt q) (num_lt r)) (Nat.pow_le_pow_right (by decide) (by omega))) (by decide), k⟩
theorem ok__law_cone (T : Txt K mg) (d : Df K mg "_law_cone" s__law_cone ["bench", "x", "h"]) (G__law_under : Fn P w K mg base "_law_under" 1 ["one", "other"] spLess) (G__law_lines : Fn P w K mg base "_law_lines" 4 ["bench"] sLinesK) (G__law_over : Fn P w K mg base "_law_over" 2 ["one", "other"] spOver) (G__law_take : Fn P w K mg base "_law_take" 2 ["one", "other"] spMinus) (G__law_by : Fn P w K mg base "_law_by" 2 ["one", "other"] spTimes) (G__law_add : Fn P w K mg base "_law_add" 2 ["one", "other"] spPlus) : Fn P w K mg base "_law_cone" 5 ["bench", "x", "h"] sLawConeW := by
  have sc := sc__law_cone
  refine fn_by d sc (by walk_at "len") (fun f cdv A outer s H E ds M R Y hr h => ?_)
  have hu := hr.units
  obtain ⟨bs, x, g, rfl, ⟨hl, hok, hx, hg⟩, k⟩ := h
  refine ⟨_, (jds_cons (jst 3 sc.nd jd_non) (jds_cons (jst 4 sc.nd jd_non) (jds_cons (jds_forI PassesOwn.never rfl (jpd_seq (jc G__law_lines hr (jda_cons (jd_var 0) jda_nil))) (jdg_tup (n := 4) rfl (jdgs_cons (jn 5 sc.nd) (jdgs_cons (jn 6 sc.nd) (jdgs_cons (jn 7 sc.nd) (jdgs_cons (jn 8 sc.nd) jdgs_nil))))) (jds_cons (jst 9 sc.nd (jc G__law_add hr (jda_cons (jc G__law_by hr (jda_cons (jd_var 6) (jda_cons (jd_var 1) jda_nil))) (jda_cons (jd_var 7) jda_nil)))) (jds_cons (jst 10 sc.nd (jc G__law_by hr (jda_cons (jd_var 6) (jda_cons (jd_var 2) jda_nil)))) (jds_one (jds_if (jtm o_eqI (jx (jd_var 9) jd_int) jd_int) (jds_one (jds_if (jd_tval (jc G__law_under hr (jda_cons (jd_var 8) (jda_cons (jd_tup (jda_cons (jd_blt c_abs rfl T.b_abs bt_abs (jda_cons (jx (jd_var 10) jd_int) jda_nil)) (jda_cons (jx (jd_var 10) jd_int) jda_nil))) jda_nil)))) (jds_one (jds_ret jd_non)) jds_nil)) (jds_cons (jst 11 sc.nd (jc G__law_over hr (jda_cons (jc G__law_take hr (jda_cons (jd_var 8) (jda_cons (jd_var 10) jda_nil))) (jda_cons (jd_var 9) jda_nil)))) (jds_cons (jst 12 sc.nd (jc G__law_over hr (jda_cons (jc G__law_take hr (jda_cons (jd_tup (jda_cons (jd_op o_sub jd_int (jx (jd_var 8) jd_int)) (jda_cons (jx (jd_var 8) jd_int) jda_nil))) (jda_cons (jd_var 10) jda_nil))) (jda_cons (jd_var 9) jda_nil)))) (jds_consM (jds_if (jd_tval (jc G__law_under hr (jda_cons (jd_var 11) (jda_cons (jd_var 12) jda_nil)))) (jds_one (jds_par (i := 11) (j := 12) rfl sc.nd rfl rfl (by decide) rfl rfl (jda_cons (jd_var 12) (jda_cons (jd_var 11) jda_nil)))) jds_nil) (jds_cons (jds_if (jd_tw (jd_or (jtm o_is (jd_var 3) jd_non) (jd_or1 (jd_tval (jc G__law_under hr (jda_cons (jd_var 3) (jda_cons (jd_var 12) jda_nil))))))) (jds_one (jst 3 sc.nd (jd_var 12))) jds_nil) (jds_one (jds_if (jd_tw (jd_or (jtm o_is (jd_var 4) jd_non) (jd_or1 (jd_tval (jc G__law_under hr (jda_cons (jd_var 11) (jda_cons (jd_var 4) jda_nil))))))) (jds_one (jst 4 sc.nd (jd_var 11))) jds_nil))))))))))) (jds_cons (jds_if (jd_tw (jd_and (jtm o_isnot (jd_var 3) jd_non) (jd_and1 (jd_tval (jc G__law_under hr (jda_cons (jd_var 4) (jda_cons (jd_var 3) jda_nil))))))) (jds_one (jds_ret jd_non)) jds_nil) (jds_one (jds_ret (jd_tup (jda_cons (jd_var 3) (jda_cons (jd_var 4) jda_nil))))))))), ?_⟩
  walk_at "sim"
  refine ⟨⟨hl, hok⟩, ?_⟩
  have htl := lnsK_tail bs bs.length
  have hso : ∀ l ∈ seenL bs x, LS5 l := fun l h => (seen_ok5 hl hok hx l h).2.1
  unfold seenL at k hso
  rw [← htl, List.map_map] at k hso
  have hzs : ∀ l ∈ lnsK bs bs.length, LSz 600 l.2 := fun l hm => lnsN_sz hl hok bs.length l.2 (by rw [← htl]; exact List.mem_map.mpr ⟨l, hm, rfl⟩)
  generalize lnsK bs bs.length = ls at *
  generalize ef : ((fun l : Rat × Rat × Rat => (l.1, l.1 * x + l.2.1, l.2.2)) ∘ fun z : Nat × Rat × Rat × Rat => z.2) = f at *
  refine ForK.by (fun i e M' => M' = M ∧ ∃ (st : Option (Rat × Rat)) (z4 z5 z6 z7 z8 z9 z10 z11 : Option D), e = [some (D.vl (List.map partD bs)), some (ratD x), some (ratD g), some (optD (st.map (·.1))), some (optD (st.map (·.2))), z4, z5, z6, z7, z8, z9, z10, z11] ∧ coneL g ((ls.drop i).map f) st = coneL g (ls.map f) none ∧ ∀ a b, st = some (a, b) → sz a ≤ 4100 ∧ sz b ≤ 4100) ⟨rfl, none, _, _, _, _, _, _, _, _, rfl, rfl, fun a b h => nomatch h⟩ (fun i e M' _ _ => by simp only [seqD_vl]) ?_ ?_
  · rintro i dd e M' hd ⟨rfl, st, z4, z5, z6, z7, z8, z9, z10, z11, rfl, hc, hs⟩
    obtain ⟨l, hli, rfl⟩ := lineK_item hd
    have hm := List.mem_of_getElem? hli
    obtain ⟨q1, q2, q3⟩ := hso (f l) (List.mem_map.mpr ⟨l, hm, rfl⟩)
    obtain ⟨y1, y2, y3⟩ := hzs l hm
    have hi := (List.getElem?_eq_some_iff.mp hli).1
    have hdrop : ls.drop i = l :: ls.drop (i + 1) := by
      rw [List.drop_eq_getElem_cons hi, (List.getElem?_eq_some_iff.mp hli).2]
    rw [hdrop, List.map_cons, coneL_cons] at hc
    subst ef
    dsimp only [Function.comp] at q1 q2 q3 hc
    have m0 := RM.sz_mul l.2.1 g
    have m1 := sz_abs (l.2.1 * g)
    have m9 := RM.sz_mul l.2.1 x
    unfold lineK
    walk_at "sim"
    refine ⟨by omega, by omega, by omega, fun hq0 => ?_, fun hq0 => ?_⟩
    · rw [if_pos (Rat.num_eq_zero.mp hq0)] at hc
      refine ⟨by omega, fun h => ?_, fun h => ?_⟩
      · rw [if_pos h] at hc
        rw [← hc] at k
        exact k
      · rw [if_neg h] at hc
        exact ⟨st, _, _, _, _, _, _, _, _, rfl, hc, hs⟩
    · have hn0 : l.2.1 * x + l.2.2.1 ≠ 0 := fun z => hq0 (Rat.num_eq_zero.mpr z)
      rw [if_neg hn0] at hc
      have hsd := law_sides (p := l.2.1) (q := l.2.1 * x + l.2.2.1) (r := l.2.2.2) (g := g) hn0
      have m2 := RM.sz_sub l.2.2.2 (l.2.1 * g)
      have m3 := RM.sz_neg l.2.2.2
      have m4 := RM.sz_sub (-l.2.2.2) (l.2.1 * g)
      have m5 := RM.sz_div (l.2.2.2 - l.2.1 * g) (l.2.1 * x + l.2.2.1) hn0
      have m6 := RM.sz_div (-l.2.2.2 - l.2.1 * g) (l.2.1 * x + l.2.2.1) hn0
      generalize l.2.1 * x + l.2.2.1 = sl0 at *
      generalize midS (l.2.1, sl0, l.2.2.2) g - halfS (l.2.1, sl0, l.2.2.2) = lo at *
      generalize midS (l.2.1, sl0, l.2.2.2) g + halfS (l.2.1, sl0, l.2.2.2) = up at *
      rw [Int.zero_sub, r_neg]
      walk_at "sim"
      refine ⟨by omega, hn0, by omega, by omega, hn0, by omega, ?_⟩
      refine JoinBy (fun e' M1 => M1 = M' ∧ e' = [some (D.vl (List.map partD bs)), some (ratD x), some (ratD g), some (optD (st.map (·.1))), some (optD (st.map (·.2))), some (.int (l.1 : Int)), some (ratD l.2.1), some (ratD l.2.2.1), some (ratD l.2.2.2), some (ratD sl0), some (ratD (l.2.1 * g)), some (ratD up), some (ratD lo)] ∧ sz up ≤ 4100 ∧ sz lo ≤ 4100) ?_ ?_
      · walk_at "sim"
        refine ⟨by omega, fun h => ?_, fun h => ?_⟩
        · rw [if_pos h] at hsd
          obtain ⟨e1, e2⟩ := Prod.mk.inj hsd
          subst e1 e2
          exact ⟨rfl, by omega, by omega⟩
        · rw [if_neg h] at hsd
          obtain ⟨e1, e2⟩ := Prod.mk.inj hsd
          subst e1 e2
          exact ⟨rfl, by omega, by omega⟩
      · rintro e' M1 ⟨rfl, rfl, hu, ho⟩
        rcases st with _ | ⟨a, b⟩
        · simp only [Option.map_none, optD, isNN]
          walk_at "sim"
          simp only [Option.map_none, optD, isNN]
          walk_at "sim"
          exact ⟨some (lo, up), _, _, _, _, _, _, _, _, rfl, hc, fun a b e => by cases e; exact ⟨ho, hu⟩⟩
        · obtain ⟨ha, hb⟩ := hs a b rfl
          replace hc : coneL g _ (some (if a < lo then lo else a, if up < b then up else b)) = _ := hc
          simp only [Option.map_some, optD, isRN]
          walk_at "sim"
          simp only [Option.map_some, optD, isRN]
          walk_at "sim"
          refine ⟨by omega, fun h1 => ?_, fun h1 => ?_⟩
          · rw [if_pos h1] at hc
            refine ⟨by omega, fun h2 => ?_, fun h2 => ?_⟩
            · rw [if_pos h2] at hc
              exact ⟨some (lo, up), _, _, _, _, _, _, _, _, rfl, hc, fun a b e => by cases e; exact ⟨ho, hu⟩⟩
            · rw [if_neg h2] at hc
              exact ⟨some (lo, b), _, _, _, _, _, _, _, _, rfl, hc, fun a b e => by cases e; exact ⟨ho, hb⟩⟩
          · rw [if_neg h1] at hc
            refine ⟨by omega, fun h2 => ?_, fun h2 => ?_⟩
            · rw [if_pos h2] at hc
              exact ⟨some (a, up), _, _, _, _, _, _, _, _, rfl, hc, fun a b e => by cases e; exact ⟨ha, hu⟩⟩
            · rw [if_neg h2] at hc
              exact ⟨some (a, b), _, _, _, _, _, _, _, _, rfl, hc, fun a b e => by cases e; exact ⟨ha, hb⟩⟩
  · rw [List.length_map]
    rintro e M' ⟨rfl, st, z4, z5, z6, z7, z8, z9, z10, z11, rfl, hc, hs⟩
    rw [List.drop_length, List.map_nil, coneL_nil] at hc
    rw [← hc] at k
    rcases st with _ | ⟨a, b⟩
    · simp only [Option.map_none, optD]
      walk_at "sim"
      simp only [isNN]
      walk_at "sim"
      exact k
    · obtain ⟨ha, hb⟩ := hs a b rfl
      simp only [Option.map_some, optD]
      walk_at "sim"
      simp only [isRN]
      walk_at "sim"
      replace k : R (if b < a then D.non else D.tup [ratD a, ratD b]) M' := k
      refine ⟨by omega, fun h => ?_, fun h => ?_⟩
      · rw [if_pos h] at k; exact k
      · rw [if_neg h] at k; exact k
theorem ok__law_bent (T : Txt K mg) (d : Df K mg "_law_bent" s__law_bent ["one", "two", "three"]) (G__law_over : Fn P w K mg base "_law_over" 2 ["one", "other"] spOver) (G__law_take : Fn P w K mg base "_law_take" 2 ["one", "other"] spMinus) : Fn P w K mg base "_law_bent" 3 ["one", "two", "three"] sBent := by
  have sc := sc__law_bent
  refine fn_by d sc (by walk_at "len") (fun f cdv A outer s H E ds M R Y hr h => ?_)
  have hu := hr.units
  obtain ⟨a, b, c, rfl, ⟨ra, rb, rc, l1, l2⟩, k⟩ := h
  obtain ⟨a1, a2, a3⟩ := ra
  obtain ⟨b1, b2, b3⟩ := rb
  obtain ⟨c1, c2, c3⟩ := rc
  have d1 : b.1 - a.1 ≠ 0 := fun z => by grind
  have d2 : c.1 - b.1 ≠ 0 := fun z => by grind
  have m1 := RM.sz_sub b.1 a.1
  have m2 := RM.sz_sub c.1 b.1
  have m3 := RM.sz_sub b.2.1 a.2.1
  have m4 := RM.sz_sub c.2.1 b.2.1
  have m5 := RM.sz_sub b.2.2 a.2.2
  have m6 := RM.sz_sub c.2.2 b.2.2
  refine ⟨_, (jds_cons (jds_forI PassesOwn.never rfl (jpd_seq (jd_lstV (jda_cons jd_int (jda_cons jd_int jda_nil)))) (jn 3 sc.nd) (jds_cons (jst 4 sc.nd (jc G__law_over hr (jda_cons (jc G__law_take hr (jda_cons (jx (jd_var 1) (jd_var 3)) (jda_cons (jx (jd_var 0) (jd_var 3)) jda_nil))) (jda_cons (jc G__law_take hr (jda_cons (jx (jd_var 1) jd_int) (jda_cons (jx (jd_var 0) jd_int) jda_nil))) jda_nil)))) (jds_cons (jst 5 sc.nd (jc G__law_take hr (jda_cons (jx (jd_var 2) jd_int) (jda_cons (jx (jd_var 1) jd_int) jda_nil)))) (jds_one (jds_if (jtm (o_neC hu) (jd_var 4) (jc G__law_over hr (jda_cons (jc G__law_take hr (jda_cons (jx (jd_var 2) (jd_var 3)) (jda_cons (jx (jd_var 1) (jd_var 3)) jda_nil))) (jda_cons (jd_var 5) jda_nil)))) (jds_one (jds_ret jd_bl)) jds_nil))))) (jds_one (jds_ret jd_bl))), ?_⟩
  walk_at "sim"
  refine ForK.by (fun i e M' => M' = M ∧ (∃ z3 z4 z5 : Option D, e = [some (lineD a), some (lineD b), some (lineD c), z3, z4, z5]) ∧ (0 < i → (b.2.1 - a.2.1) / (b.1 - a.1) = (c.2.1 - b.2.1) / (c.1 - b.1)) ∧ (1 < i → (b.2.2 - a.2.2) / (b.1 - a.1) = (c.2.2 - b.2.2) / (c.1 - b.1))) ⟨rfl, ⟨_, _, _, rfl⟩, fun z => absurd z (by decide), fun z => absurd z (by decide)⟩ (fun i e M' _ _ => by simp only [seqD_vl]) ?_ ?_
  · rintro i dd e M' hd ⟨rfl, ⟨z3, z4, z5, rfl⟩, k1, k2⟩
    match i, hd with
    | 0, hd =>
      obtain rfl := Option.some.inj hd
      walk_at "sim"
      refine ⟨by omega, by omega, d1, by omega, by omega, by omega, d2, by omega, fun hne => k true ⟨fun _ z => hne z.1, fun _ => rfl⟩, fun he => ⟨⟨_, _, _, rfl⟩, he⟩⟩
    | 1, hd =>
      obtain rfl := Option.some.inj hd
      walk_at "sim"
      refine ⟨by omega, by omega, d1, by omega, by omega, by omega, d2, by omega, fun hne => k true ⟨fun _ z => hne z.2, fun _ => rfl⟩, fun he => ⟨⟨_, _, _, rfl⟩, k1 (by decide), he⟩⟩
    | i + 2, hd => cases hd
  · rintro e M' ⟨rfl, ⟨z3, z4, z5, rfl⟩, k1, k2⟩
    walk_at "sim"
    exact k false ⟨fun z => (by cases z), fun z => absurd ⟨k1 (by decide), k2 (by decide)⟩ z⟩
theorem ok__law_mean (T : Txt K mg) (d : Df K mg "_law_mean" s__law_mean ["one", "other"]) (G__law_by : Fn P w K mg base "_law_by" 2 ["one", "other"] spTimes) (G__law_add : Fn P w K mg base "_law_add" 2 ["one", "other"] spPlus) : Fn P w K mg base "_law_mean" 3 ["one", "other"] sMean := by
  have sc := sc__law_mean
  refine fn_by d sc (by walk_at "len") (fun f cdv A outer s H E ds M R Y hr h => ?_)
  have hu := hr.units
  obtain ⟨a, b, rfl, hz, k⟩ := h
  refine ⟨_, (jds_one (jds_ret (jc G__law_by hr (jda_cons (jc G__law_add hr (jda_cons (jd_var 0) (jda_cons (jd_var 1) jda_nil))) (jda_cons (jd_tup (jda_cons jd_int (jda_cons jd_int jda_nil))) jda_nil))))), ?_⟩
  walk_at "sim"
  have m := RM.sz_add a b
  have hs := half_sz
  rw [half_D]
  refine ⟨by omega, ?_⟩
  walk_at "sim"
  exact ⟨by omega, k⟩
theorem ok__law_between (T : Txt K mg) (d : Df K mg "_law_between" s__law_between ["bench", "x", "one", "other"]) (G__law_cone : Fn P w K mg base "_law_cone" 5 ["bench", "x", "h"] sLawConeW) (G__law_mean : Fn P w K mg base "_law_mean" 3 ["one", "other"] sMean) : Fn P w K mg base "_law_between" 6 ["bench", "x", "one", "other"] sBetw := by
  have sc := sc__law_between
  refine fn_by d sc (by walk_at "len") (fun f cdv A outer s H E ds M R Y hr h => ?_)
  have hu := hr.units
  obtain ⟨bs, x, a, b, rfl, ⟨hl, hok, hx, h1, h2, h3, h4, h5, h6⟩, k⟩ := h
  refine ⟨_, (jds_cons (jst 4 sc.nd (jd_tup (jda_cons (jc G__law_mean hr (jda_cons (jx (jd_var 2) jd_int) (jda_cons (jx (jd_var 3) jd_int) jda_nil))) (jda_cons (jc G__law_mean hr (jda_cons (jx (jd_var 2) jd_int) (jda_cons (jx (jd_var 3) jd_int) jda_nil))) jda_nil)))) (jds_one (jds_ret (jm (o_eqC hu) (jc G__law_cone hr (jda_cons (jd_var 0) (jda_cons (jd_var 1) (jda_cons (jc G__law_mean hr (jda_cons (jx (jd_var 2) jd_int) (jda_cons (jx (jd_var 3) jd_int) jda_nil))) jda_nil)))) (jd_var 4))))), ?_⟩
  walk_at "sim"
  have m := RM.sz_add a.1 b.1
  have m2 := RM.sz_mul (a.1 + b.1) (1 / 2)
  have hs := half_sz
  exact ⟨by omega, by omega, by omega, ⟨hl, hok, hx, by omega⟩, coneD_cl _, k _ (by simp)⟩
theorem ok__law_along (T : Txt K mg) (d : Df K mg "_law_along" s__law_along ["seen"]) (G__law_by : Fn P w K mg base "_law_by" 2 ["one", "other"] spTimes) : Fn P w K mg base "_law_along" 3 ["seen"] sAlongL := by
  have sc := sc__law_along
  refine fn_by d sc (by walk_at "len") (fun f cdv A outer s H E ds M R Y hr h => ?_)
  have hu := hr.units
  obtain ⟨ks, rfl, ⟨hl, hz⟩, k⟩ := h
  refine ⟨_, (jds_cons (jds_forI PassesOwn.never rfl (jpd_seq (jd_var 0)) (jn 1 sc.nd) (jds_one (jds_forI PassesOwn.never rfl (jpd_seq (jd_var 0)) (jn 2 sc.nd) (jds_one (jds_if (jtm (o_neC hu) (jc G__law_by hr (jda_cons (jx (jd_var 1) jd_int) (jda_cons (jx (jd_var 2) jd_int) jda_nil))) (jc G__law_by hr (jda_cons (jx (jd_var 2) jd_int) (jda_cons (jx (jd_var 1) jd_int) jda_nil)))) (jds_one (jds_ret jd_bl)) jds_nil))))) (jds_one (jds_ret jd_bl))), ?_⟩
  walk_at "sim"
  refine ForK.by (fun i e M' => M' = M ∧ (∃ z1 z2 : Option D, e = [some (.vl (ks.map lineK)), z1, z2]) ∧ ∀ a ∈ ks.take i, ∀ b ∈ ks, a.2.1 * b.2.2.1 = b.2.1 * a.2.2.1) ⟨rfl, ⟨_, _, rfl⟩, fun a ha => nomatch ha⟩ (fun i e M' _ _ => by simp only [seqD_vl]) ?_ ?_
  · rintro i dd e M' hd ⟨rfl, ⟨z1, z2, rfl⟩, hno⟩
    obtain ⟨a, ha, rfl⟩ := lineK_item hd
    have ham := List.mem_of_getElem? ha
    obtain ⟨a1, a2, a3⟩ := hz a ham
    walk_at "sim"
    refine ForK.by (fun j e M1 => M1 = M' ∧ (∃ z2 : Option D, e = [some (.vl (ks.map lineK)), some (lineK a), z2]) ∧ ∀ b ∈ ks.take j, a.2.1 * b.2.2.1 = b.2.1 * a.2.2.1) ⟨rfl, ⟨_, rfl⟩, fun b hb => nomatch hb⟩ (fun i e M' _ _ => by simp only [seqD_vl]) ?_ ?_
    · rintro j dd e M1 hd ⟨rfl, ⟨z2, rfl⟩, hnb⟩
      obtain ⟨b, hb, rfl⟩ := lineK_item hd
      have hbm := List.mem_of_getElem? hb
      obtain ⟨b1, b2, b3⟩ := hz b hbm
      unfold lineK
      walk_at "sim"
      refine ⟨by omega, by omega, fun hne => ?_, fun he => ⟨⟨_, rfl⟩, fun c hc => ?_⟩⟩
      · exact k false ⟨fun z => (by cases z), fun al => absurd (al _ (List.mem_map.mpr ⟨a, ham, rfl⟩) _ (List.mem_map.mpr ⟨b, hbm, rfl⟩)) hne⟩
      · rw [List.take_add_one, hb] at hc
        rcases List.mem_append.mp hc with hc | hc
        · exact hnb c hc
        · rw [List.mem_singleton.mp hc]; exact he
    · rintro e M1 ⟨rfl, ⟨z2, rfl⟩, hnb⟩
      rw [List.length_map, List.take_length] at hnb
      refine ⟨rfl, ⟨_, _, rfl⟩, fun c hc => ?_⟩
      rw [List.take_add_one, ha] at hc
      rcases List.mem_append.mp hc with hc | hc
      · exact hno c hc
      · rw [List.mem_singleton.mp hc]; exact hnb
  · rintro e M' ⟨rfl, ⟨z1, z2, rfl⟩, hno⟩
    rw [List.length_map, List.take_length] at hno
    walk_at "sim"
    refine k true ⟨fun _ a ha b hb => ?_, fun _ => rfl⟩
    obtain ⟨a', ha', rfl⟩ := List.mem_map.mp ha
    obtain ⟨b', hb', rfl⟩ := List.mem_map.mp hb
    exact hno a' ha' b' hb'
theorem ok__law_good (T : Txt K mg) (d : Df K mg "_law_good" s__law_good ["bench", "handed", "x"]) (G_field : Fn P w K mg base "field" 8 ["bench", "x"] sField) (G__law_cone : Fn P w K mg base "_law_cone" 5 ["bench", "x", "h"] sLawConeW) (G__law_add : Fn P w K mg base "_law_add" 2 ["one", "other"] spPlus) (G__law_bent : Fn P w K mg base "_law_bent" 3 ["one", "two", "three"] sBent) (G__law_between : Fn P w K mg base "_law_between" 6 ["bench", "x", "one", "other"] sBetw) (G__law_under : Fn P w K mg base "_law_under" 1 ["one", "other"] spLess) (G__law_ratio : Fn P w K mg base "_law_ratio" 1 ["top", "bottom"] spLow) (G__law_along : Fn P w K mg base "_law_along" 3 ["seen"] sAlongL) (G__law_lines : Fn P w K mg base "_law_lines" 4 ["bench"] sLinesK) : Fn P w K mg base "_law_good" 9 ["bench", "handed", "x"] sGood32 := by
  have sc := sc__law_good
  refine fn_by d sc (by walk_at "len") (fun f cdv A outer s H E ds M R Y hr h => ?_)
  have hu := hr.units
  obtain ⟨bs, hd, x, rfl, ⟨hh, hl, hok, hx⟩, k⟩ := h
  refine ⟨_, (jds_cons (jst 3 sc.nd (jc G_field hr (jda_cons (jd_var 1) (jda_cons (jd_var 2) jda_nil)))) (jds_cons (jst 4 sc.nd (jc G__law_lines hr (jda_cons (jd_var 0) jda_nil))) (jds_cons (jds_if (jd_tw (jd_or (jtm (o_eqC hu) (jd_var 4) (jd_lstV jda_nil)) (jd_or1 (jd_tval (jc G__law_along hr (jda_cons (jd_var 4) jda_nil)))))) (jds_one (jds_ret (jd_fgt (jm o_is (jd_var 3) jd_non)))) jds_nil) (jds_cons (jds_if (jd_tw (jd_or (jd_not (jd_tval (jd_blt (c_isi T.sub) rfl T.b_isinstance bt_isinstance (jda_cons (jd_var 3) (jda_cons (jd_ty rfl T.b_list bt_list) jda_nil))))) (jd_or1 (jtm o_lt (jd_blt c_len rfl T.b_len bt_len (jda_cons (jd_var 3) jda_nil)) jd_int)))) (jds_one (jds_ret (jd_fgt jd_bl))) jds_nil) (jds_cons (jds_forI PassesOwn.never rfl (jpd_enum rfl T.b_enumerate (jda_cons (jd_var 3) jda_nil)) (jdg_tup (n := 2) rfl (jdgs_cons (jn 5 sc.nd) (jdgs_cons (jn 6 sc.nd) jdgs_nil))) (jds_cons (jst 7 sc.nd (jx (jx (jd_var 3) (jd_op o_sub (jd_neg jd_int) (jd_var 5))) jd_int)) (jds_consM (jds_if (jd_tw (jd_or (jtm (o_neC hu) (jx (jd_var 6) jd_int) (jd_tup (jda_cons (jd_op o_sub jd_int (jx (jd_var 7) jd_int)) (jda_cons (jx (jd_var 7) jd_int) jda_nil)))) (jd_or1 (jtm (o_neC hu) (jc G__law_ratio hr (jda_cons (jx (jd_var 7) jd_int) (jda_cons (jx (jd_var 7) jd_int) jda_nil))) (jd_var 7))))) (jds_one (jds_ret (jd_fgt jd_bl))) jds_nil) (jds_consM (jds_if (jtm (o_neC hu) (jd_sliceV (jd_var 6) (jdpo_some jd_int) jdpo_none) (jc G__law_cone hr (jda_cons (jd_var 0) (jda_cons (jd_var 2) (jda_cons (jx (jd_var 6) jd_int) jda_nil))))) (jds_one (jds_ret (jd_fgt jd_bl))) jds_nil) (jds_consM (jds_if (jd_tw (jd_and (jtm o_gt (jd_var 5) jd_int) (jd_and1 (jd_not (jd_tval (jc G__law_under hr (jda_cons (jx (jx (jd_var 3) (jd_op o_sub (jd_var 5) jd_int)) jd_int) (jda_cons (jx (jd_var 6) jd_int) jda_nil)))))))) (jds_one (jds_ret (jd_fgt jd_bl))) jds_nil) (jds_consM (jds_if (jd_tw (jd_and (jtm o_gt (jd_var 5) jd_int) (jd_and1 (jd_not (jd_tval (jc G__law_between hr (jda_cons (jd_var 0) (jda_cons (jd_var 2) (jda_cons (jx (jd_var 3) (jd_op o_sub (jd_var 5) jd_int)) (jda_cons (jd_var 6) jda_nil)))))))))) (jds_one (jds_ret (jd_fgt jd_bl))) jds_nil) (jds_one (jds_if (jd_tw (jd_and (jd_tchain o_lt o_lt jd_int (jd_var 5) (jd_op o_sub (jd_blt c_len rfl T.b_len bt_len (jda_cons (jd_var 3) jda_nil)) jd_int)) (jd_and1 (jd_not (jd_tval (jc G__law_bent hr (jda_cons (jx (jd_var 3) (jd_op o_sub (jd_var 5) jd_int)) (jda_cons (jd_var 6) (jda_cons (jx (jd_var 3) (jd_op o_add (jd_var 5) jd_int)) jda_nil))))))))) (jds_one (jds_ret (jd_fgt jd_bl))) jds_nil)))))))) (jds_cons (jst 8 sc.nd (jc G__law_add hr (jda_cons (jx (jx (jd_var 3) (jd_neg jd_int)) jd_int) (jda_cons (jd_tup (jda_cons jd_int (jda_cons (jd_op o_pow jd_int jd_int) jda_nil))) jda_nil)))) (jds_cons (jst 9 sc.nd (jd_listV rfl T.b_list bt_list (jda_cons (jd_var 3) jda_nil))) (jds_cons (jds_expr (jd_lm0 PySem.F.slot_list_pop PySem.F.type_list_pop dm_pop (jd_var 3))) (jds_cons (jds_expr (jd_lm PySem.F.slot_list_append PySem.F.type_list_append dm_append (jd_var 3) (jda_cons jd_non jda_nil))) (jds_one (jds_ret (jd_fgt (jd_vand (jm o_is (jc G__law_cone hr (jda_cons (jd_var 0) (jda_cons (jd_var 2) (jda_cons (jd_var 8) jda_nil)))) jd_non) (jd_vone (jm (o_eqR hu) (jc G_field hr (jda_cons (jd_var 1) (jda_cons (jd_var 2) jda_nil))) (jd_var 9)))))))))))))))), ?_⟩
  walk_at "sim"
  have hso := seen_ok5 hl hok hx
  have hlo : ∀ l ∈ seenL bs x, LineOk l := fun l h => (hso l h).1.toLineOk
  have hll := lnsK_len bs bs.length
  have htl := lnsK_tail bs bs.length
  have hzk : ∀ k ∈ lnsK bs bs.length, LSz 600 k.2 := fun l hm => lnsN_sz hl hok bs.length l.2 (by rw [← htl]; exact List.mem_map.mpr ⟨l, hm, rfl⟩)
  have clk : clL 59 ((lnsK bs bs.length).map lineK) = true := cl_lst fun d hd => by
    obtain ⟨y, _, rfl⟩ := List.mem_map.mp hd
    rfl
  have alk : AllAlong (seenL bs x) ↔ AllAlong ((lnsK bs bs.length).map (·.2)) := by
    rw [htl]
    unfold seenL
    constructor
    · intro h a ha b hb
      have := h _ (List.mem_map.mpr ⟨a, ha, rfl⟩) _ (List.mem_map.mpr ⟨b, hb, rfl⟩)
      have : a.1 * (b.1 * x + b.2.1) = b.1 * (a.1 * x + a.2.1) := this
      grind
    · intro h a ha b hb
      obtain ⟨a', ha', rfl⟩ := List.mem_map.mp ha
      obtain ⟨b', hb', rfl⟩ := List.mem_map.mp hb
      have := h a' ha' b' hb'
      show a'.1 * (b'.1 * x + b'.2.1) = b'.1 * (a'.1 * x + a'.2.1)
      grind
  have call : ∀ (M : Mem) (R' : DK), fieldK (seenL bs x) M R' → sField [hd, ratD x] M R' Y0 := fun M R' h => by
    rcases hh with rfl | rfl
    · rw [z_sField]; exact ⟨⟨hl, hok, hx⟩, h⟩
    · rw [z_sField_t]; exact ⟨⟨hl, hok, hx⟩, h⟩
  refine call M _ ?_
  unfold fieldK
  cases ec : corF (seenL bs x) with
  | none =>
    have al : AllAlong (seenL bs x) := by
      rcases cor_main hlo with ⟨_, h⟩ | ⟨cs, e, _⟩
      · exact h
      · rw [ec] at e; cases e
    have ret : gIs false D.non D.non M fun x M1 => FgtK x M1 R := by
      rw [z_Is (b := true) rfl]
      exact Fgt_of (fun _ _ h => h) k
    refine ⟨⟨hl, hok⟩, clk, fun _ => ret, fun _ => ⟨⟨by omega, hzk⟩, fun b hb => ⟨fun _ => ret, fun z => ?_⟩⟩⟩
    have : b = true := hb.mpr (alk.mp al)
    rw [z] at this; cases this
  | some cs =>
    have fo := field_ok hlo ec
    intro p hp
    have na := fo.na
    refine ⟨⟨hl, hok⟩, clk, fun z => ?_, fun _ => ⟨⟨by omega, hzk⟩, fun b hb => ⟨fun z => absurd (alk.mpr (hb.mp z)) na, fun _ => ?_⟩⟩⟩
    · injection z with z
      have hk0 : lnsK bs bs.length = [] := List.map_eq_nil_iff.mp z
      refine absurd (alk.mpr ?_) na
      rw [hk0]
      exact fun a ha => nomatch ha
    · obtain ⟨hcl, hcz⟩ := cor_sz hlo (fun l h => (hso l h).2.2) ec
      have h12 : (seenL bs x).length ≤ 12 := Nat.le_trans (seenL_len bs x) hl
      have hhz : ∀ h ∈ risF (cs.map (·.1)), sz h ≤ 1177 := fun h hh => by
        obtain ⟨z, hz, rfl⟩ := (fo.mem h).mp hh
        exact (hcz z hz).1
      have hhl : (risF (cs.map (·.1))).length ≤ 100 := by
        have := risF_len (cs.map (·.1))
        rw [List.length_map] at this
        omega
      have er : rowsF (seenL bs x) cs = (risF (cs.map (·.1))).map fun h => (h, coneP (seenL bs x) h) := rfl
      rw [er]
      have clr : clL 50 (((risF (cs.map (·.1))).map fun h => (h, coneP (seenL bs x) h)).map lineD) = true := cl_lst fun d hd => by
        obtain ⟨y, _, rfl⟩ := List.mem_map.mp hd
        rfl
      obtain ⟨hs, ehs⟩ : ∃ hs, hs = risF (cs.map (·.1)) := ⟨_, rfl⟩
      rw [← ehs] at fo hhz hhl clr ⊢
      have again : ∀ M1 (R' : DK), (∀ p, M1 p = none → R' (.ref p) (updM M1 p (.lst ((hs.map fun h => (h, coneP (seenL bs x) h)).map lineD)))) → sField [hd, ratD x] M1 R' Y0 := fun M1 R' h => call M1 R' (by unfold fieldK; rw [ec, ehs] at *; exact h)
      have cone5 : ∀ h ∈ hs, ∃ lo hi, ConeAt (seenL bs x) h lo hi ∧ coneP (seenL bs x) h = (lo, hi) ∧ sz lo ≤ 2900 ∧ sz hi ≤ 2900 := fun h hh => by
        obtain ⟨lo, hi, c⟩ := fo.cone h hh
        have := cone_sz (fun l hl => (hso l hl).2.1) (hhz h hh) c
        exact ⟨lo, hi, c, coneP_of c, by omega, by omega⟩
      have rowAt : ∀ i a, hs[i]? = some a → ((hs.map fun h => (h, coneP (seenL bs x) h)).map lineD)[i]? = some (lineD (a, coneP (seenL bs x) a)) := fun i a h => by
        rw [List.getElem?_map, List.getElem?_map, h]; rfl
      have rlen : ((hs.map fun h => (h, coneP (seenL bs x) h)).map lineD).length = hs.length := by rw [List.length_map, List.length_map]
      have h2 := fo.len
      rw [z_Isi (tyD_lst updM_same) rfl]
      walk_at "sim"
      rw [z_Len (lenD_lst updM_same)]
      walk_at "sim"
      refine ⟨fun z => absurd z (by rw [rlen]; omega), fun _ => ?_⟩
      refine EnumK_of (seqD_ref updM_same) ?_
      have hM : updM M p (.lst ((hs.map fun h => (h, coneP (seenL bs x) h)).map lineD)) p = some (.lst ((hs.map fun h => (h, coneP (seenL bs x) h)).map lineD)) := updM_same
      generalize hrows : (hs.map fun h => (h, coneP (seenL bs x) h)).map lineD = rows at *
      refine ForK.by (fun i e M' => M' = updM M p (.lst rows) ∧ ∃ z5 z6 z7 z8 z9 : Option D, e = [some (D.vl (bs.map partD)), some hd, some (ratD x), some (.ref p), some (D.vl (List.map lineK (lnsK bs bs.length))), z5, z6, z7, z8, z9]) ⟨rfl, _, _, _, _, _, rfl⟩ (fun i e M' _ h => by rw [h.1]; exact seqD_ref hM) ?_ ?_
      · rintro i dd e M' hdd ⟨rfl, z5, z6, z7, z8, z9, rfl⟩
        obtain ⟨dr, hdr, rfl⟩ := enumD_of hdd
        have hi : i < hs.length := by rw [← rlen]; exact (List.getElem?_eq_some_iff.mp hdr).1
        obtain ⟨a, ha⟩ : ∃ a, hs[i]? = some a := ⟨_, List.getElem?_eq_getElem hi⟩
        have ham := List.mem_of_getElem? ha
        obtain rfl : dr = lineD (a, coneP (seenL bs x) a) := by
          have := rowAt i a ha
          rw [hdr] at this
          exact Option.some.inj this
        obtain ⟨lo, hii, ca, epa, la, ua⟩ := cone5 a ham
        have hoa := rowAt _ _ (ris_opp fo.neg ha)
        have za := hhz a ham
        have zn : sz (-a) ≤ 1177 := by rw [RM.sz_neg]; exact za
        have lgn : (((-a).den : Nat) : Int).natAbs.log2 < 9000 := Nat.lt_of_lt_of_le (log_lt (by rw [Int.natAbs_natCast]; exact den_lt' (-a) zn) (by decide)) (by decide)
        have er1 : lineD (a, coneP (seenL bs x) a) = lineD (a, lo, hii) := by rw [epa]
        rw [er1]
        walk_at "sim"
        refine ⟨_, ixD_lst hM (by rw [atI_neg (by rw [rlen]; exact hi), rlen]; exact hoa), ?_⟩
        walk_at "sim"
        refine JoinBy (fun e M' => M' = updM M p (.lst rows) ∧ e = [some (D.vl (bs.map partD)), some hd, some (ratD x), some (.ref p), some (D.vl (List.map lineK (lnsK bs bs.length))), some (.int (i : Int)), some (lineD (a, lo, hii)), some (ratD (-a)), z8, z9]) ?_ ?_
        · walk_at "sim"
          rw [opp_D]
          walk_at "sim"
          exact ⟨RM.den_ne (-a), lgn, fun z => absurd (Rat.num_divInt_den (-a)) z, fun _ => trivial⟩
        rintro e M' ⟨rfl, rfl⟩
        refine JoinBy (fun e M' => M' = updM M p (.lst rows) ∧ e = [some (D.vl (bs.map partD)), some hd, some (ratD x), some (.ref p), some (D.vl (List.map lineK (lnsK bs bs.length))), some (.int (i : Int)), some (lineD (a, lo, hii)), some (ratD (-a)), z8, z9]) ?_ ?_
        · walk_at "sim"
          refine slice_row ?_
          walk_at "sim"
          rw [ca.d]
          exact ⟨⟨hl, hok, hx, by omega⟩, rfl, fun z => absurd rfl z, fun _ => trivial⟩
        rintro e M' ⟨rfl, rfl⟩
        have prev : 0 < i → ∃ b lb ub, hs[i - 1]? = some b ∧ ConeAt (seenL bs x) b lb ub ∧ sz b ≤ 1177 ∧ sz lb ≤ 2900 ∧ sz ub ≤ 2900 ∧ b < a ∧ atI rows ((i : Int) - 1) = some (lineD (b, lb, ub)) ∧ ConeAt (seenL bs x) ((b + a) * (1 / 2)) ((lb + lo) * (1 / 2)) ((ub + hii) * (1 / 2)) := fun h0 => by
          obtain ⟨b, hb⟩ : ∃ b, hs[i - 1]? = some b := ⟨_, List.getElem?_eq_getElem (by omega)⟩
          have hbm := List.mem_of_getElem? hb
          obtain ⟨lb, ub, cb, epb, q1, q2⟩ := cone5 b hbm
          have hr := rowAt _ _ hb
          rw [epb] at hr
          have ha' : hs[i - 1 + 1]? = some a := by rw [show i - 1 + 1 = i by omega]; exact ha
          exact ⟨b, lb, ub, hb, cb, hhz b hbm, q1, q2, (ris_next fo.ris hb ha').1, atI_pred h0 hr, fo.mid _ _ _ _ _ _ _ hb ha' cb ca⟩
        refine JoinBy (fun e M' => M' = updM M p (.lst rows) ∧ e = [some (D.vl (bs.map partD)), some hd, some (ratD x), some (.ref p), some (D.vl (List.map lineK (lnsK bs bs.length))), some (.int (i : Int)), some (lineD (a, lo, hii)), some (ratD (-a)), z8, z9]) ?_ ?_
        · walk_at "sim"
          refine ⟨fun h0 => ?_, fun _ => trivial⟩
          obtain ⟨b, lb, ub, hb, cb, zb, q1, q2, lt, hr, _⟩ := prev (by omega)
          refine ⟨_, ixD_lst hM hr, ?_⟩
          walk_at "sim"
          exact ⟨by omega, fun z => absurd lt z, fun _ => trivial⟩
        rintro e M' ⟨rfl, rfl⟩
        refine JoinBy (fun e M' => M' = updM M p (.lst rows) ∧ e = [some (D.vl (bs.map partD)), some hd, some (ratD x), some (.ref p), some (D.vl (List.map lineK (lnsK bs bs.length))), some (.int (i : Int)), some (lineD (a, lo, hii)), some (ratD (-a)), z8, z9]) ?_ ?_
        · walk_at "sim"
          refine ⟨fun h0 => ?_, fun _ => trivial⟩
          obtain ⟨b, lb, ub, hb, cb, zb, q1, q2, lt, hr, cm⟩ := prev (by omega)
          refine ⟨_, ixD_lst hM hr, ?_⟩
          walk_at "sim"
          refine ⟨⟨hl, hok, hx, by show sz b ≤ 1180; omega, by show sz a ≤ 1180; omega, by show sz lb ≤ 4100; omega, by show sz lo ≤ 4100; omega, by show sz ub ≤ 4100; omega, by show sz hii ≤ 4100; omega⟩, fun c hc => ⟨fun z => ?_, fun _ => trivial⟩⟩
          have : c = true := hc.mpr cm.d
          rw [z] at this; cases this
        rintro e M' ⟨rfl, rfl⟩
        walk_at "sim"
        rw [z_Len (lenD_lst hM)]
        walk_at "sim"
        refine ⟨fun h0 => ⟨fun h1 => ?_, fun _ => ⟨_, _, _, _, _, rfl⟩⟩, fun _ => ⟨_, _, _, _, _, rfl⟩⟩
        obtain ⟨b, lb, ub, hb, cb, zb, q1, q2, lt, hr, cm⟩ := prev (by omega)
        obtain ⟨c, hc⟩ : ∃ c, hs[i + 1]? = some c := ⟨_, List.getElem?_eq_getElem (by rw [rlen] at h1; omega)⟩
        have hcm := List.mem_of_getElem? hc
        obtain ⟨lc, uc, cc, epc, q3, q4⟩ := cone5 c hcm
        have hrc := rowAt _ _ hc
        rw [epc] at hrc
        have ltc := (ris_next fo.ris ha hc).1
        have zc := hhz c hcm
        refine ⟨_, ixD_lst hM hr, _, ixD_lst hM (atI_succ hrc), ?_⟩
        walk_at "sim"
        refine ⟨⟨⟨by show sz b ≤ 1180; omega, q1, q2⟩, ⟨by show sz a ≤ 1180; omega, la, ua⟩, ⟨by show sz c ≤ 1180; omega, q3, q4⟩, lt, ltc⟩, fun v hv => ⟨fun z => ?_, fun _ => ⟨_, _, _, _, _, rfl⟩⟩⟩
        have : v = true := hv.mpr (fo.bent b a c _ _ _ _ _ _ lt ltc ham cb ca cc)
        rw [z] at this; cases this
      · rintro e M' ⟨rfl, z5, z6, z7, z8, z9, rfl⟩
        walk_at "sim"
        obtain ⟨hs0, g, e0⟩ : ∃ hs0 g, hs = hs0 ++ [g] := by
          have hne : hs ≠ [] := fun z => by rw [z] at h2; exact absurd h2 (by decide)
          exact ⟨hs.dropLast, hs.getLast hne, (List.dropLast_concat_getLast hne).symm⟩
        have er0 : rows = (hs0.map fun h => (h, coneP (seenL bs x) h)).map lineD ++ [lineD (g, coneP (seenL bs x) g)] := by
          rw [← hrows, e0, List.map_append, List.map_append]; rfl
        have hgm : g ∈ hs := by rw [e0]; exact List.mem_append_right _ List.mem_cons_self
        have hmax : ∀ h ∈ hs, h ≤ g := fun h hh => by
          have rs := fo.ris
          rw [e0] at hh
          unfold Ris at rs
          rw [e0] at rs
          rcases List.mem_append.mp hh with hh | hh
          · have := (List.pairwise_append.mp rs).2.2 h hh g List.mem_cons_self
            grind
          · rw [List.mem_singleton.mp hh]; exact Rat.le_refl
        have zg := hhz g hgm
        have e12 : D.tup [.int 1, .int (10 ^ Int.toNat 12)] = ratD (rq 1 1000000000000) := rfl
        have z12 : sz (rq 1 1000000000000) ≤ 41 := by decide
        have p12 : 0 < rq 1 1000000000000 := by decide
        refine ⟨_, ixD_lst hM (by rw [er0]; exact atI_last), ?_⟩
        rw [e12]
        generalize rq 1 1000000000000 = w at *
        walk_at "sim"
        have ms := RM.sz_add g w
        refine ⟨cp12, by omega, _, rows, rfl, seqD_ref hM, LMK_of hM ?_⟩
        refine Pop_of (ds := (hs0.map fun h => (h, coneP (seenL bs x) h)).map lineD) (d := lineD (g, coneP (seenL bs x) g)) (by rw [hM, er0]) ?_
        rw [updM_upd]
        refine LMK_of updM_same (App_of updM_same ?_ ?_)
        · have := congrArg List.length e0
          rw [List.length_append] at this
          rw [List.length_map, List.length_map]; omega
        rw [updM_upd]
        walk_at "sim"
        refine ⟨⟨hl, hok, hx, by omega⟩, ?_⟩
        rw [fo.far (g + w) (fun h hh => by have := hmax h hh; grind), z_Is (b := true) rfl]
        walk_at "sim"
        refine again _ _ fun p2 hp2 => ?_
        refine gEqR_of updM_same clr clr ?_
        walk_at "sim"
        refine Fgt_of (M2 := M) (fun b o hb => ?_) k
        have n1 : b ≠ p := fun z => by rw [z, hp] at hb; cases hb
        have n2 : b ≠ p2 := fun z => by
          rw [← z, updM_ne n1, hb] at hp2; cases hp2
        rw [updM_ne n2, updM_ne n1]; exact hb
theorem ok__law_next (T : Txt K mg) (d : Df K mg "_law_next" s__law_next ["pool", "base"]) : Fn P w K mg base "_law_next" 1 ["pool", "base"] spNext := by
  have sc := sc__law_next
  refine fn_by d sc (fun ds M R Y h => ?_) (fun f cdv A outer s H E ds M R Y hr h => ?_)
  · obtain ⟨p, b, rfl, _⟩ := h; rfl
  · obtain ⟨p, b, rfl, ⟨x, y, z, hM⟩, hb, hl, k⟩ := h
    refine ⟨_, (jds_cons (jds_if (jtm o_gt (jx (jd_var 0) jd_int) jd_int) (jds_cons (jst 2 sc.nd (jd_op o_mod (jx (jd_var 0) jd_int) (jd_var 1))) (jds_cons (jds_asg (jd_op o_fdiv (jx (jd_var 0) jd_int) (jd_var 1)) (jdg_sub (jd_var 0) jd_int)) (jds_one (jds_ret (jd_var 2))))) jds_nil) (jds_cons (jds_asg (jd_op o_add (jx (jd_var 0) jd_int) jd_int) (jdg_sub (jd_var 0) jd_int)) (jds_cons (jst 3 sc.nd (jd_op o_mod (jd_op o_add (jx (jd_var 0) jd_int) (jd_op o_mul jd_int (jx (jd_var 0) jd_int))) jd_int)) (jds_cons (jst 4 sc.nd (jd_op o_mod (jd_op o_mul (jd_op o_add (jd_var 3) jd_int) (jd_op o_add (jd_var 3) jd_int)) jd_int)) (jds_one (jds_ret (jd_op o_mod (jd_op o_fdiv (jd_op o_mod (jd_op o_mul (jd_var 4) (jd_var 4)) jd_int) jd_int) (jd_var 1)))))))), ?_⟩
    refine ⟨_, rfl, _, ixD_lst hM rfl, _, rfl, _, rfl, ?_⟩
    refine iteD (fun h0 => ?_) (fun h0 => ?_)
    · refine ⟨_, rfl, _, ixD_lst hM rfl, _, rfl, _, _, rfl, rfl, hb, ?_⟩
      refine ⟨_, rfl, _, ixD_lst hM rfl, _, rfl, _, _, rfl, rfl, ⟨by omega, hl⟩, _, rfl, _, _, _, _, rfl, rfl, hM, rfl, ?_⟩
      exact ⟨_, rfl, k _ _ (Int.emod_nonneg _ (by omega)) (Int.emod_lt_of_pos _ hb) (PStep.upd _ _ _)⟩
    · refine ⟨_, rfl, _, ixD_lst hM rfl, _, rfl, _, rfl, _, _, _, _, rfl, rfl, hM, rfl, ?_⟩
      refine ⟨_, rfl, _, ixD_lst updM_same rfl, _, rfl, _, ixD_lst updM_same rfl, _, _, rfl, rfl, m64l (by decide) (by decide), _, rfl, _, _, rfl, rfl, (by show (0 : Int) < 1000000007; decide), ?_⟩
      refine ⟨_, rfl, _, rfl, _, rfl, _, rfl, _, _, rfl, rfl, mmod (by decide) (by decide) (by decide) (by decide), _, _, rfl, rfl, (by show (0 : Int) < 998244353; decide), ?_⟩
      refine ⟨_, rfl, _, rfl, _, _, rfl, rfl, mmod0 (by decide) (by decide), _, _, rfl, rfl, (by show (0 : Int) < 2147483647; decide), _, _, rfl, rfl, cfd8, _, rfl, _, _, rfl, rfl, hb, ?_⟩
      exact k _ _ (Int.emod_nonneg _ (by omega)) (Int.emod_lt_of_pos _ hb) (PStep.upd _ _ _)
theorem ok__law_number (T : Txt K mg) (d : Df K mg "_law_number" s__law_number ["pool"]) (G__law_ratio : Fn P w K mg base "_law_ratio" 1 ["top", "bottom"] spLow) (G__law_next : Fn P w K mg base "_law_next" 1 ["pool", "base"] spNext) : Fn P w K mg base "_law_number" 2 ["pool"] spNumber := by
  have sc := sc__law_number
  refine fn_by d sc (by walk_at "len") (fun f cdv A outer s H E ds M R Y hr h => ?_)
  have hu := hr.units
  obtain ⟨p, rfl, hp, k⟩ := h
  refine ⟨_, (jds_cons (jst 1 sc.nd (jc G__law_next hr (jda_cons (jd_var 0) (jda_cons jd_int jda_nil)))) (jds_cons (jds_if (jtm o_lt (jd_var 1) jd_int) (jds_one (jds_ret (jd_tup (jda_cons (jd_op o_sub (jc G__law_next hr (jda_cons (jd_var 0) (jda_cons jd_int jda_nil))) jd_int) (jda_cons jd_int jda_nil))))) jds_nil) (jds_cons (jds_if (jtm o_lt (jd_var 1) jd_int) (jds_one (jds_ret (jc G__law_ratio hr (jda_cons (jd_op o_sub (jc G__law_next hr (jda_cons (jd_var 0) (jda_cons jd_int jda_nil))) jd_int) (jda_cons (jd_op o_add jd_int (jc G__law_next hr (jda_cons (jd_var 0) (jda_cons jd_int jda_nil)))) jda_nil))))) jds_nil) (jds_cons (jst 2 sc.nd (jd_op o_sub (jc G__law_next hr (jda_cons (jd_var 0) (jda_cons (jd_op o_pow jd_int jd_int) jda_nil))) (jc G__law_next hr (jda_cons (jd_var 0) (jda_cons (jd_op o_pow jd_int jd_int) jda_nil))))) (jds_one (jds_ret (jc G__law_ratio hr (jda_cons (jd_var 2) (jda_cons (jd_op o_add jd_int (jc G__law_next hr (jda_cons (jd_var 0) (jda_cons (jd_op o_pow jd_int jd_int) jda_nil)))) jda_nil))))))))), ?_⟩
  walk_at "sim"
  have e12 : (10 : Int) ^ Int.toNat 12 = 1000000000000 := by decide
  have e9 : (10 : Int) ^ Int.toNat 9 = 1000000000 := by decide
  have cp9 : CPow 10 9 := ⟨by decide, by decide, by decide⟩
  have lg : ∀ {b : Int}, b.natAbs < 2 ^ 41 → b.natAbs.log2 < 9000 := fun {b} hb => log_lt (Nat.lt_of_lt_of_le hb (Nat.pow_le_pow_right (by decide) (by decide))) (by decide)
  rw [e12, e9]
  refine ⟨hp, by decide, fun r M1 r0 r1 s1 => ⟨fun h1 => ⟨s1.pool, by decide, fun t M2 t0 t1 s2 => ?_⟩, fun h1 => ⟨fun h2 => ⟨s1.pool, by decide, fun t M2 t0 t1 s2 => ⟨s2.pool, by decide, fun v M3 v0 v1 s3 => ⟨by omega, lg (by omega), k _ _ (low_sz (by decide) (by omega) (by omega) (by omega)) (s1.trans (s2.trans s3))⟩⟩⟩, fun h2 => ⟨cp12, s1.pool, by decide, lg (by decide), fun t M2 t0 t1 s2 => ⟨cp12, s2.pool, by decide, lg (by decide), fun v M3 v0 v1 s3 => ⟨cp9, s3.pool, by decide, lg (by decide), fun c M4 c0 c1 s4 => ⟨by omega, lg (by omega), k _ _ (low_sz (by decide) (by omega) (by omega) (by omega)) (s1.trans (s2.trans (s3.trans s4)))⟩⟩⟩⟩⟩⟩⟩
  have e := k ((t - 3 : Int) : Rat) M2 (sz_int (by decide) (by omega)) (s1.trans s2)
  rw [ratD_int] at e
  exact e
theorem ok__law_part (T : Txt K mg) (d : Df K mg "_law_part" s__law_part ["pool", "words"]) (G__law_number : Fn P w K mg base "_law_number" 2 ["pool"] spNumber) (G__law_next : Fn P w K mg base "_law_next" 1 ["pool", "base"] spNext) : Fn P w K mg base "_law_part" 3 ["pool", "words"] sPartW := by
  have sc := sc__law_part
  refine fn_by d sc (by walk_at "len") (fun f cdv A outer s H E ds M R Y hr h => ?_)
  have hu := hr.units
  obtain ⟨p, rfl, hp, k⟩ := h
  refine ⟨_, (jds_cons (jst 2 sc.nd (jx (jd_var 1) (jc G__law_next hr (jda_cons (jd_var 0) (jda_cons (jd_blt c_len rfl T.b_len bt_len (jda_cons (jd_var 1) jda_nil)) jda_nil))))) (jds_cons (jds_asg (jc G__law_number hr (jda_cons (jd_var 0) jda_nil)) (jdg_tup (n := 2) rfl (jdgs_cons (jn 3 sc.nd) (jdgs_cons (jn 4 sc.nd) jdgs_nil)))) (jds_cons (jds_if (jtm o_eqS (jd_var 2) jd_str) (jds_one (jds_ret (jd_tup (jda_cons (jd_var 2) (jda_cons (jd_tup (jda_cons (jd_blt c_abs rfl T.b_abs bt_abs (jda_cons (jd_var 3) jda_nil)) (jda_cons (jd_var 4) jda_nil))) jda_nil))))) jds_nil) (jds_cons (jds_if (jtm o_eqS (jd_var 2) jd_str) (jds_one (jds_ret (jd_tup (jda_cons (jd_var 2) (jda_cons (jd_tup (jda_cons (jd_blt (c_max rfl) rfl T.b_max bt_max (jda_cons jd_int (jda_cons (jd_blt c_abs rfl T.b_abs bt_abs (jda_cons (jd_var 3) jda_nil)) jda_nil))) (jda_cons (jd_var 4) jda_nil))) jda_nil))))) jds_nil) (jds_one (jds_ret (jd_tup (jda_cons (jd_var 2) (jda_cons (jd_tup (jda_cons (jd_var 3) (jda_cons (jd_var 4) jda_nil))) jda_nil))))))))), ?_⟩
  walk_at "sim"
  refine ⟨hp, by decide, by decide, fun r M1 r0 r1 s1 => gIx_mem r0 (by show r < 6; exact r1) fun d hd => ?_⟩
  have hd' : d = .str "gap" ∨ d = .str "glass" ∨ d = .str "stop" := by
    simp only [List.mem_cons, List.not_mem_nil, or_false] at hd
    rcases hd with h | h | h | h | h | h
    · exact .inl h
    · exact .inr (.inl h)
    · exact .inr (.inr h)
    · exact .inl h
    · exact .inr (.inl h)
    · exact .inr (.inr h)
  refine ⟨s1.pool, fun q M2 hq s2 => ?_⟩
  have st := s1.trans s2
  rcases hd' with rfl | rfl | rfl
  · walk_at "sim"
    exact k ("gap", absQ q) M2 ⟨.inl ⟨rfl, absQ_nn q⟩, by show sz (absQ q) ≤ 41; rw [sz_abs]; exact hq⟩ st
  · walk_at "sim"
    exact ⟨fun z => absurd z (by decide), fun _ => ⟨fun z => absurd z (by decide), fun _ => k ("glass", q) M2 ⟨.inr (.inl rfl), hq⟩ st⟩⟩
  · walk_at "sim"
    refine ⟨fun z => absurd z (by decide), fun _ => ?_⟩
    by_cases h0 : q = 0
    · subst h0
      exact k ("stop", 1) M2 ⟨.inr (.inr ⟨rfl, by decide⟩), by show sz 1 ≤ 41; rw [RM.sz_one]; decide⟩ st
    · have hn : q.num ≠ 0 := fun z => h0 (Rat.num_eq_zero.mp z)
      rw [show max 1 (q.num.natAbs : Int) = (q.num.natAbs : Int) by omega, r_abs]
      exact k ("stop", absQ q) M2 ⟨.inr (.inr ⟨rfl, abs_pos h0⟩), by show sz (absQ q) ≤ 41; rw [sz_abs]; exact hq⟩ st
theorem ok__law_bench (T : Txt K mg) (d : Df K mg "_law_bench" s__law_bench ["pool", "count", "words"]) (G__law_next : Fn P w K mg base "_law_next" 1 ["pool", "base"] spNext) (G__law_part : Fn P w K mg base "_law_part" 3 ["pool", "words"] sPartW) : Fn P w K mg base "_law_bench" 4 ["pool", "count", "words"] sBenchW := by
  have sc := sc__law_bench
  refine fn_by d sc (by walk_at "len") (fun f cdv A outer s H E ds M R Y hr h => ?_)
  have hu := hr.units
  obtain ⟨p, n, rfl, hp, hn, k⟩ := h
  have lg : ∀ {b : Int}, b.natAbs < 2 ^ 41 → b.natAbs.log2 < 9000 := fun {b} hb => log_lt (Nat.lt_of_lt_of_le hb (Nat.pow_le_pow_right (by decide) (by decide))) (by decide)
  refine ⟨_, (jds_one (jds_ret (jd_compV [0, 2] ["k"] ["pool", "words"] rfl (by decide +kernel) rfl (by decide +kernel) (by decide +kernel) rfl (all2 ⟨rfl, rfl⟩ ⟨rfl, rfl⟩) (all2 (Or.inl rfl) (Or.inl rfl)) (jpd_rng rfl T.b_range (jda_cons (jc G__law_next hr (jda_cons (jd_var 0) (jda_cons (jd_op o_add (jd_var 1) jd_int) jda_nil))) jda_nil)) (fun _ _ _ _ _ _ => (jn 0 (show (["k", "pool", "words"] : List Str).Nodup by decide +kernel))) (fun _ _ _ _ _ _ => jdifs_nil) (fun _ _ _ _ _ _ => (jc G__law_part hr (jda_cons (jd_var 1) (jda_cons (jd_var 2) jda_nil))))))), ?_⟩
  walk_at "sim"
  refine ⟨hp, by omega, lg (by omega), fun r M1 r0 r1 s1 => ⟨by omega, ?_⟩⟩
  refine compV_draw partD PartOk (PStep p) r.toNat (rangeD_length _ _) (by omega) (fun _ _ => trivial) (PStep.refl s1.pool) (fun d hd M2 s2 Q hQ => ?_) (fun bs M2 hl hok s2 => k bs M2 (by omega) hok (s1.trans s2))
  walk_at "sim"
  exact ⟨s2.pool, fun x M' hx s3 => hQ x M' hx (s2.trans s3)⟩
theorem ok__law_pool (T : Txt K mg) (d : Df K mg "_law_pool" s__law_pool ["cell"]) : Fn P w K mg base "_law_pool" 1 ["cell"] spPool := by
  have sc := sc__law_pool
  refine fn_by d sc (fun ds M R Y h => ?_) (fun f cdv A outer s H E ds M R Y hr h => ?_)
  · obtain ⟨c, rfl, _⟩ := h; rfl
  · obtain ⟨c, rfl, k⟩ := h
    refine ⟨_, (jds_one (jds_ret (jd_lst (jda_cons (jd_blt (c_max rfl) rfl T.b_max bt_max (jda_cons jd_int (jda_cons (jd_op o_sub (jd_var 0) (jd_op o_pow jd_int jd_int)) jda_nil))) (jda_cons (jd_op o_mod (jd_var 0) (jd_op o_pow jd_int jd_int)) (jda_cons jd_int jda_nil)))))), ?_⟩
    refine ⟨_, rfl, _, _, rfl, rfl, cp18, _, rfl, _, _, rfl, _, rfl, _, _, rfl, rfl, cp18, _, _, rfl, rfl, (by show (0 : Int) < 10 ^ 18; decide), sl 3, fun p hp => ?_⟩
    exact k p _ hp (MK.new hp) ⟨_, _, _, updM_same⟩
theorem ok_law {f : Addr} {fd : FuncData} (T : Txt K mg) (d : FunD K "law" s_law f fd) (G__law_good : Fn P w K mg base "_law_good" 9 ["bench", "handed", "x"] sGood32) (G__law_number : Fn P w K mg base "_law_number" 2 ["pool"] spNumber) (G__law_next : Fn P w K mg base "_law_next" 1 ["pool", "base"] spNext) (G__law_bench : Fn P w K mg base "_law_bench" 4 ["pool", "count", "words"] sBenchW) (G__law_pool : Fn P w K mg base "_law_pool" 1 ["cell"] spPool) : FnOk P w K mg base CX0 10 f fd ["script"] (upSp K spLaw) := by
  have sc := sc_law
  refine fn_ok d sc (fun ds M R Y h => by obtain ⟨n, rfl, _⟩ := h; rfl) (fun cdv A outer s H E ds M R Y hr h => ?_)
  obtain ⟨ns, rfl, hlen, k⟩ := h
  have hu := hr.units
  refine ⟨_, (jds_cons (jds_forI PassesOwn.never rfl (jpd_seq (jd_catV (jd_lstV (jda_cons jd_int jda_nil)) (jd_sliceV (jd_var 0) jdpo_none (jdpo_some jd_int)))) (jn 1 sc.nd) (jds_cons (jst 2 sc.nd (jc G__law_pool hr (jda_cons (jd_var 1) jda_nil))) (jds_cons (jst 3 sc.nd (jc G__law_bench hr (jda_cons (jd_var 2) (jda_cons jd_int (jda_cons (jd_lstV (jda_cons jd_str (jda_cons jd_str (jda_cons jd_str (jda_cons jd_str (jda_cons jd_str (jda_cons jd_str jda_nil))))))) jda_nil))))) (jds_cons (jst 4 sc.nd (jx (jd_lstV (jda_cons (jd_listV rfl T.b_list bt_list (jda_cons (jd_var 3) jda_nil)) (jda_cons (jd_blty c_tupL rfl T.b_tuple bt_tuple (jda_cons (jd_var 3) jda_nil)) jda_nil))) (jc G__law_next hr (jda_cons (jd_var 2) (jda_cons jd_int jda_nil))))) (jds_one (jds_if (jd_tw (jd_or (jd_not (jd_tval (jc G__law_good hr (jda_cons (jd_var 3) (jda_cons (jd_var 4) (jda_cons (jc G__law_number hr (jda_cons (jd_var 2) jda_nil)) jda_nil)))))) (jd_or1 (jtm (o_neC hu) (jd_listV rfl T.b_list bt_list (jda_cons (jd_var 4) jda_nil)) (jd_var 3))))) (jds_one (jds_ret jd_bl)) jds_nil)))))) (jds_one (jds_ret jd_bl))), ?_⟩
  walk_at "sim"
  have hcl : (DL.cutD (ns.map D.int) none (some 12)).length ≤ 12 := by
    have := cut_to (ds := ns.map D.int) (n := 12)
    rw [show DL.cutD (ns.map D.int) none (some 12) = (ns.map D.int).take 12 from this, List.length_take]; omega
  refine ⟨Nat.le_trans (by omega : 1 + _ ≤ 100) (by decide), ?_⟩
  refine ForK.by (fun i e M' => ∃ x1 x2 x3 x4 : Option D, e = [some (.vl (ns.map D.int)), x1, x2, x3, x4]) ⟨_, _, _, _, rfl⟩ (fun i e M' _ _ => by simp only [seqD_vl]) ?_ ?_
  · rintro i dd e M' hd ⟨x1, x2, x3, x4, rfl⟩
    obtain ⟨n, rfl⟩ : ∃ n : Int, dd = .int n := by
      have hm := List.mem_of_getElem? hd
      rcases List.mem_cons.mp hm with rfl | hm
      · exact ⟨0, rfl⟩
      · rw [show DL.cutD (ns.map D.int) none (some 12) = (ns.map D.int).take 12 from cut_to (n := 12)] at hm
        obtain ⟨n, _, e⟩ := List.mem_map.mp (List.mem_of_mem_take hm)
        exact ⟨n, e.symm⟩
    walk_at "sim"
    refine fun p M1 hp mk hP => ⟨hP, fun bs M2 hbl hok s2 => ⟨s2.pool, by decide, fun r M4 r0 r1 s4 => gIx_mem r0 (by show r < 2; exact r1) fun hand hh => ⟨s4.pool, fun q1 M5 hq1 s5 => ?_⟩⟩⟩
    simp only [List.mem_cons, List.not_mem_nil, or_false] at hh
    have hcb : clL 59 (List.map partD bs) = true := cl_lst fun x hx => by
      obtain ⟨y, hy, rfl⟩ := List.mem_map.mp hx
      exact part_cl (hok y hy)
    rcases hh with rfl | rfl
    all_goals
      walk_at "sim"
      exact ⟨⟨by first | exact .inl trivial | exact .inr trivial, hbl, hok, hq1⟩, hcb, hcb, _, _, _, _, rfl⟩
  · rintro e M' ⟨x1, x2, x3, x4, rfl⟩
    walk_at "sim"
    exact k _
end
end K32
namespace K32
open PySem PySem.Spec L2 DL GM
theorem all_ok {P : Program} {w : World} {K : PySem.W.Frag} {mg : Str → Option Value} {fa : Addr} (T : Txt K mg) (hfa : mg "law" = some (.ref fa)) (D_less : Df K mg "less" s_less ["one", "other"]) (D_rising_once : Df K mg "rising_once" s_rising_once ["ratios"]) (D_unsigned : Df K mg "unsigned" s_unsigned ["one"]) (D_divisor : Df K mg "divisor" s_divisor ["one", "other"]) (D_is_whole : Df K mg "is_whole" s_is_whole ["thing"]) (D_ratio : Df K mg "ratio" s_ratio ["top", "bottom"]) (D_times : Df K mg "times" s_times ["one", "other"]) (D_plus : Df K mg "plus" s_plus ["one", "other"]) (D_opposite : Df K mg "opposite" s_opposite ["one"]) (D_minus : Df K mg "minus" s_minus ["one", "other"]) (D_over : Df K mg "over" s_over ["one", "other"]) (D_slopes_by : Df K mg "slopes_by" s_slopes_by ["line", "h"]) (D_slopes : Df K mg "slopes" s_slopes ["lines", "h"]) (D_is_lower : Df K mg "is_lower" s_is_lower ["one", "other"]) (D_from_lowest : Df K mg "from_lowest" s_from_lowest ["rays"]) (D_facing : Df K mg "facing" s_facing ["side"]) (D_veer : Df K mg "veer" s_veer ["one", "other"]) (D_met_at : Df K mg "met_at" s_met_at ["one", "other"]) (D_turn : Df K mg "turn" s_turn ["one", "other", "third"]) (D_next_side : Df K mg "next_side" s_next_side ["sides", "here"]) (D_juts_more : Df K mg "juts_more" s_juts_more ["one", "other"]) (D_outermost : Df K mg "outermost" s_outermost ["sides"]) (D_tops_over : Df K mg "tops_over" s_tops_over ["ratios", "bottom"]) (D_common_bottom : Df K mg "common_bottom" s_common_bottom ["ratios"]) (D_sides_of : Df K mg "sides_of" s_sides_of ["lines"]) (D_half_rim : Df K mg "half_rim" s_half_rim ["lines"]) (D_corners : Df K mg "corners" s_corners ["lines"]) (D_led_by_part : Df K mg "led_by_part" s_led_by_part ["part", "ray"]) (D_lines_of : Df K mg "lines_of" s_lines_of ["bench"]) (D_seen_from : Df K mg "seen_from" s_seen_from ["bench", "x"]) (D_field : Df K mg "field" s_field ["bench", "x"]) (D__law_under : Df K mg "_law_under" s__law_under ["one", "other"]) (D__law_ratio : Df K mg "_law_ratio" s__law_ratio ["top", "bottom"]) (D__law_take : Df K mg "_law_take" s__law_take ["one", "other"]) (D__law_by : Df K mg "_law_by" s__law_by ["one", "other"]) (D__law_add : Df K mg "_law_add" s__law_add ["one", "other"]) (D__law_led : Df K mg "_law_led" s__law_led ["part", "ray"]) (D__law_lines : Df K mg "_law_lines" s__law_lines ["bench"]) (D__law_over : Df K mg "_law_over" s__law_over ["one", "other"]) (D__law_cone : Df K mg "_law_cone" s__law_cone ["bench", "x", "h"]) (D__law_bent : Df K mg "_law_bent" s__law_bent ["one", "two", "three"]) (D__law_mean : Df K mg "_law_mean" s__law_mean ["one", "other"]) (D__law_between : Df K mg "_law_between" s__law_between ["bench", "x", "one", "other"]) (D__law_along : Df K mg "_law_along" s__law_along ["seen"]) (D__law_good : Df K mg "_law_good" s__law_good ["bench", "handed", "x"]) (D__law_next : Df K mg "_law_next" s__law_next ["pool", "base"]) (D__law_number : Df K mg "_law_number" s__law_number ["pool"]) (D__law_part : Df K mg "_law_part" s__law_part ["pool", "words"]) (D__law_bench : Df K mg "_law_bench" s__law_bench ["pool", "count", "words"]) (D__law_pool : Df K mg "_law_pool" s__law_pool ["cell"]) (D_law : DfL K mg "law" s_law ["script"]) :
    ∃ fd : FuncData, (∀ (s : Shared) (u : Value), BindsTo s fd ⟨[u], []⟩ [("script", u)]) ∧ ∀ base : Heap, FnOk P w K mg base CX0 10 fa fd ["script"] (upSp K spLaw) := by
  obtain ⟨f, fd, F, hm, hb⟩ := D_law.ex
  have e : f = fa := by rw [hm] at hfa; injection hfa with z; injection z
  subst e
  refine ⟨fd, fun s u => .of_eq (hb [u] rfl), fun base => ?_⟩
  have G_less := ok_less (P := P) (w := w) (base := base) T D_less 
  have G_rising_once := ok_rising_once (P := P) (w := w) (base := base) T D_rising_once G_less
  have G_unsigned := ok_unsigned (P := P) (w := w) (base := base) T D_unsigned 
  have G_divisor := ok_divisor (P := P) (w := w) (base := base) T D_divisor 
  have G_is_whole := ok_is_whole (P := P) (w := w) (base := base) T D_is_whole 
  have G_ratio := ok_ratio (P := P) (w := w) (base := base) T D_ratio G_is_whole G_divisor
  have G_times := ok_times (P := P) (w := w) (base := base) T D_times G_ratio
  have G_plus := ok_plus (P := P) (w := w) (base := base) T D_plus G_ratio
  have G_opposite := ok_opposite (P := P) (w := w) (base := base) T D_opposite 
  have G_minus := ok_minus (P := P) (w := w) (base := base) T D_minus G_plus G_opposite
  have G_over := ok_over (P := P) (w := w) (base := base) T D_over G_ratio
  have G_slopes_by := ok_slopes_by (P := P) (w := w) (base := base) T D_slopes_by G_plus G_minus G_unsigned G_over G_opposite G_times
  have G_slopes := ok_slopes (P := P) (w := w) (base := base) T D_slopes G_less G_unsigned G_times G_slopes_by
  have G_is_lower := ok_is_lower (P := P) (w := w) (base := base) T D_is_lower G_less
  have G_from_lowest := ok_from_lowest (P := P) (w := w) (base := base) T D_from_lowest G_is_lower
  have G_facing := ok_facing (P := P) (w := w) (base := base) T D_facing 
  have G_veer := ok_veer (P := P) (w := w) (base := base) T D_veer 
  have G_met_at := ok_met_at (P := P) (w := w) (base := base) T D_met_at G_ratio G_veer
  have G_turn := ok_turn (P := P) (w := w) (base := base) T D_turn G_veer
  have G_next_side := ok_next_side (P := P) (w := w) (base := base) T D_next_side G_veer G_turn
  have G_juts_more := ok_juts_more (P := P) (w := w) (base := base) T D_juts_more 
  have G_outermost := ok_outermost (P := P) (w := w) (base := base) T D_outermost G_juts_more
  have G_tops_over := ok_tops_over (P := P) (w := w) (base := base) T D_tops_over 
  have G_common_bottom := ok_common_bottom (P := P) (w := w) (base := base) T D_common_bottom G_divisor
  have G_sides_of := ok_sides_of (P := P) (w := w) (base := base) T D_sides_of G_facing G_tops_over G_common_bottom
  have G_half_rim := ok_half_rim (P := P) (w := w) (base := base) T D_half_rim G_veer G_next_side G_outermost G_sides_of
  have G_corners := ok_corners (P := P) (w := w) (base := base) T D_corners G_from_lowest G_opposite G_facing G_met_at G_half_rim
  have G_led_by_part := ok_led_by_part (P := P) (w := w) (base := base) T D_led_by_part G_minus G_times G_plus
  have G_lines_of := ok_lines_of (P := P) (w := w) (base := base) T D_lines_of G_led_by_part
  have G_seen_from := ok_seen_from (P := P) (w := w) (base := base) T D_seen_from G_lines_of G_plus G_times
  have G_field := ok_field (P := P) (w := w) (base := base) T D_field G_rising_once G_slopes G_corners G_seen_from
  have G__law_under := ok__law_under (P := P) (w := w) (base := base) T D__law_under 
  have G__law_ratio := ok__law_ratio (P := P) (w := w) (base := base) T D__law_ratio 
  have G__law_take := ok__law_take (P := P) (w := w) (base := base) T D__law_take G__law_ratio
  have G__law_by := ok__law_by (P := P) (w := w) (base := base) T D__law_by G__law_ratio
  have G__law_add := ok__law_add (P := P) (w := w) (base := base) T D__law_add G__law_ratio
  have G__law_led := ok__law_led (P := P) (w := w) (base := base) T D__law_led G__law_take G__law_by G__law_add
  have G__law_lines := ok__law_lines (P := P) (w := w) (base := base) T D__law_lines G__law_led
  have G__law_over := ok__law_over (P := P) (w := w) (base := base) T D__law_over G__law_ratio
  have G__law_cone := ok__law_cone (P := P) (w := w) (base := base) T D__law_cone G__law_under G__law_lines G__law_over G__law_take G__law_by G__law_add
  have G__law_bent := ok__law_bent (P := P) (w := w) (base := base) T D__law_bent G__law_over G__law_take
  have G__law_mean := ok__law_mean (P := P) (w := w) (base := base) T D__law_mean G__law_by G__law_add
  have G__law_between := ok__law_between (P := P) (w := w) (base := base) T D__law_between G__law_cone G__law_mean
  have G__law_along := ok__law_along (P := P) (w := w) (base := base) T D__law_along G__law_by
  have G__law_good := ok__law_good (P := P) (w := w) (base := base) T D__law_good G_field G__law_cone G__law_add G__law_bent G__law_between G__law_under G__law_ratio G__law_along G__law_lines
  have G__law_next := ok__law_next (P := P) (w := w) (base := base) T D__law_next 
  have G__law_number := ok__law_number (P := P) (w := w) (base := base) T D__law_number G__law_ratio G__law_next
  have G__law_part := ok__law_part (P := P) (w := w) (base := base) T D__law_part G__law_number G__law_next
  have G__law_bench := ok__law_bench (P := P) (w := w) (base := base) T D__law_bench G__law_next G__law_part
  have G__law_pool := ok__law_pool (P := P) (w := w) (base := base) T D__law_pool 
  exact ok_law T F G__law_good G__law_number G__law_next G__law_bench G__law_pool
theorem walk {l : PySem.W.OpenLaw} {q : Program} {loose : List Str} {XP : (Str → Option Value) → Heap → Prop} {YP : World → Heap → Prop} {d : DefRec} {K : Params → PySem.W.Frag} (hn : l.most = some 63) (hdf : d.params.defaults = [])
    (hY : ∀ (w : World) (h : Heap), YP w h → (K w.params).In h)
    (F : ∀ (w : World) (mg : Str → Option Value) (fa : Addr) (h : Heap), (K w.params).In h → h.Ns mainGlobals mg → mg d.name = some (.ref fa) →
      ∃ fd : FuncData, (∀ (s : Shared) (u : Value), BindsTo s fd ⟨[u], []⟩ [("script", u)]) ∧ ∀ base : Heap, FnOk l.prog w (K w.params) mg base CX0 10 fa fd ["script"] (upSp (K w.params) spLaw)) :
    PySem.W.WalkO q loose XP YP l.row.toRowW d [] (fun f vs => PySem.call f vs) :=
  L2.walk_ofK (n := 63) (k := 10) (x := "script") (CX := CX0) (sp := fun K => upSp K spLaw) hn (by decide) hdf ⟨rfl, by decide, by decide⟩ hY (fun w mg fa h a b c => let ⟨fd, h1, h2⟩ := F w mg fa h a b c; ⟨fd, h1, fun base _ _ => h2 base⟩)
    (fun K H a ns hl hO hS => law_sp hO hS ⟨ns, rfl, hl, fun _ => rfl⟩) fun _ _ _ _ z => z
end K32
namespace PySem.W.Fast
theorem te5719396968782940702 : True := trivial
theorem tw9972845683487569312 : True := ⟨⟩
theorem tw6436138224937683848 : True := ⟨⟩
theorem tw12255683198718895723 : True := ⟨⟩
theorem tw149432242957272538 : True := ⟨⟩
theorem tw2099253574282908003 : True := ⟨⟩
theorem tw9507181802463084805 : True := ⟨⟩
theorem tw5780158249447126711 : True := ⟨⟩
theorem tw5001403013133395780 : True := ⟨⟩
theorem tw6361209305303467965 : True := ⟨⟩
theorem tw12284696624638807953 : True := ⟨⟩
theorem tw13171966052115592682 : True := ⟨⟩
theorem tw3484800287385893358 : True := ⟨⟩
theorem tw6846663356492991117 : True := ⟨⟩
theorem tw14922580850854275174 : True := ⟨⟩
theorem tw13442291685988960535 : True := ⟨⟩
theorem tw10743906236219614652 : True := ⟨⟩
theorem tw1710982307918458782 : True := ⟨⟩
theorem tw15698589968935591045 : True := ⟨⟩
theorem tw2717653220928251935 : True := ⟨⟩
theorem tw6077751859569189537 : True := ⟨⟩
theorem tw11467383197763383740 : True := ⟨⟩
theorem tw15167791861194462771 : True := ⟨⟩
theorem tw617448889146993470 : True := ⟨⟩
theorem tw15798479038711066207 : True := ⟨⟩
theorem tw14746505444238707450 : True := ⟨⟩
theorem tw178449205238174611 : True := ⟨⟩
theorem tw17248498788297275404 : True := ⟨⟩
theorem tw16507762436589670898 : True := ⟨⟩
theorem tw6452026651274114735 : True := ⟨⟩
theorem tw3896467579439615712 : True := ⟨⟩
theorem tw18018854041444526478 : True := ⟨⟩
theorem tw16879184781323900437 : True := ⟨⟩
theorem tw5231628181540314477 : True := ⟨⟩
theorem tw16172272216641528858 : True := ⟨⟩
theorem tw1425239581806626857 : True := ⟨⟩
theorem tw11145153803639519566 : True := ⟨⟩
theorem tw10383915437508232101 : True := ⟨⟩
theorem tw15800209146019391366 : True := ⟨⟩
theorem tw14025250612210991609 : True := ⟨⟩
theorem tw12743252854036814281 : True := ⟨⟩
theorem tw4009671833788428484 : True := ⟨⟩
theorem tw12243808250169905221 : True := ⟨⟩
theorem tw16319887466903346636 : True := ⟨⟩
theorem tw4104460740131940799 : True := ⟨⟩
theorem tw11805299367568739730 : True := ⟨⟩
theorem tw18278626082266894419 : True := ⟨⟩
theorem tw4967276489160893081 : True := ⟨⟩
theorem tw16159181390373876155 : True := ⟨⟩
theorem tw11510248178006198858 : True := ⟨⟩
theorem tw11685028563253378952 : True := ⟨⟩
theorem tw8663999268661520894 : True := ⟨⟩
theorem tw4933718686833351341 : True := ⟨⟩
theorem tw10525252213193841857 : True := ⟨⟩
theorem tw11023000423309616587 : True := ⟨⟩
theorem tw5132021155627460744 : True := ⟨⟩
theorem tw10868409688680731039 : True := ⟨⟩
theorem tw5702253737850413763 : True := ⟨⟩
theorem tw15939508810816562366 : True := ⟨⟩
theorem tw5909770619304801038 : True := ⟨⟩
theorem tw12504226327733629505 : True := ⟨⟩
theorem tw10845095115428415603 : True := ⟨⟩
theorem tw1455425017529710412 : True := ⟨⟩
theorem tw2583885287242325339 : True := ⟨⟩
theorem tw11566943231838553132 : True := ⟨⟩
theorem tw11754968163187208874 : True := ⟨⟩
theorem tw6237702478254102969 : True := ⟨⟩
theorem tw2855185938313968293 : True := ⟨⟩
theorem tw17233655592256300511 : True := ⟨⟩
theorem tw6523700935904114944 : True := ⟨⟩
theorem tw1711407473213418022 : True := ⟨⟩
theorem tw12755146418793399652 : True := ⟨⟩
theorem tw1299686659719137453 : True := ⟨⟩
theorem tw12784378599939264585 : True := ⟨⟩
theorem tw15050953442099910810 : True := ⟨⟩
theorem tw15974848428606156313 : True := ⟨⟩
theorem tw15674649748858027392 : True := ⟨⟩
theorem tw4903585374699042741 : True := ⟨⟩
theorem tw63719884541203499 : True := ⟨⟩
theorem tw12437941016530438720 : True := ⟨⟩
theorem tw5474884461229811463 : True := ⟨⟩
theorem tw10779220290673391318 : True := ⟨⟩
theorem tw3304398361487607840 : True := ⟨⟩
theorem tw3491123965554199932 : True := ⟨⟩
theorem tw5048075535271824806 : True := ⟨⟩
theorem tw16905477771809996580 : True := ⟨⟩
theorem tw1024070364477017888 : True := ⟨⟩
theorem tw1508356202142317962 : True := ⟨⟩
theorem tw14041981031633305301 : True := ⟨⟩
theorem tw2368706776971127845 : True := ⟨⟩
theorem tw5018066705400208740 : True := ⟨⟩
theorem tw4455585422280562771 : True := ⟨⟩
theorem tw16614936609507254993 : True := ⟨⟩
theorem tw6643222054817731031 : True := ⟨⟩
theorem tw14947225273600306607 : True := ⟨⟩
theorem tw3085884003892503430 : True := ⟨⟩
theorem tw614712282743490382 : True := ⟨⟩
theorem tw5799761858733098399 : True := ⟨⟩
theorem tw8135909472395007091 : True := ⟨⟩
theorem tw2543375018879884618 : True := ⟨⟩
theorem tw18133658436016056491 : True := ⟨⟩
theorem tw8434992174790753440 : True := ⟨⟩
theorem tw11052806625328770594 : True := ⟨⟩
theorem tw5202241648607317324 : True := ⟨⟩
theorem tw3034036463202980364 : True := ⟨⟩
theorem tw4435493642847244101 : True := ⟨⟩
theorem tw18424938756707694688 : True := ⟨⟩
theorem tw12219169900848682830 : True := ⟨⟩
theorem tw2565649793882699724 : True := ⟨⟩
theorem tw16645388643449082986 : True := ⟨⟩
theorem tw4261305229706395806 : True := ⟨⟩
theorem tw484395476518559953 : True := ⟨⟩
theorem tw8419784314089445225 : True := ⟨⟩
theorem tw725743507340995121 : True := ⟨⟩
theorem tw461405463740395467 : True := ⟨⟩
end PySem.W.Fast
open PySem PySem.W PyProof.Rows
set_option maxRecDepth 100000 in
set_option maxHeartbeats 0 in
theorem PySem.Challenge.cw_roundglass_k32_whole_fields_holds : PySem.Challenge.rw_roundglass_k32_whole_fields.Holds := by
  w_on; o_law; k_head; (case hw => w_witness2)
  k_fill
  refine K32.walk (l := PySem.Challenge.rw_roundglass_k32_whole_fields) rfl rfl (fun w h Y => PySem.W.kIn_of Y) ?F
  case F =>
    intro w mg fa h KX G hmg
    refine' K32.all_ok ⟨PySem.W.mg_none_of KX G ?z_abs, PySem.W.mg_none_of KX G ?z_bool, PySem.W.mg_none_of KX G ?z_enumerate, PySem.W.mg_none_of KX G ?z_int, PySem.W.mg_none_of KX G ?z_isinstance, PySem.W.mg_none_of KX G ?z_len, PySem.W.mg_none_of KX G ?z_list, PySem.W.mg_none_of KX G ?z_max, PySem.W.mg_none_of KX G ?z_range, PySem.W.mg_none_of KX G ?z_tuple, PySem.W.mg_none_of KX G ?z_zip, DL.subOk _, DL.gl_ray KX G ?c0_AXIS_RAY ?c1_AXIS_RAY ?c2_AXIS_RAY ?c3_AXIS_RAY, DL.gl_ray KX G ?c0_LEVEL_RAY ?c1_LEVEL_RAY ?c2_LEVEL_RAY ?c3_LEVEL_RAY, DL.gl_pair KX G ?c0_NOUGHT ?c1_NOUGHT⟩ hmg (DL.df_mk KX G ?n0 ?l0 ?c0 ?k0 ?b0) (DL.df_mk KX G ?n1 ?l1 ?c1 ?k1 ?b1) (DL.df_mk KX G ?n2 ?l2 ?c2 ?k2 ?b2) (DL.df_mk KX G ?n3 ?l3 ?c3 ?k3 ?b3) (DL.df_mk KX G ?n4 ?l4 ?c4 ?k4 ?b4) (DL.dfd_mk KX G ?n5 ?l5 ?c5 ?k5 ?b5) (DL.df_mk KX G ?n6 ?l6 ?c6 ?k6 ?b6) (DL.df_mk KX G ?n7 ?l7 ?c7 ?k7 ?b7) (DL.df_mk KX G ?n8 ?l8 ?c8 ?k8 ?b8) (DL.df_mk KX G ?n9 ?l9 ?c9 ?k9 ?b9) (DL.df_mk KX G ?n10 ?l10 ?c10 ?k10 ?b10) (DL.df_mk KX G ?n11 ?l11 ?c11 ?k11 ?b11) (DL.df_mk KX G ?n12 ?l12 ?c12 ?k12 ?b12) (DL.df_mk KX G ?n13 ?l13 ?c13 ?k13 ?b13) (DL.df_mk KX G ?n14 ?l14 ?c14 ?k14 ?b14) (DL.df_mk KX G ?n15 ?l15 ?c15 ?k15 ?b15) (DL.df_mk KX G ?n16 ?l16 ?c16 ?k16 ?b16) (DL.df_mk KX G ?n17 ?l17 ?c17 ?k17 ?b17) (DL.df_mk KX G ?n18 ?l18 ?c18 ?k18 ?b18) (DL.df_mk KX G ?n19 ?l19 ?c19 ?k19 ?b19) (DL.df_mk KX G ?n20 ?l20 ?c20 ?k20 ?b20) (DL.df_mk KX G ?n21 ?l21 ?c21 ?k21 ?b21) (DL.df_mk KX G ?n22 ?l22 ?c22 ?k22 ?b22) (DL.df_mk KX G ?n23 ?l23 ?c23 ?k23 ?b23) (DL.df_mk KX G ?n24 ?l24 ?c24 ?k24 ?b24) (DL.df_mk KX G ?n25 ?l25 ?c25 ?k25 ?b25) (DL.df_mk KX G ?n26 ?l26 ?c26 ?k26 ?b26) (DL.df_mk KX G ?n27 ?l27 ?c27 ?k27 ?b27) (DL.df_mk KX G ?n28 ?l28 ?c28 ?k28 ?b28) (DL.df_mk KX G ?n29 ?l29 ?c29 ?k29 ?b29) (DL.df_mk KX G ?n30 ?l30 ?c30 ?k30 ?b30) (DL.df_mk KX G ?n31 ?l31 ?c31 ?k31 ?b31) (DL.df_mk KX G ?n32 ?l32 ?c32 ?k32 ?b32) (DL.df_mk KX G ?n33 ?l33 ?c33 ?k33 ?b33) (DL.df_mk KX G ?n34 ?l34 ?c34 ?k34 ?b34) (DL.df_mk KX G ?n35 ?l35 ?c35 ?k35 ?b35) (DL.df_mk KX G ?n36 ?l36 ?c36 ?k36 ?b36) (DL.df_mk KX G ?n37 ?l37 ?c37 ?k37 ?b37) (DL.df_mk KX G ?n38 ?l38 ?c38 ?k38 ?b38) (DL.df_mk KX G ?n39 ?l39 ?c39 ?k39 ?b39) (DL.df_mk KX G ?n40 ?l40 ?c40 ?k40 ?b40) (DL.df_mk KX G ?n41 ?l41 ?c41 ?k41 ?b41) (DL.df_mk KX G ?n42 ?l42 ?c42 ?k42 ?b42) (DL.df_mk KX G ?n43 ?l43 ?c43 ?k43 ?b43) (DL.df_mk KX G ?n44 ?l44 ?c44 ?k44 ?b44) (DL.df_mk KX G ?n45 ?l45 ?c45 ?k45 ?b45) (DL.df_mk KX G ?n46 ?l46 ?c46 ?k46 ?b46) (DL.df_mk KX G ?n47 ?l47 ?c47 ?k47 ?b47) (DL.df_mk KX G ?n48 ?l48 ?c48 ?k48 ?b48) (DL.df_mk KX G ?n49 ?l49 ?c49 ?k49 ?b49) (DL.dfl_mk KX G ?n50 ?l50 ?c50 ?k50 ?b50)
    (case n0 => k_is); (case l0 => k_is); (case c0 => k_is); (case k0 => k_is); (case b0 => (intro us hl; exact match us, hl with | [_, _], _ => rfl))
    (case n1 => k_is); (case l1 => k_is); (case c1 => k_is); (case k1 => k_is); (case b1 => (intro us hl; exact match us, hl with | [_], _ => rfl))
    (case n2 => k_is); (case l2 => k_is); (case c2 => k_is); (case k2 => k_is); (case b2 => (intro us hl; exact match us, hl with | [_], _ => rfl))
    (case n3 => k_is); (case l3 => k_is); (case c3 => k_is); (case k3 => k_is); (case b3 => (intro us hl; exact match us, hl with | [_, _], _ => rfl))
    (case n4 => k_is); (case l4 => k_is); (case c4 => k_is); (case k4 => k_is); (case b4 => (intro us hl; exact match us, hl with | [_], _ => rfl))
    (case n5 => k_is); (case l5 => k_is); (case c5 => k_is); (case k5 => k_is); (case b5 => (intro us hl S; exact match us, hl with | [_, _], _ => rfl))
    (case n6 => k_is); (case l6 => k_is); (case c6 => k_is); (case k6 => k_is); (case b6 => (intro us hl; exact match us, hl with | [_, _], _ => rfl))
    (case n7 => k_is); (case l7 => k_is); (case c7 => k_is); (case k7 => k_is); (case b7 => (intro us hl; exact match us, hl with | [_, _], _ => rfl))
    (case n8 => k_is); (case l8 => k_is); (case c8 => k_is); (case k8 => k_is); (case b8 => (intro us hl; exact match us, hl with | [_], _ => rfl))
    (case n9 => k_is); (case l9 => k_is); (case c9 => k_is); (case k9 => k_is); (case b9 => (intro us hl; exact match us, hl with | [_, _], _ => rfl))
    (case n10 => k_is); (case l10 => k_is); (case c10 => k_is); (case k10 => k_is); (case b10 => (intro us hl; exact match us, hl with | [_, _], _ => rfl))
    (case n11 => k_is); (case l11 => k_is); (case c11 => k_is); (case k11 => k_is); (case b11 => (intro us hl; exact match us, hl with | [_, _], _ => rfl))
    (case n12 => k_is); (case l12 => k_is); (case c12 => k_is); (case k12 => k_is); (case b12 => (intro us hl; exact match us, hl with | [_, _], _ => rfl))
    (case n13 => k_is); (case l13 => k_is); (case c13 => k_is); (case k13 => k_is); (case b13 => (intro us hl; exact match us, hl with | [_, _], _ => rfl))
    (case n14 => k_is); (case l14 => k_is); (case c14 => k_is); (case k14 => k_is); (case b14 => (intro us hl; exact match us, hl with | [_], _ => rfl))
    (case n15 => k_is); (case l15 => k_is); (case c15 => k_is); (case k15 => k_is); (case b15 => (intro us hl; exact match us, hl with | [_], _ => rfl))
    (case n16 => k_is); (case l16 => k_is); (case c16 => k_is); (case k16 => k_is); (case b16 => (intro us hl; exact match us, hl with | [_, _], _ => rfl))
    (case n17 => k_is); (case l17 => k_is); (case c17 => k_is); (case k17 => k_is); (case b17 => (intro us hl; exact match us, hl with | [_, _], _ => rfl))
    (case n18 => k_is); (case l18 => k_is); (case c18 => k_is); (case k18 => k_is); (case b18 => (intro us hl; exact match us, hl with | [_, _, _], _ => rfl))
    (case n19 => k_is); (case l19 => k_is); (case c19 => k_is); (case k19 => k_is); (case b19 => (intro us hl; exact match us, hl with | [_, _], _ => rfl))
    (case n20 => k_is); (case l20 => k_is); (case c20 => k_is); (case k20 => k_is); (case b20 => (intro us hl; exact match us, hl with | [_, _], _ => rfl))
    (case n21 => k_is); (case l21 => k_is); (case c21 => k_is); (case k21 => k_is); (case b21 => (intro us hl; exact match us, hl with | [_], _ => rfl))
    (case n22 => k_is); (case l22 => k_is); (case c22 => k_is); (case k22 => k_is); (case b22 => (intro us hl; exact match us, hl with | [_, _], _ => rfl))
    (case n23 => k_is); (case l23 => k_is); (case c23 => k_is); (case k23 => k_is); (case b23 => (intro us hl; exact match us, hl with | [_], _ => rfl))
    (case n24 => k_is); (case l24 => k_is); (case c24 => k_is); (case k24 => k_is); (case b24 => (intro us hl; exact match us, hl with | [_], _ => rfl))
    (case n25 => k_is); (case l25 => k_is); (case c25 => k_is); (case k25 => k_is); (case b25 => (intro us hl; exact match us, hl with | [_], _ => rfl))
    (case n26 => k_is); (case l26 => k_is); (case c26 => k_is); (case k26 => k_is); (case b26 => (intro us hl; exact match us, hl with | [_], _ => rfl))
    (case n27 => k_is); (case l27 => k_is); (case c27 => k_is); (case k27 => k_is); (case b27 => (intro us hl; exact match us, hl with | [_, _], _ => rfl))
    (case n28 => k_is); (case l28 => k_is); (case c28 => k_is); (case k28 => k_is); (case b28 => (intro us hl; exact match us, hl with | [_], _ => rfl))
    (case n29 => k_is); (case l29 => k_is); (case c29 => k_is); (case k29 => k_is); (case b29 => (intro us hl; exact match us, hl with | [_, _], _ => rfl))
    (case n30 => k_is); (case l30 => k_is); (case c30 => k_is); (case k30 => k_is); (case b30 => (intro us hl; exact match us, hl with | [_, _], _ => rfl))
    (case n31 => k_is); (case l31 => k_is); (case c31 => k_is); (case k31 => k_is); (case b31 => (intro us hl; exact match us, hl with | [_, _], _ => rfl))
    (case n32 => k_is); (case l32 => k_is); (case c32 => k_is); (case k32 => k_is); (case b32 => (intro us hl; exact match us, hl with | [_, _], _ => rfl))
    (case n33 => k_is); (case l33 => k_is); (case c33 => k_is); (case k33 => k_is); (case b33 => (intro us hl; exact match us, hl with | [_, _], _ => rfl))
    (case n34 => k_is); (case l34 => k_is); (case c34 => k_is); (case k34 => k_is); (case b34 => (intro us hl; exact match us, hl with | [_, _], _ => rfl))
    (case n35 => k_is); (case l35 => k_is); (case c35 => k_is); (case k35 => k_is); (case b35 => (intro us hl; exact match us, hl with | [_, _], _ => rfl))
    (case n36 => k_is); (case l36 => k_is); (case c36 => k_is); (case k36 => k_is); (case b36 => (intro us hl; exact match us, hl with | [_, _], _ => rfl))
    (case n37 => k_is); (case l37 => k_is); (case c37 => k_is); (case k37 => k_is); (case b37 => (intro us hl; exact match us, hl with | [_], _ => rfl))
    (case n38 => k_is); (case l38 => k_is); (case c38 => k_is); (case k38 => k_is); (case b38 => (intro us hl; exact match us, hl with | [_, _], _ => rfl))
    (case n39 => k_is); (case l39 => k_is); (case c39 => k_is); (case k39 => k_is); (case b39 => (intro us hl; exact match us, hl with | [_, _, _], _ => rfl))
    (case n40 => k_is); (case l40 => k_is); (case c40 => k_is); (case k40 => k_is); (case b40 => (intro us hl; exact match us, hl with | [_, _, _], _ => rfl))
    (case n41 => k_is); (case l41 => k_is); (case c41 => k_is); (case k41 => k_is); (case b41 => (intro us hl; exact match us, hl with | [_, _], _ => rfl))
    (case n42 => k_is); (case l42 => k_is); (case c42 => k_is); (case k42 => k_is); (case b42 => (intro us hl; exact match us, hl with | [_, _, _, _], _ => rfl))
    (case n43 => k_is); (case l43 => k_is); (case c43 => k_is); (case k43 => k_is); (case b43 => (intro us hl; exact match us, hl with | [_], _ => rfl))
    (case n44 => k_is); (case l44 => k_is); (case c44 => k_is); (case k44 => k_is); (case b44 => (intro us hl; exact match us, hl with | [_, _, _], _ => rfl))
    (case n45 => k_is); (case l45 => k_is); (case c45 => k_is); (case k45 => k_is); (case b45 => (intro us hl; exact match us, hl with | [_, _], _ => rfl))
    (case n46 => k_is); (case l46 => k_is); (case c46 => k_is); (case k46 => k_is); (case b46 => (intro us hl; exact match us, hl with | [_], _ => rfl))
    (case n47 => k_is); (case l47 => k_is); (case c47 => k_is); (case k47 => k_is); (case b47 => (intro us hl; exact match us, hl with | [_, _], _ => rfl))
    (case n48 => k_is); (case l48 => k_is); (case c48 => k_is); (case k48 => k_is); (case b48 => (intro us hl; exact match us, hl with | [_, _, _], _ => rfl))
    (case n49 => k_is); (case l49 => k_is); (case c49 => k_is); (case k49 => k_is); (case b49 => (intro us hl; exact match us, hl with | [_], _ => rfl))
    (case n50 => k_is); (case l50 => k_is); (case c50 => k_is); (case k50 => k_is); (case b50 => (intro us hl; exact match us, hl with | [_], _ => rfl))
    (case z_abs => k_is); (case z_bool => k_is); (case z_enumerate => k_is); (case z_int => k_is); (case z_isinstance => k_is); (case z_len => k_is); (case z_list => k_is); (case z_max => k_is); (case z_range => k_is); (case z_tuple => k_is); (case z_zip => k_is); (case c0_AXIS_RAY => k_is); (case c1_AXIS_RAY => k_is); (case c2_AXIS_RAY => k_is); (case c3_AXIS_RAY => k_is); (case c0_LEVEL_RAY => k_is); (case c1_LEVEL_RAY => k_is); (case c2_LEVEL_RAY => k_is); (case c3_LEVEL_RAY => k_is); (case c0_NOUGHT => k_is); (case c1_NOUGHT => k_is)
