import PyProof.Rows.All
import Wide.All
import OpenK.AllK
import Wide.FinOn
import PyProof.EqAt
import PyProof.EqKinds
import PyProof.TupleCall
import PyProof.ZipIter
import PyProof.EnumMake
import PyProof.EnumFor
import PyProof.Rows.EnumRows
import PyProof.CompMap
import PyProof.CompUse
import KE.KRevSl
import KE.KRevIter
import PyProof.ListRange
import PyProof.AutoRange
import PyProof.FactsAll.range_2
import PyProof.MaxThree
import KE.RegKTryMore
import PyProof.Rows.SumAny
import Lean
import PySem.Challenge.RW_roundglass_k20_whole_tables_of_any_pairs
set_option compiler.extract_closed false
set_option Elab.async false
set_option linter.all false
set_option maxRecDepth 100000
section
namespace L2
open PySem PySem.Spec PyProof.Rows

noncomputable abbrev Key := Sum Int Str
noncomputable def keyIs : Key → Value → Bool
  | .inl k, v => Value.isInt k v
  | .inr x, v => Value.isStrOf x v
noncomputable def keyH (w : World) : Key → Int
  | .inl k => hashInt k
  | .inr x => hashStr w x
theorem keyIs_shape : ∀ {k : Key} {v : Value}, keyIs k v = true → (∃ i t, k = Sum.inl i ∧ v = Value.int i t) ∨ (∃ x t, k = Sum.inr x ∧ v = Value.str x t)
  | .inl i, v, h => by
    obtain ⟨t, e⟩ := Value.isInt_shape (k := i) (v := v) h
    exact .inl ⟨i, t, rfl, e⟩
  | .inr x, v, h => by
    obtain ⟨t, e⟩ := Value.isStrOf_shape (x := x) (v := v) h
    exact .inr ⟨x, t, rfl, e⟩
theorem key_ll (a b : Int) : decide ((Sum.inl a : Key) = Sum.inl b) = (a == b) := by
  by_cases e : a = b
  · subst e; simp
  · have h : ¬ (Sum.inl a : Key) = Sum.inl b := fun q => e (Sum.inl.inj q)
    rw [decide_eq_false h]
    exact (beq_eq_false_iff_ne.mpr e).symm
theorem key_rr (a b : Str) : decide ((Sum.inr a : Key) = Sum.inr b) = decide (a = b) := by
  by_cases e : a = b
  · subst e; simp
  · have h : ¬ (Sum.inr a : Key) = Sum.inr b := fun q => e (Sum.inr.inj q)
    rw [decide_eq_false h, decide_eq_false e]
theorem key_lr (a : Int) (b : Str) : decide ((Sum.inl a : Key) = Sum.inr b) = false := decide_eq_false (fun q => nomatch q)
theorem key_rl (a : Str) (b : Int) : decide ((Sum.inr a : Key) = Sum.inl b) = false := decide_eq_false (fun q => nomatch q)

noncomputable def mixKind (prog : Program) (w : World) : PySem.KeyKind prog w Key where
  is := keyIs
  hash := keyH w
  inj := fun v a b ha hb => by
    rcases keyIs_shape ha with ⟨i, t, rfl, rfl⟩ | ⟨x, t, rfl, rfl⟩
    · rcases keyIs_shape hb with ⟨j, u, rfl, e⟩ | ⟨y, u, rfl, e⟩
      · injection e with e1 _; rw [e1]
      · exact nomatch e
    · rcases keyIs_shape hb with ⟨j, u, rfl, e⟩ | ⟨y, u, rfl, e⟩
      · exact nomatch e
      · injection e with e1 _; rw [e1]
  byValue := fun k v h => by
    rcases keyIs_shape h with ⟨i, t, rfl, rfl⟩ | ⟨x, t, rfl, rfl⟩ <;> rfl
  pyHash := fun hv h => by
    rcases keyIs_shape hv with ⟨i, t, rfl, rfl⟩ | ⟨x, t, rfl, rfl⟩
    · exact wpAny_pyHash_int h
    · exact wpAny_pyHash_str h
  eqBool := fun hu hv h => by
    rcases keyIs_shape hu with ⟨i, t, rfl, rfl⟩ | ⟨x, t, rfl, rfl⟩
    · rcases keyIs_shape hv with ⟨j, u, rfl, rfl⟩ | ⟨y, u, rfl, rfl⟩
      · rw [key_ll] at h; exact wpAny_eqBool_int h
      · rw [key_lr] at h; exact SeqAt.EqAt.int_str i t y u _ _ _ _ h
    · rcases keyIs_shape hv with ⟨j, u, rfl, rfl⟩ | ⟨y, u, rfl, rfl⟩
      · rw [key_rl] at h; exact SeqAt.EqAt.str_int x t j u _ _ _ _ h
      · rw [key_rr] at h; exact wpAny_eqBool_str h
  «strs» := fun k x t v h => by
    rcases keyIs_shape h with ⟨i, u, rfl, e⟩ | ⟨y, u, rfl, e⟩
    · exact nomatch e
    · injection e with e1 _
      subst e1
      cases v <;> rfl

end L2

namespace L2
open PySem PySem.Spec PyProof.Rows

inductive V where
  | non | bl (b : Bool) | int (i : Int) | str (x : Str) | byt (b : Array UInt8) | flt (b : UInt64) | ref (a : Addr) | ty (n : String)
  deriving DecidableEq

noncomputable def RelV : V → Value → Prop
  | .non, u => u = Value.none
  | .bl b, u => u = Value.bool b
  | .int i, u => ∃ t, u = Value.int i t
  | .str x, u => ∃ t, u = Value.str x t
  | .byt b, u => ∃ t, u = Value.bytes b t
  | .flt b, u => ∃ t, u = Value.float b t
  | .ref a, u => u = Value.ref a
  | .ty n, u => u = Value.type n

noncomputable abbrev Vals : List V → List Value → Prop := Paired RelV
theorem Vals.length {xs : List V} {us : List Value} (r : Vals xs us) : xs.length = us.length := Paired.length r
theorem Vals.get : ∀ {xs : List V} {us : List Value} {i : Nat} {x : V}, Vals xs us → xs[i]? = some x → ∃ u, us[i]? = some u ∧ RelV x u
  | _, _, _, _, .nil, e => by simp at e
  | _, _, 0, _, .cons r _, e => by simp at e; subst e; exact ⟨_, rfl, r⟩
  | _, _, i + 1, x, .cons _ t, e => by
    obtain ⟨u, h1, h2⟩ := Vals.get (i := i) (x := x) t (by simpa using e)
    exact ⟨u, by simpa using h1, h2⟩
theorem Vals.set {x : V} {u : Value} (r : RelV x u) : ∀ {xs : List V} {us : List Value} (i : Nat), Vals xs us → Vals (xs.set i x) (us.set i u)
  | _, _, _, .nil => .nil
  | _, _, 0, .cons _ t => .cons r t
  | _, _, i + 1, .cons q t => .cons q (Vals.set r i t)
theorem Vals.append : ∀ {xs ys : List V} {us ws : List Value}, Vals xs us → Vals ys ws → Vals (xs ++ ys) (us ++ ws)
  | _, _, _, _, .nil, s => s
  | _, _, _, _, .cons r t, s => .cons r (Vals.append t s)
theorem Vals.take : ∀ {xs : List V} {us : List Value} (n : Nat), Vals xs us → Vals (xs.take n) (us.take n)
  | _, _, 0, _ => .nil
  | _, _, _ + 1, .nil => .nil
  | _, _, n + 1, .cons r t => .cons r (Vals.take n t)
theorem Vals.drop : ∀ {xs : List V} {us : List Value} (n : Nat), Vals xs us → Vals (xs.drop n) (us.drop n)
  | _, _, 0, r => r
  | _, _, _ + 1, .nil => .nil
  | _, _, n + 1, .cons _ t => Vals.drop n t
noncomputable def RelO : Option V → Option Value → Prop
  | some v, some u => RelV v u
  | none, none => True
  | _, _ => False
noncomputable def KV {κ : Type} : List (κ × V) → List (κ × Value) → Prop := Paired fun (p : κ × V) (q : κ × Value) => p.1 = q.1 ∧ RelV p.2 q.2

noncomputable def kV : Key → V
  | .inl i => .int i
  | .inr x => .str x

inductive HO where
  /-- a list -/
  | lst (xs : List V)
  /-- a tuple (never changes) -/
  | tup (xs : List V)
  /-- a dict whose keys are ints and texts; one whose keys are tuples of ints and texts (the empty one is both) -/
  | dK (kvs : List (Key × V)) | dT (kvs : List (List Key × V))
  /-- a set of ints: its members, its size -/
  | set (S : Int → Bool) (n : Nat)
  /-- an instance of the class at C, its dict at dx, its attributes -/
  | ins (C dx : Addr) (fs : List (Str × V))
  /-- the dict of the instance at x -/
  | own (x : Addr)
  /-- the dict of an exception -/
  | xd (fs : List (Str × V))
  /-- a bound method, f of x -/
  | met (f x : Addr)
  /-- a range object lo, lo + 1, .. below hi -/
  | rng (lo hi : Int)
  /-- a thing that is known to the object (the script; a dict while a loop walks it): read, never written while it is so -/
  | frz (o : Obj) (u : HO)
  /-- a code object's table -/
  | tbl (ps : Array Value)
  /-- any other thing, by what is true of its one object (a def of one's own: SetO a S n := HO.ext fun h => ..) -/
  | ext (φ : Heap → Prop)

noncomputable abbrev Hp := Addr → Option HO
noncomputable def upd (H : Hp) (a : Addr) (o : HO) : Hp := fun b => if b = a then some o else H b
theorem upd_same {H : Hp} {a : Addr} {o : HO} : upd H a o a = some o := by unfold upd; rw [if_pos rfl]
theorem upd_ne {H : Hp} {a b : Addr} {o : HO} (h : b ≠ a) : upd H a o b = H b := by unfold upd; rw [if_neg h]
theorem upd_upd {H : Hp} {a : Addr} {o u : HO} : upd (upd H a o) a u = upd H a u := by
  funext b; unfold upd; split <;> rfl
theorem ne_of_none {H : Hp} {a b : Addr} {o : HO} (h : H a = some o) (h' : H b = none) : a ≠ b := by
  intro e; subst e; rw [h] at h'; cases h'

section
variable (P : Program) (w : World)
noncomputable def ObjOk (H : Hp) (h : Heap) (a : Addr) : HO → Prop
  | .lst xs => xs.length ≤ sizeLine ∧ ∃ (its : List Value) (n : Nat), Vals xs its ∧ h.get? a = some { cls := .type "list", data := .seq its.toArray n }
  | .tup xs => xs.length ≤ sizeLine ∧ ∃ its : List Value, Vals xs its ∧ IsTup h a its.toArray
  | .dK kvs => kvs.length ≤ sizeLine ∧ (a == sysModules) = false ∧ ∃ vs, KV kvs vs ∧ h.DictOf (mixKind P w) a vs
  | .dT kvs => kvs.length ≤ sizeLine ∧ (a == sysModules) = false ∧ ∃ xs : List (List Key × Addr × Value),
      Paired (fun (p : List Key × V) (q : List Key × Addr × Value) => p.1 = q.1 ∧ H q.2.1 = some (.tup (p.1.map kV)) ∧ RelV p.2 q.2.2) kvs xs ∧
      ∃ o es ep, h.get? a = some o ∧ o.ExactDict ∧ o.data = .dict es ep ∧ es.toList = xs.map (entryOfKey (tupleKind (mixKind P w))) ∧ (xs.map (·.1)).Nodup
  | .set S n => h.SetOf (intKind P w) a S n
  | .ins C dx fs => H dx = some (.own a) ∧ fs.length ≤ 1000 ∧ dx ≠ a ∧ h.get? a = some (PySem.W.instObj C dx) ∧
      ∃ mA, h.Ns1 dx mA ∧ (∀ f, RelO (fs.lookup f) (mA f)) ∧ PySem.Within mA (fs.map (·.1))
  | .own _ => ∃ o, h.get? a = some o
  | .xd fs => ∃ mA, h.Ns1 a mA ∧ ∀ f, RelO (fs.lookup f) (mA f)
  | .rng lo hi => ∃ t u v, h.get? a = some { cls := .type "range", data := .fields #[.int lo t, .int hi u, .int 1 v] }
  | .frz o u => h.get? a = some o ∧ ObjOk H h a u
  | .tbl ps => h.get? a = some { cls := .none, data := .fields ps }
  | .met f x => h.get? a = some (PySem.W.methodObj (.ref f) (.ref x))
  | .ext φ => φ h ∧ (∃ o, h.get? a = some o) ∧ ∀ h1 h2 : Heap, φ h1 → (∀ o, h1.get? a = some o → h2.get? a = some o) → φ h2
noncomputable def HOk (H : Hp) (h : Heap) : Prop := ∀ a o, H a = some o → ObjOk P w H h a o
end

section
variable {P : Program} {w : World} {H H' : Hp} {h h' : Heap} {a : Addr} {o : HO}
theorem ObjOk.lt (x : ObjOk P w H h a o) : a < h.objs.size := by
  cases o with
  | lst xs => obtain ⟨_, _, _, _, e⟩ := x; exact Heap.lt_size e
  | tup xs => obtain ⟨_, _, _, p⟩ := x; exact p.lt
  | dK kvs => obtain ⟨_, _, _, _, o, _, _, e, _⟩ := x; exact Heap.lt_size e
  | dT kvs => obtain ⟨_, _, _, _, o, _, _, e, _⟩ := x; exact Heap.lt_size e
  | set S n => obtain ⟨o, _, _, _, e, _⟩ := x; exact Heap.lt_size e
  | ins C dx fs => obtain ⟨_, _, _, e, _⟩ := x; exact Heap.lt_size e
  | own y => obtain ⟨_, e⟩ := x; exact Heap.lt_size e
  | xd fs => obtain ⟨_, ⟨_, _, _, e, _⟩, _⟩ := x; exact Heap.lt_size e
  | rng lo hi => obtain ⟨_, _, _, e⟩ := x; exact Heap.lt_size e
  | frz ob u => obtain ⟨e, _⟩ := x; exact Heap.lt_size e
  | tbl ps => exact Heap.lt_size (show h.get? a = some _ from x)
  | met f y => exact Heap.lt_size (show h.get? a = some _ from x)
  | ext φ => obtain ⟨_, ⟨_, e⟩, _⟩ := x; exact Heap.lt_size e
theorem Paired.mapP {α β : Type} {F G : α → β → Prop} : ∀ {l₁ : List α} {l₂ : List β}, Paired F l₁ l₂ → (∀ a b, F a b → G a b) → Paired G l₁ l₂
  | _, _, .nil, _ => .nil
  | _, _, .cons r t, f => .cons (f _ _ r) (Paired.mapP t f)
theorem ObjOk.stay (x : ObjOk P w H h a o) (k : ∀ b u, (b = a ∨ H b = some (.own a)) → h.get? b = some u → h'.get? b = some u)
    (ho : ∀ b, H b = some (.own a) → H' b = some (.own a)) (ht : ∀ b xs, H b = some (.tup xs) → H' b = some (.tup xs)) : ObjOk P w H' h' a o := by
  induction o with
  | lst xs => obtain ⟨z, its, n, r, e⟩ := x; exact ⟨z, its, n, r, k _ _ (.inl rfl) e⟩
  | tup xs => obtain ⟨z, its, r, ob, e, c⟩ := x; exact ⟨z, its, r, ob, k _ _ (.inl rfl) e, c⟩
  | dK kvs => obtain ⟨z, y, vs, r, ob, es, ep, e, c⟩ := x; exact ⟨z, y, vs, r, ob, es, ep, k _ _ (.inl rfl) e, c⟩
  | dT kvs =>
    obtain ⟨z, y, xs, r, ob, es, ep, e, c⟩ := x
    exact ⟨z, y, xs, Paired.mapP r fun p q z => ⟨z.1, ht _ _ z.2.1, z.2.2⟩, ob, es, ep, k _ _ (.inl rfl) e, c⟩
  | set S n => obtain ⟨ob, es, ep, t, e, c⟩ := x; exact ⟨ob, es, ep, t, k _ _ (.inl rfl) e, c⟩
  | ins C dx fs =>
    obtain ⟨d, z, ne, e, mA, ⟨od, es, ep, e2, c⟩, r⟩ := x
    exact ⟨ho _ d, z, ne, k _ _ (.inl rfl) e, mA, ⟨od, es, ep, k _ _ (.inr d) e2, c⟩, r⟩
  | own y => obtain ⟨ob, e⟩ := x; exact ⟨ob, k _ _ (.inl rfl) e⟩
  | xd fs => obtain ⟨mA, ⟨od, es, ep, e, c⟩, r⟩ := x; exact ⟨mA, ⟨od, es, ep, k _ _ (.inl rfl) e, c⟩, r⟩
  | rng lo hi => obtain ⟨t, u, v, e⟩ := x; exact ⟨t, u, v, k _ _ (.inl rfl) e⟩
  | frz ob u ih => obtain ⟨e, q⟩ := x; exact ⟨k _ _ (.inl rfl) e, ih q⟩
  | tbl ps =>
    have e : h.get? a = some { cls := .none, data := .fields ps } := x
    show h'.get? a = some { cls := .none, data := .fields ps }
    exact k a _ (.inl rfl) e
  | met f y =>
    have e : h.get? a = some (PySem.W.methodObj (.ref f) (.ref y)) := x
    show h'.get? a = some (PySem.W.methodObj (.ref f) (.ref y))
    exact k a _ (.inl rfl) e
  | ext φ => obtain ⟨p, ⟨o, e⟩, st⟩ := x; exact ⟨st _ _ p fun o q => k _ _ (.inl rfl) q, ⟨o, k _ _ (.inl rfl) e⟩, st⟩
theorem HOk.lt (x : HOk P w H h) (e : H a = some o) : a < h.objs.size := (x a o e).lt
theorem HOk.fresh (x : HOk P w H h) (e : h.objs.size ≤ a) : H a = none := by
  cases q : H a with
  | none => rfl
  | some u => exact absurd (Nat.lt_of_lt_of_le (x.lt q) e) (Nat.lt_irrefl _)
theorem HOk.kept (x : HOk P w H h) (k : ∀ b u, h.get? b = some u → h'.get? b = some u) : HOk P w H h' := fun a o e =>
  (x a o e).stay (fun b u _ q => k b u q) (fun _ q => q) fun _ _ q => q
theorem HOk.laid (x : HOk P w H h) (k : ∀ b u, h.get? b = some u → h'.get? b = some u) (hp : h.objs.size ≤ a) (new : ObjOk P w (upd H a o) h' a o) : HOk P w (upd H a o) h' := fun b u e => by
  have hn := x.fresh hp
  by_cases hb : b = a
  · subst hb; rw [upd_same] at e; cases e; exact new
  · rw [upd_ne hb] at e
    exact (x b u e).stay (fun c v _ q => k c v q) (fun c q => by rw [upd_ne (ne_of_none q hn)]; exact q) fun c xs q => by rw [upd_ne (ne_of_none q hn)]; exact q
end

noncomputable def Rd (H : Hp) (a : Addr) (u : HO) : Prop := H a = some u ∨ ∃ o, H a = some (.frz o u)
theorem Rd.of {H : Hp} {a : Addr} {u : HO} (h : H a = some u) : Rd H a u := .inl h
theorem Rd.ok {P : Program} {w : World} {H : Hp} {h : Heap} {a : Addr} {u : HO} (r : Rd H a u) (x : HOk P w H h) : ObjOk P w H h a u := by
  rcases r with r | ⟨o, r⟩
  · exact x a u r
  · obtain ⟨_, q⟩ := x a _ r
    exact q
noncomputable def Mut : Option HO → Prop
  | some (.lst _) => True
  | some (.dK _) => True
  | some (.dT _) => True
  | some (.set _ _) => True
  | some (.ins _ _ _) => True
  | some (.ext _) => True
  | _ => False
section
variable {P : Program} {w : World} {H : Hp} {h h' : Heap} {x e : Addr} {o' : HO}
theorem HOk.write (ok : HOk P w H h) (mu : Mut (H x)) (he : e = x ∨ H e = some (.own x)) (k : ∀ b u, b ≠ e → h.get? b = some u → h'.get? b = some u) (heo : ∃ u, h'.get? e = some u)
    (new : ObjOk P w (upd H x o') h' x o') : HOk P w (upd H x o') h' := fun b u q => by
  have nown : ∀ c y, H c = some (.own y) → c ≠ x := fun c y r z => by subst z; rw [r] at mu; exact mu
  have ntup : ∀ c xs, H c = some (.tup xs) → c ≠ x := fun c xs r z => by subst z; rw [r] at mu; exact mu
  by_cases hb : b = x
  · subst hb; rw [upd_same] at q; cases q; exact new
  · rw [upd_ne hb] at q
    by_cases hbe : b = e
    · have q' : H b = some (.own x) := by
        rcases he with z | z
        · exact absurd (hbe.trans z) hb
        · rw [hbe]; exact z
      rw [q] at q'; cases q'
      obtain ⟨v, hv⟩ := heo
      exact ⟨v, by rw [hbe]; exact hv⟩
    · refine (ok b u q).stay (fun c v hc r => k c v ?_ r) (fun c r => by rw [upd_ne (nown c b r)]; exact r) fun c xs r => by rw [upd_ne (ntup c xs r)]; exact r
      rcases hc with rfl | hc
      · exact hbe
      · rintro rfl
        rcases he with z | z
        · exact nown c b hc z
        · rw [hc] at z; cases z; exact hb rfl
end

structure Un (fs ex : List Addr) (H H' : Hp) (h h' : Heap) : Prop where
  keep : ∀ b o, h.get? b = some o → H b = none → b ∉ fs → b ∉ ex → h'.get? b = some o
  slot : ∀ b o, h.get? b = some o → H b = none → b ∈ fs → b ∉ ex → ∃ sl, h'.get? b = some { o with slots := sl }
  free : ∀ b o, h.get? b = some o → H b = none → b ∉ ex → H' b = none
  there : ∀ b o, h.get? b = some o → b ∉ ex → ∃ o', h'.get? b = some o'
  tups : ∀ b xs, H b = some (.tup xs) → H' b = some (.tup xs)
  frzs : ∀ b o u, H b = some (.frz o u) → H' b = some (.frz o u)
  tbls : ∀ b ps, H b = some (.tbl ps) → ∃ more, H' b = some (.tbl (ps ++ more))
section
variable {fs fs' ex ex' : List Addr} {H H1 H2 : Hp} {h h1 h2 h' : Heap} {a x e : Addr} {o : HO}
theorem Un.any (u : Un fs ex H H1 h h1) {b : Addr} {ob : Obj} (q : h.get? b = some ob) (n : H b = none) (hx : b ∉ ex) : ∃ sl, h1.get? b = some { ob with slots := sl } := by
  by_cases hb : b ∈ fs
  · exact u.slot b ob q n hb hx
  · exact ⟨ob.slots, u.keep b ob q n hb hx⟩
theorem Un.trans (a : Un fs ex H H1 h h1) (b : Un fs ex H1 H2 h1 h2) : Un fs ex H H2 h h2 where
  keep := fun c ob q n hc hx => b.keep c ob (a.keep c ob q n hc hx) (a.free c ob q n hx) hc hx
  slot := fun c ob q n hc hx => by
    obtain ⟨sl, e1⟩ := a.slot c ob q n hc hx
    obtain ⟨sl', e2⟩ := b.slot c _ e1 (a.free c ob q n hx) hc hx
    exact ⟨sl', e2⟩
  free := fun c ob q n hx => by
    obtain ⟨o', e1⟩ := a.there c ob q hx
    exact b.free c o' e1 (a.free c ob q n hx) hx
  there := fun c ob q hx => by
    obtain ⟨o', e1⟩ := a.there c ob q hx
    exact b.there c o' e1 hx
  tups := fun c xs q => b.tups c xs (a.tups c xs q)
  frzs := fun c ob xs q => b.frzs c ob xs (a.frzs c ob xs q)
  tbls := fun c ps q => by
    obtain ⟨m1, e1⟩ := a.tbls c ps q
    obtain ⟨m2, e2⟩ := b.tbls c _ e1
    exact ⟨m1 ++ m2, by rw [e2, Array.append_assoc]⟩
theorem Un.kept (k : ∀ b u, h.get? b = some u → h'.get? b = some u) : Un fs ex H H h h' :=
  ⟨fun b ob q _ _ _ => k b ob q, fun b ob q _ _ _ => ⟨ob.slots, k b ob q⟩, fun _ _ _ n _ => n, fun b ob q _ => ⟨ob, k b ob q⟩, fun _ _ q => q, fun _ _ _ q => q, fun _ ps q => ⟨#[], by rw [q]; simp⟩⟩
theorem Un.refl : Un fs ex H H h h := Un.kept fun _ _ q => q
theorem Un.laid (k : ∀ b u, h.get? b = some u → h'.get? b = some u) (hp : h.objs.size ≤ a) (hn : H a = none) : Un fs ex H (upd H a o) h h' where
  keep := fun b u q _ _ _ => k b u q
  slot := fun b u q _ _ _ => ⟨u.slots, k b u q⟩
  free := fun b u q n _ => by rw [upd_ne (Nat.ne_of_lt (Nat.lt_of_lt_of_le (Heap.lt_size q) hp))]; exact n
  there := fun b u q _ => ⟨u, k b u q⟩
  tups := fun b xs q => by rw [upd_ne (ne_of_none q hn)]; exact q
  frzs := fun b u xs q => by rw [upd_ne (ne_of_none q hn)]; exact q
  tbls := fun b ps q => ⟨#[], by rw [upd_ne (ne_of_none q hn), q]; simp⟩
theorem Un.write (mu : Mut (H x)) (he : e = x ∨ H e = some (.own x)) (k : ∀ b u, b ≠ e → h.get? b = some u → h'.get? b = some u) (heo : ∃ u, h'.get? e = some u) : Un fs ex H (upd H x o) h h' := by
  have hx : ∀ b, H b = none → b ≠ x := fun b n z => by subst z; rw [n] at mu; exact mu
  have hb : ∀ b, H b = none → b ≠ e := fun b n z => by
    subst z
    rcases he with r | r
    · exact hx b n r
    · rw [n] at r; cases r
  have hm : ∀ b u, H b = some u → ¬ Mut (some u) → b ≠ x := fun b u q nm z => by subst z; rw [q] at mu; exact nm mu
  refine ⟨fun b u q n _ _ => k b u (hb b n) q, fun b u q n _ _ => ⟨u.slots, k b u (hb b n) q⟩, fun b u q n _ => by rw [upd_ne (hx b n)]; exact n, fun b u q _ => ?_,
    fun b xs q => by rw [upd_ne (hm b _ q fun z => z)]; exact q, fun b u xs q => by rw [upd_ne (hm b _ q fun z => z)]; exact q, fun b ps q => ⟨#[], by rw [upd_ne (hm b _ q fun z => z), q]; simp⟩⟩
  by_cases hbe : b = e
  · subst hbe; exact heo
  · exact ⟨u, k b u hbe q⟩
theorem Un.mono (u : Un fs ex H H1 h h1) (hs : ∀ b ∈ fs, b ∈ fs') (hx : ∀ b ∈ ex, b ∈ ex') : Un fs' ex' H H1 h h1 :=
  ⟨fun b ob q n hb he => u.keep b ob q n (fun z => hb (hs b z)) fun z => he (hx b z), fun _ _ q n _ he => u.any q n fun z => he (hx _ z), fun b ob q n he => u.free b ob q n fun z => he (hx b z), fun b ob q he => u.there b ob q fun z => he (hx b z), u.tups, u.frzs, u.tbls⟩
end

noncomputable def trk (h : Heap) (H : Hp) : List Addr := (List.range h.objs.size).filter fun a => (H a).isSome
noncomputable def hidT (h : Heap) (H : Hp) : Heap := PySem.W.hideAll h (trk h H)
theorem hidT_size (h : Heap) (H : Hp) : (hidT h H).objs.size = h.objs.size := PySem.W.hideAll_size _ _
theorem hidT_get {h : Heap} {H : Hp} {b : Addr} {o : Obj} (e : h.get? b = some o) (n : H b = none) : (hidT h H).get? b = some o :=
  PySem.W.hideAll_get _ e fun hm => by
    have q : (H b).isSome = true := (List.mem_filter.mp hm).2
    rw [n] at q; simp at q
theorem of_hidT {h : Heap} {H : Hp} {b : Addr} {o : Obj} (e : (hidT h H).get? b = some o) : h.get? b = some o ∧ H b = none := by
  have e' : h.get? b = some o := PySem.W.of_hideAll (trk h H) e
  refine ⟨e', ?_⟩
  cases q : H b with
  | none => rfl
  | some x =>
    have hm : b ∈ trk h H := List.mem_filter.mpr ⟨List.mem_range.mpr (Heap.lt_size e'), by simp [q]⟩
    have z : (hidT h H).get? b = none := PySem.W.hideAll_none (trk h H) hm
    rw [z] at e; cases e

noncomputable def allNews (g h : Heap) (L : Addr) : List (Addr × Obj) := (List.range h.objs.size).filterMap fun a => if a = L ∨ (g.get? a).isSome = true then none else (h.get? a).map fun o => (a, o)
noncomputable def rest (g h : Heap) (L d : Addr) : List (Addr × Obj) := (allNews g h L).filter fun p => decide (p.1 ≠ d)
end L2

namespace L2
open PySem PySem.Spec PyProof.Rows

structure Mod (K : PySem.W.Frag) (mg : Str → Option Value) (base : Heap) : Prop where
  kin : K.In base
  glob : base.Ns mainGlobals mg
  blt : ∃ mb, base.Ns builtinsNs mb ∧ ∀ x : Str, x ≠ "__name__" → mb x = bootBuiltins x
  nolimit : base.NoLimit

structure Cx where
  prog : Program
  w : World
  K : PySem.W.Frag
  mg : Str → Option Value
  base : Heap
  A : Around
  N : List Str
  s₀ : Shared
  H₀ : Hp
  env : Env
  outer : List Env
  stack : List Env
  ex : List Addr
  fn : Str → Bool
  calm : Bool
  pn : List (Addr × Obj)
  xe : Value → Shared → Prop
noncomputable def frs (l : List Env) : List Addr := l.filterMap (·.frame)
noncomputable abbrev Cx.fs (X : Cx) : List Addr := frs X.outer

noncomputable def Vis (sc : Scope) (x : Str) : Prop := sc.names.lookup x = some .local ∨ sc.names.lookup x = some .cell ∨ sc.names.lookup x = some .free
noncomputable def Loc (sc : Scope) (x : Str) : Prop := sc.names.lookup x = some .local ∨ sc.names.lookup x = some .cell
noncomputable def Look (env : Env) (h : Heap) (m : Str → Option Value) (x : Str) (u : Value) : Prop :=
  (env.kindOf x = some .local ∧ m x = some u) ∨ ((env.kindOf x = some .cell ∨ env.kindOf x = some .free) ∧ ∃ c, env.cells.lookup x = some c ∧ h.IsCell c (some u))

structure Cx.Ok (X : Cx) : Prop where
  mod : Mod X.K X.mg X.base
  kind : X.env.scope.kind = .function
  glob : X.env.globals = mainGlobals
  blt : X.env.builtins = builtinsNs
  above : X.s₀.heap.objs.size ≤ X.env.locals
  inj : ∀ x y c, X.env.cells.lookup x = some c → X.env.cells.lookup y = some c → x = y
  has : ∀ x, (X.env.kindOf x = some .cell ∨ X.env.kindOf x = some .free) → ∃ c, X.env.cells.lookup x = some c
  cab : ∀ x c, X.fn x = true → X.env.cells.lookup x = some c → X.s₀.heap.objs.size ≤ c
  hd : X.calm = true → X.A.handled = none
  frames : X.A.frames = some X.stack
  stk : X.stack = X.outer ∨ (X.stack = X.env :: X.outer ∧ X.env.frame = some X.env.locals)
  exf : ∀ b ∈ X.ex, b ≠ X.env.locals ∧ ∀ x c, X.env.cells.lookup x = some c → c ≠ b
  bs : ∀ b o, X.base.get? b = some o → X.s₀.heap.get? b = some o ∧ X.H₀ b = none
  bsz : X.base.objs.size ≤ X.s₀.heap.objs.size
  noex : ∀ b o, X.base.get? b = some o → b ∉ X.ex
  exfs : ∀ b ∈ X.ex, b ∉ X.fs
  funs : X.s₀.heap.FunFrames X.base X.outer
  frf : ∀ b ∈ X.fs, X.H₀ b = none

structure Inv (X : Cx) (pins : List (Addr × Obj)) (σ : List (Option V)) (H : Hp) (s : Shared) : Prop where
  ok : X.Ok
  os : s.os = X.s₀.os
  bare : AllBare s.gens
  base : Un X.fs X.ex X.H₀ H X.s₀.heap s.heap
  loc : ∃ m, s.heap.Ns X.env.locals m ∧ ∀ (i : Nat) (x : Str) (v : V), X.N[i]? = some x → σ[i]? = some (some v) → Vis X.env.scope x → ∃ u, RelV v u ∧ Look X.env s.heap m x u
  cell : ∀ x c, X.env.cells.lookup x = some c → ∃ v, s.heap.IsCell c v
  free : H X.env.locals = none
  freeC : ∀ x c, X.env.cells.lookup x = some c → H c = none
  pin : ∀ p ∈ X.pn ++ pins, s.heap.get? p.1 = some p.2 ∧ H p.1 = none ∧ p.1 ≠ X.env.locals ∧ p.1 ∉ X.fs ∧ ∀ v, p.2.data ≠ .cell v
  hok : HOk X.prog X.w H s.heap
  len : σ.length = X.N.length

section
variable {X : Cx} {pins : List (Addr × Obj)} {σ : List (Option V)} {H H' : Hp} {s : Shared} {h' : Heap}

theorem Cx.Ok.nofr (ok : X.Ok) {b : Addr} {o : Obj} (e : X.base.get? b = some o) : b ∉ X.fs := fun hb => by
  have := (ok.funs.mem hb).1
  rw [e] at this; cases this
theorem Inv.bs (I : Inv X pins σ H s) : ∀ b o, X.base.get? b = some o → s.heap.get? b = some o ∧ H b = none := fun b o e =>
  ⟨I.base.keep b o (I.ok.bs b o e).1 (I.ok.bs b o e).2 (I.ok.nofr e) (I.ok.noex b o e), I.base.free b o (I.ok.bs b o e).1 (I.ok.bs b o e).2 (I.ok.noex b o e)⟩
theorem Inv.bk (I : Inv X pins σ H s) : ∀ b o, X.base.get? b = some o → s.heap.get? b = some o := fun b o e => (I.bs b o e).1
theorem Inv.mod (I : Inv X pins σ H s) : Mod X.K X.mg X.base := I.ok.mod
theorem Inv.kIn (I : Inv X pins σ H s) : X.K.In s.heap := I.ok.mod.kin.keeps I.bk
theorem Inv.nolimit (I : Inv X pins σ H s) : s.heap.NoLimit := I.ok.mod.nolimit.keeps I.bk
theorem Inv.lt (I : Inv X pins σ H s) : X.env.locals < s.heap.objs.size := let ⟨_, hn, _⟩ := I.loc; hn.lt
theorem Inv.sz (I : Inv X pins σ H s) : X.s₀.heap.objs.size ≤ s.heap.objs.size := Nat.le_trans I.ok.above (Nat.le_of_lt I.lt)
theorem Inv.nofs (I : Inv X pins σ H s) {a : Addr} (h : s.heap.objs.size ≤ a) : a ∉ X.fs := fun hb => by
  obtain ⟨_, o, ho, _⟩ := I.ok.funs.mem hb
  exact absurd (Nat.lt_of_lt_of_le (Heap.lt_size ho) (Nat.le_trans I.sz h)) (Nat.lt_irrefl _)
theorem Inv.cne (I : Inv X pins σ H s) : ∀ x c, X.env.cells.lookup x = some c → c ≠ X.env.locals := fun x c e z => by
  obtain ⟨v, o, ho, hd⟩ := I.cell x c e
  obtain ⟨m, ⟨o', es, ep, ho', hd', _⟩, _⟩ := I.loc
  rw [z, ho'] at ho; cases ho; rw [hd'] at hd; cases hd
theorem Inv.funs (I : Inv X pins σ H s) : s.heap.FunFrames X.base X.outer := by
  have all : ∀ (l : List Env), (∀ b ∈ frs l, b ∈ X.fs) → X.s₀.heap.FunFrames X.base l → s.heap.FunFrames X.base l := by
    intro l
    induction l with
    | nil => intro _ _; trivial
    | cons env r ih =>
      intro hs hl
      obtain ⟨hk, ⟨L, o, hf, hn, ho, hd⟩, hr⟩ := hl
      have hL : L ∈ X.fs := hs L (by unfold frs; rw [List.filterMap_cons, hf]; exact List.mem_cons_self)
      obtain ⟨sl, e⟩ := I.base.slot L o ho (I.ok.frf L hL) hL fun z => I.ok.exfs L z hL
      exact ⟨hk, ⟨L, _, hf, hn, e, hd⟩, ih (fun b hb => hs b (by unfold frs; rw [List.filterMap_cons, hf]; exact List.mem_cons_of_mem _ hb)) hr⟩
  exact all X.outer (fun _ hb => hb) I.ok.funs

theorem Inv.stack (I : Inv X pins σ H s) : s.heap.FunFrames X.base X.stack := by
  rcases I.ok.stk with e | ⟨e, hf⟩
  · rw [e]; exact I.funs
  · rw [e]
    obtain ⟨m, hn, _⟩ := I.loc
    refine .cons (by rw [I.ok.kind]; decide) hf hn ?_ I.funs
    exact Heap.get?_none_of_le (Nat.le_trans I.ok.bsz I.ok.above)
theorem Inv.stkSub (I : Inv X pins σ H s) : ∀ b ∈ frs X.stack, b ∈ X.env.locals :: X.fs := fun b hb => by
  rcases I.ok.stk with e | ⟨e, hf⟩
  · rw [e] at hb; exact List.mem_cons_of_mem _ hb
  · rw [e] at hb
    unfold frs at hb
    rw [List.filterMap_cons, hf] at hb
    exact hb
theorem Inv.stkFree (I : Inv X pins σ H s) : ∀ b ∈ frs X.stack, H b = none := fun b hb => by
  rcases List.mem_cons.mp (I.stkSub b hb) with e | hb
  · rw [e]; exact I.free
  · obtain ⟨_, o, ho, _⟩ := I.ok.funs.mem hb
    exact I.base.free b o ho (I.ok.frf b hb) fun z => I.ok.exfs b z hb

theorem Inv.step {g' : Array GenState} {t' : Nat} {d' : Drawn} {ch : List Addr} (I : Inv X pins σ H s)
    (hch : ∀ b ∈ ch, (b ∈ X.ex ∨ X.s₀.heap.objs.size ≤ b) ∧ b ≠ X.env.locals ∧ (∀ x c, X.env.cells.lookup x = some c → c ≠ b) ∧ ∀ p ∈ X.pn ++ pins, p.1 ≠ b)
    (keep : ∀ b o, b ≠ X.env.locals → b ∉ X.fs → b ∉ ch → s.heap.get? b = some o → H b = none → h'.get? b = some o)
    (slot : ∀ b o, b ≠ X.env.locals → b ∈ X.fs → b ∉ ch → s.heap.get? b = some o → H b = none → ∃ sl, h'.get? b = some { o with slots := sl }) (free : ∀ b o, b ∉ ch → s.heap.get? b = some o → H b = none → H' b = none)
    (there : ∀ b o, b ∉ ch → s.heap.get? b = some o → ∃ o', h'.get? b = some o')
    (tups : ∀ b xs, H b = some (.tup xs) → H' b = some (.tup xs)) (frzs : ∀ b o u, H b = some (.frz o u) → H' b = some (.frz o u)) (tbls : ∀ b ps, H b = some (.tbl ps) → ∃ more, H' b = some (.tbl (ps ++ more)))
    (ns : ∀ m, s.heap.Ns X.env.locals m → h'.Ns X.env.locals m) (hok : HOk X.prog X.w H' h') (hg : AllBare g') :
    Inv X pins σ H' { s with heap := h', gens := g', drawn := d', toks := t' } := by
  have neL : ∀ b o, X.s₀.heap.get? b = some o → b ≠ X.env.locals := fun b o e => Nat.ne_of_lt (Nat.lt_of_lt_of_le (Heap.lt_size e) I.ok.above)
  have neC : ∀ b o, X.s₀.heap.get? b = some o → b ∉ X.ex → b ∉ ch := fun b o e hx hb => by
    rcases (hch b hb).1 with z | z
    · exact hx z
    · exact absurd (Nat.lt_of_lt_of_le (Heap.lt_size e) z) (Nat.lt_irrefl _)
  have cellK : ∀ x c, X.env.cells.lookup x = some c → ∀ v, s.heap.IsCell c v → h'.IsCell c v := fun x c e v zz => by
    obtain ⟨o, ho, hd⟩ := zz
    have nch : c ∉ ch := fun z => (hch c z).2.2.1 x c e rfl
    by_cases hc : c ∈ X.fs
    · obtain ⟨sl, q⟩ := slot c o (I.cne x c e) hc nch ho (I.freeC x c e)
      exact ⟨_, q, hd⟩
    · exact ⟨o, keep c o (I.cne x c e) hc nch ho (I.freeC x c e), hd⟩
  refine ⟨I.ok, I.os, hg, ⟨fun b o e n hb hx => ?_, fun b o e n hb hx => ?_, fun b o e n hx => ?_, fun b o e hx => ?_, fun b xs e => tups b xs (I.base.tups b xs e), fun b o xs e => frzs b o xs (I.base.frzs b o xs e), fun b ps e => ?_⟩, ?_, fun x c e => ?_, ?_, fun x c e => ?_, fun p hp => ?_, hok, I.len⟩
  · exact keep b o (neL b o e) hb (neC b o e hx) (I.base.keep b o e n hb hx) (I.base.free b o e n hx)
  · obtain ⟨sl, e1⟩ := I.base.slot b o e n hb hx
    obtain ⟨sl', e2⟩ := slot b _ (neL b o e) hb (neC b o e hx) e1 (I.base.free b o e n hx)
    exact ⟨sl', e2⟩
  · obtain ⟨o', e1⟩ := I.base.there b o e hx
    exact free b o' (neC b o e hx) e1 (I.base.free b o e n hx)
  · obtain ⟨o', e1⟩ := I.base.there b o e hx
    exact there b o' (neC b o e hx) e1
  · obtain ⟨m1, e1⟩ := I.base.tbls b ps e
    obtain ⟨m2, e2⟩ := tbls b _ e1
    exact ⟨m1 ++ m2, by rw [e2, Array.append_assoc]⟩
  · obtain ⟨m, hn, hl⟩ := I.loc
    refine ⟨m, ns m hn, fun i x v e1 e2 e3 => ?_⟩
    obtain ⟨u, r, l⟩ := hl i x v e1 e2 e3
    refine ⟨u, r, ?_⟩
    rcases l with l | ⟨k, c, e, z⟩
    · exact .inl l
    · exact .inr ⟨k, c, e, cellK x c e _ z⟩
  · obtain ⟨v, z⟩ := I.cell x c e
    exact ⟨v, cellK x c e v z⟩
  · obtain ⟨m, ⟨o, _, _, ho, _⟩, _⟩ := I.loc
    exact free _ o (fun z => (hch _ z).2.1 rfl) ho I.free
  · obtain ⟨v, o, ho, hd⟩ := I.cell x c e
    exact free c o (fun z => (hch c z).2.2.1 x c e rfl) ho (I.freeC x c e)
  · obtain ⟨e, n, ne, nf, d⟩ := I.pin p hp
    have nch : p.1 ∉ ch := fun z => (hch p.1 z).2.2.2 p hp rfl
    exact ⟨keep p.1 p.2 ne nf nch e n, free p.1 p.2 nch e n, ne, nf, d⟩
theorem Inv.un {t' : Nat} (I : Inv X pins σ H s) (u : Un X.fs [] H H' s.heap h') (hok : HOk X.prog X.w H' h') : Inv X pins σ H' { s with heap := h', toks := t' } := by
  obtain ⟨m, ⟨o, es, ep, ho, r⟩, _⟩ := id I.loc
  obtain ⟨sl, hL⟩ := u.any ho I.free (by simp)
  exact I.step (g' := s.gens) (d' := s.drawn) (ch := []) (fun _ z => nomatch z) (fun b o _ hb _ e n => u.keep b o e n hb (by simp)) (fun b o _ hb _ e n => u.slot b o e n hb (by simp)) (fun b o _ e n => u.free b o e n (by simp)) (fun b o _ e => u.there b o e (by simp)) u.tups u.frzs u.tbls (fun m' hm => by
    obtain ⟨o', es', ep', ho', r'⟩ := hm
    rw [ho] at ho'; cases ho'
    exact ⟨_, es', ep', hL, r'⟩) hok I.bare
theorem Inv.call {g' : Array GenState} {t' : Nat} {d' : Drawn} {ch : List Addr} (I : Inv X pins σ H s) (u : Un (frs X.stack) ch H H' s.heap h') (hok : HOk X.prog X.w H' h') (hg : AllBare g')
    (hch : ∀ b ∈ ch, (b ∈ X.ex ∨ X.s₀.heap.objs.size ≤ b) ∧ b ≠ X.env.locals ∧ (∀ x c, X.env.cells.lookup x = some c → c ≠ b) ∧ ∀ p ∈ X.pn ++ pins, p.1 ≠ b) :
    Inv X pins σ H' { s with heap := h', gens := g', drawn := d', toks := t' } := by
  obtain ⟨m, ⟨o, es, ep, ho, r⟩, _⟩ := id I.loc
  obtain ⟨sl, hL⟩ := u.any ho I.free fun z => (hch _ z).2.1 rfl
  exact I.step (ch := ch) hch (fun b o hL hb hc e n => u.keep b o e n (fun z => (List.mem_cons.mp (I.stkSub b z)).elim hL hb) hc) (fun b o _ _ hc e n => u.any e n hc) (fun b o hc e n => u.free b o e n hc) (fun b o hc e => u.there b o e hc) u.tups u.frzs u.tbls (fun m' hm => by
    obtain ⟨o', es', ep', ho', r'⟩ := hm
    rw [ho] at ho'; cases ho'
    exact ⟨_, es', ep', hL, r'⟩) hok hg
theorem Inv.turned {t' : Nat} {it : Addr} (I : Inv X pins σ H s) (k : ∀ b o, b ≠ it → s.heap.get? b = some o → h'.get? b = some o) (hn : H it = none) (hL : it ≠ X.env.locals)
    (h1 : it ∈ X.ex ∨ X.s₀.heap.objs.size ≤ it) (h2 : ∀ x c, X.env.cells.lookup x = some c → c ≠ it) (h3 : ∀ p ∈ X.pn ++ pins, p.1 ≠ it) : Inv X pins σ H { s with heap := h', toks := t' } := by
  have nit : ∀ b u, H b = some u → b ≠ it := fun b u e z => by rw [z, hn] at e; cases e
  refine I.step (g' := s.gens) (d' := s.drawn) (ch := [it]) (fun b hb => ?_) (fun b o _ _ hc e _ => k b o (fun z => hc (by simp [z])) e) (fun b o _ _ hc e _ => ⟨o.slots, k b o (fun z => hc (by simp [z])) e⟩) (fun _ _ _ _ n => n)
    (fun b o hc e => ⟨o, k b o (fun z => hc (by simp [z])) e⟩) (fun _ _ e => e) (fun _ _ _ e => e) (fun b ps e => ⟨#[], by rw [e]; simp⟩) (fun m hm => ?_) (fun b u e => ?_) I.bare
  · have e : b = it := by simpa using hb
    subst e
    exact ⟨h1, hL, h2, h3⟩
  · obtain ⟨o, es, ep, ho, r⟩ := hm
    exact ⟨o, es, ep, k _ o (Ne.symm hL) ho, r⟩
  · refine (I.hok b u e).stay (fun c v hc q => k c v ?_ q) (fun _ q => q) fun _ _ q => q
    rcases hc with z | z
    · rw [z]; exact nit b u e
    · exact nit c _ z
theorem Inv.tok (I : Inv X pins σ H s) (t : Nat) : Inv X pins σ H { s with toks := t } := I.un (h' := s.heap) (t' := t) Un.refl I.hok
theorem Inv.kept {t' : Nat} (I : Inv X pins σ H s) (k : ∀ b u, s.heap.get? b = some u → h'.get? b = some u) : Inv X pins σ H { s with heap := h', toks := t' } := I.un (Un.kept k) (I.hok.kept k)
theorem Inv.laid {a : Addr} {o : HO} {t' : Nat} (I : Inv X pins σ H s) (k : ∀ b u, s.heap.get? b = some u → h'.get? b = some u) (hp : s.heap.objs.size ≤ a) (new : ObjOk X.prog X.w (upd H a o) h' a o) :
    Inv X pins σ (upd H a o) { s with heap := h', toks := t' } := I.un (Un.laid k hp (I.hok.fresh hp)) (I.hok.laid k hp new)
theorem Inv.write {x e : Addr} {o : HO} {t' : Nat} (I : Inv X pins σ H s) (mu : Mut (H x)) (he : e = x ∨ H e = some (.own x)) (k : ∀ b u, b ≠ e → s.heap.get? b = some u → h'.get? b = some u) (heo : ∃ u, h'.get? e = some u)
    (new : ObjOk X.prog X.w (upd H x o) h' x o) : Inv X pins σ (upd H x o) { s with heap := h', toks := t' } := I.un (Un.write mu he k heo) (I.hok.write mu he k heo new)
theorem Inv.pins_of {pins' : List (Addr × Obj)} (I : Inv X pins σ H s) (h : ∀ p ∈ pins', s.heap.get? p.1 = some p.2 ∧ H p.1 = none ∧ p.1 ≠ X.env.locals ∧ p.1 ∉ X.fs ∧ ∀ v, p.2.data ≠ .cell v) : Inv X pins' σ H s :=
  ⟨I.ok, I.os, I.bare, I.base, I.loc, I.cell, I.free, I.freeC, fun p hp => (List.mem_append.mp hp).elim (fun z => I.pin p (List.mem_append_left _ z)) (h p), I.hok, I.len⟩

theorem nodup_ix {N : List Str} (hN : N.Nodup) {i j : Nat} {x : Str} (a : N[i]? = some x) (b : N[j]? = some x) : i = j := by
  obtain ⟨h1, e1⟩ := List.getElem?_eq_some_iff.mp a
  obtain ⟨h2, e2⟩ := List.getElem?_eq_some_iff.mp b
  exact (List.getElem_inj hN).mp (e1.trans e2.symm)

theorem store_ok2 {M : Model} {A : Around} {E : Value → Shared → Prop} {i : Nat} {x : Str} {v : V} {u : Value} {Q : Unit → Shared → Prop} (I : Inv X pins σ H s) (hN : X.N.Nodup) (hi : X.N[i]? = some x) (hx : Loc X.env.scope x) (r : RelV v u)
    (h : ∀ s', Inv X pins (σ.set i (some v)) H s' → (∃ a, Heap.SameBut a s.heap s'.heap ∧ (a = X.env.locals ∨ X.env.cells.lookup x = some a)) → Q () s') (hf : X.fn x = true ∨ X.env.scope.names.lookup x = some .local := by first | exact .inl rfl | exact .inr rfl | assumption) : wpAny M A (storeName X.env x u) Q E s := by
  obtain ⟨m, hn, hl⟩ := id I.loc
  have hcls : (X.env.scope.kind == .class || (X.env.scope.kind == .module && X.env.locals != X.env.globals)) = false := by rw [I.ok.kind]; rfl
  have hiσ : i < σ.length := by rw [I.len]; exact (List.getElem?_eq_some_iff.mp hi).1
  have cne := I.cne
  have tracked : ∀ {a : Addr} {h' : Heap}, (∃ o, s.heap.get? a = some o ∧ H a = none) → Heap.SameBut a s.heap h' → HOk X.prog X.w H h' := fun {a h'} ha hs b ob e => by
    obtain ⟨_, _, hfree⟩ := ha
    refine (I.hok b ob e).stay (fun c w' hc q => (hs.2 c ?_).trans q) (fun _ q => q) fun _ _ q => q
    rintro rfl
    rcases hc with rfl | hc
    · rw [hfree] at e; cases e
    · rw [hfree] at hc; cases hc
  rcases hx with hk | hk
  · refine wpAny_storeName_local hk hn (fun h' hn' hs => ?_) hcls
    obtain ⟨oL, _, _, hoL, _⟩ := id hn
    refine h _ ⟨I.ok, I.os, I.bare, ⟨fun b o e n hb hx => ?_, fun b o e n hb hx => ?_, I.base.free, fun b o e hx => ?_, I.base.tups, I.base.frzs, I.base.tbls⟩, ⟨_, hn', fun j y v' e1 e2 e3 => ?_⟩, fun y c e => ?_, I.free, I.freeC, fun p hp => ?_, tracked ⟨oL, hoL, I.free⟩ hs, by simpa using I.len⟩ ⟨_, hs, .inl rfl⟩
    · exact (hs.2 b (Nat.ne_of_lt (Nat.lt_of_lt_of_le (Heap.lt_size e) I.ok.above))).trans (I.base.keep b o e n hb hx)
    · obtain ⟨sl, e1⟩ := I.base.slot b o e n hb hx
      exact ⟨sl, (hs.2 b (Nat.ne_of_lt (Nat.lt_of_lt_of_le (Heap.lt_size e) I.ok.above))).trans e1⟩
    · obtain ⟨o', e1⟩ := I.base.there b o e hx
      exact ⟨o', (hs.2 b (Nat.ne_of_lt (Nat.lt_of_lt_of_le (Heap.lt_size e) I.ok.above))).trans e1⟩
    · by_cases hj : j = i
      · subst hj
        rw [hi] at e1; cases e1
        rw [List.getElem?_set_self hiσ] at e2
        cases e2
        exact ⟨u, r, .inl ⟨hk, by simp⟩⟩
      · rw [List.getElem?_set_ne (Ne.symm hj)] at e2
        obtain ⟨u', r', q⟩ := hl j y v' e1 e2 e3
        refine ⟨u', r', ?_⟩
        rcases q with ⟨k, e⟩ | ⟨k, c, e, z⟩
        · refine .inl ⟨k, ?_⟩
          have : y ≠ x := fun e => hj (nodup_ix hN e1 (e ▸ hi))
          simp [this, e]
        · exact .inr ⟨k, c, e, z.sameBut hs (cne y c e)⟩
    · obtain ⟨w', z⟩ := I.cell y c e
      exact ⟨w', z.sameBut hs (cne y c e)⟩
    · obtain ⟨e, n, ne, nf, d⟩ := I.pin p hp
      exact ⟨(hs.2 p.1 ne).trans e, n, ne, nf, d⟩
  · have hfn : X.fn x = true := by
      rcases hf with z | z
      · exact z
      · rw [z] at hk; cases hk
    obtain ⟨c, hc⟩ := I.ok.has x (.inl hk)
    obtain ⟨w', z⟩ := I.cell x c hc
    refine wpAny_storeName_cell I.ok.kind hk hc z (fun h' hc' hs => ?_)
    obtain ⟨oc, hoc, hocd⟩ := id z
    refine h { s with heap := h' } ⟨I.ok, I.os, I.bare, ⟨fun b o e n hb hx => ?_, fun b o e n hb hx => ?_, I.base.free, fun b o e hx => ?_, I.base.tups, I.base.frzs, I.base.tbls⟩, ⟨m, hn.sameBut hs (Ne.symm (cne x c hc)), fun j y v' e1 e2 e3 => ?_⟩, fun y c' e => ?_, I.free, I.freeC, fun p hp => ?_, tracked ⟨oc, hoc, I.freeC x c hc⟩ hs, by simpa using I.len⟩ ⟨c, hs, .inr hc⟩
    · exact (hs.2 b (Nat.ne_of_lt (Nat.lt_of_lt_of_le (Heap.lt_size e) (I.ok.cab x c hfn hc)))).trans (I.base.keep b o e n hb hx)
    · obtain ⟨sl, e1⟩ := I.base.slot b o e n hb hx
      exact ⟨sl, (hs.2 b (Nat.ne_of_lt (Nat.lt_of_lt_of_le (Heap.lt_size e) (I.ok.cab x c hfn hc)))).trans e1⟩
    · obtain ⟨o', e1⟩ := I.base.there b o e hx
      exact ⟨o', (hs.2 b (Nat.ne_of_lt (Nat.lt_of_lt_of_le (Heap.lt_size e) (I.ok.cab x c hfn hc)))).trans e1⟩
    · by_cases hj : j = i
      · subst hj
        rw [hi] at e1; cases e1
        rw [List.getElem?_set_self hiσ] at e2
        cases e2
        exact ⟨u, r, .inr ⟨.inl hk, c, hc, hc'⟩⟩
      · rw [List.getElem?_set_ne (Ne.symm hj)] at e2
        obtain ⟨u', r', q⟩ := hl j y v' e1 e2 e3
        refine ⟨u', r', ?_⟩
        rcases q with q | ⟨k, c', e, z'⟩
        · exact .inl q
        · refine .inr ⟨k, c', e, z'.sameBut hs ?_⟩
          rintro rfl
          exact hj (nodup_ix hN e1 (I.ok.inj _ _ _ e hc ▸ hi))
    · by_cases hcc : c' = c
      · subst hcc; exact ⟨_, hc'⟩
      · obtain ⟨w2, z2⟩ := I.cell y c' e
        exact ⟨w2, z2.sameBut hs hcc⟩
    · obtain ⟨e, n, ne, nf, d⟩ := I.pin p hp
      refine ⟨(hs.2 p.1 ?_).trans e, n, ne, nf, d⟩
      intro q
      rw [q, hoc] at e
      have q' : oc = p.2 := Option.some.inj e
      exact d w' (by rw [← q']; exact hocd)
theorem store_ok {M : Model} {A : Around} {E : Value → Shared → Prop} {i : Nat} {x : Str} {v : V} {u : Value} {Q : Unit → Shared → Prop} (I : Inv X pins σ H s) (hN : X.N.Nodup) (hi : X.N[i]? = some x) (hx : Loc X.env.scope x) (r : RelV v u)
    (h : ∀ s', Inv X pins (σ.set i (some v)) H s' → Q () s') (hf : X.fn x = true ∨ X.env.scope.names.lookup x = some .local := by first | exact .inl rfl | exact .inr rfl | assumption) : wpAny M A (storeName X.env x u) Q E s :=
  store_ok2 I hN hi hx r (fun s' I' _ => h s' I') hf
theorem Inv.call' {s' : Shared} {ch : List Addr} (I : Inv X pins σ H s) (ho : s'.os = s.os) (u : Un (frs X.stack) ch H H' s.heap s'.heap) (hok : HOk X.prog X.w H' s'.heap) (hg : AllBare s'.gens)
    (hch : ∀ b ∈ ch, (b ∈ X.ex ∨ X.s₀.heap.objs.size ≤ b) ∧ b ≠ X.env.locals ∧ (∀ x c, X.env.cells.lookup x = some c → c ≠ b) ∧ ∀ p ∈ X.pn ++ pins, p.1 ≠ b) : Inv X pins σ H' s' := by
  obtain ⟨h', g', d', t', o'⟩ := s'
  have e : o' = s.os := ho
  subst e
  exact I.call (g' := g') (t' := t') (d' := d') u hok hg hch
end

noncomputable abbrev XK := Value → Option Addr → Hp → Prop
noncomputable abbrev St := List (Option V)
noncomputable abbrev VK := V → Hp → Prop
noncomputable abbrev TE := St → Hp → VK → Prop
noncomputable abbrev TT := St → Hp → (Bool → Hp → Prop) → Prop
noncomputable abbrev TA := St → Hp → (List V → Hp → Prop) → Prop
structure Ends where
  nx : St → Hp → Prop
  rt : VK
  bk : St → Hp → Prop := fun _ _ => False
  ct : St → Hp → Prop := fun _ _ => False
noncomputable abbrev TS := Ends → St → Hp → Prop

noncomputable def EP (X : Cx) (pins : List (Addr × Obj)) (σ : St) (Q : VK) (u : Value) (s' : Shared) : Prop := ∃ v H', Inv X pins σ H' s' ∧ RelV v u ∧ Q v H'
noncomputable def TP (X : Cx) (pins : List (Addr × Obj)) (σ : St) (Q : Bool → Hp → Prop) (b : Bool) (s' : Shared) : Prop := ∃ H', Inv X pins σ H' s' ∧ Q b H'
noncomputable def AP (X : Cx) (pins : List (Addr × Obj)) (σ : St) (Q : List V → Hp → Prop) (us : List Value) (s' : Shared) : Prop := ∃ vs H', Inv X pins σ H' s' ∧ Vals vs us ∧ Q vs H'
noncomputable def SP (X : Cx) (pins : List (Addr × Obj)) (D : Ends) (f : Flow) (s' : Shared) : Prop :=
  match f with
  | .next => ∃ σ' H', Inv X pins σ' H' s' ∧ D.nx σ' H'
  | .brk => ∃ σ' H', Inv X pins σ' H' s' ∧ D.bk σ' H'
  | .cont => ∃ σ' H', Inv X pins σ' H' s' ∧ D.ct σ' H'
  | .ret u => ∃ v σ' H', Inv X pins σ' H' s' ∧ RelV v u ∧ D.rt v H'

noncomputable def PE (X : Cx) (e : Expr) (t : TE) : Prop :=
  ∀ (pins : List (Addr × Obj)) (s : Shared) (σ : St) (H : Hp) (Q : VK), Inv X pins σ H s → t σ H Q → wpAny (model X.prog X.w) X.A (eval e X.env) (EP X pins σ Q) X.xe s
noncomputable def PT (X : Cx) (e : Expr) (t : TT) : Prop :=
  ∀ (pins : List (Addr × Obj)) (s : Shared) (σ : St) (H : Hp) (Q : Bool → Hp → Prop), Inv X pins σ H s → t σ H Q → wpAny (model X.prog X.w) X.A (isTrue e X.env (eval e X.env)) (TP X pins σ Q) X.xe s
noncomputable def PW (X : Cx) (e : Expr) (t : TT) : Prop :=
  ∀ (whole : Sem Value) (pins : List (Addr × Obj)) (s : Shared) (σ : St) (H : Hp) (Q : Bool → Hp → Prop), Inv X pins σ H s → t σ H Q → wpAny (model X.prog X.w) X.A (isTrue e X.env whole) (TP X pins σ Q) X.xe s
theorem PW.pt {X : Cx} {e : Expr} {t : TT} (h : PW X e t) : PT X e t := h _
noncomputable def PA (X : Cx) (es : List Expr) (t : TA) : Prop :=
  ∀ (pos : Pos) (pins : List (Addr × Obj)) (s : Shared) (σ : St) (H : Hp) (Q : List V → Hp → Prop), Inv X pins σ H s → t σ H Q → wpAny (model X.prog X.w) X.A (spliced (backTo pos (starEach es X.env))) (AP X pins σ Q) X.xe s
noncomputable def PS (X : Cx) (st : Stmt) (t : TS) : Prop :=
  ∀ (pins : List (Addr × Obj)) (s : Shared) (σ : St) (H : Hp) (D : Ends), Inv X pins σ H s → t D σ H → wpAny (model X.prog X.w) X.A (exec st X.env) (SP X pins D) X.xe s
noncomputable def PSs (X : Cx) (st : List Stmt) (t : TS) : Prop :=
  ∀ (pins : List (Addr × Obj)) (s : Shared) (σ : St) (H : Hp) (D : Ends), Inv X pins σ H s → t D σ H → wpAny (model X.prog X.w) X.A (execs st X.env) (SP X pins D) X.xe s
theorem thn {α : Type} {t : Sem α} {Q Q' : α → Shared → Prop} {M : Model} {A : Around} {E : Value → Shared → Prop} {s : Shared} (h : wpAny M A t Q E s) (hQ : ∀ a s, Q a s → Q' a s) : wpAny M A t Q' E s := wpAny_mono h hQ fun _ _ x => x
end L2

namespace L2
open PySem PySem.Spec PyProof.Rows
section
variable {X : Cx}

noncomputable def tVar (i : Nat) : TE := fun σ H Q => ∃ v, σ[i]? = some (some v) ∧ Q v H
noncomputable def tC (v : V) : TE := fun _ H Q => Q v H
theorem pe_var {i : Nat} {x : Str} {pos : Pos} (hN : X.N[i]? = some x) (hv : Vis X.env.scope x) (hd : (x == ("__debug__" : Str)) = false := by decide) (hcd : (x == ("__classdict__" : Str)) = false := by decide) : PE X (.Name x pos) (tVar i) := by
  intro pins s σ H Q I h
  obtain ⟨v, e, h⟩ := h
  obtain ⟨m, hn, hl⟩ := I.loc
  obtain ⟨u, r, l⟩ := hl i x v hN e hv
  have fin : EP X pins σ Q u s := ⟨v, H, I, r, h⟩
  rcases l with ⟨hk, hm⟩ | ⟨hk, c, hc, hcell⟩
  · exact wpAny_Name (wpAny_loadName_local I.ok.kind hk hn hm fin) hd
  · rcases hk with hk | hk
    · exact wpAny_Name (wpAny_loadName_cell I.ok.kind hk hc hcell fin) hd
    · exact wpAny_Name (wpAny_loadName_free I.ok.kind hk hc hcell fin hcd) hd
theorem pe_int {i j pos} : PE X (.Constant (.int i) j pos) (tC (.int i)) := fun _ _ _ H _ I h => wpAny_Constant_int ⟨.int i, H, I.tok _, ⟨_, rfl⟩, h⟩
theorem pe_bl {b j pos} : PE X (.Constant (.bool b) j pos) (tC (.bl b)) := fun _ _ _ H _ I h => Constant_bool ⟨.bl b, H, I, rfl, h⟩
theorem pe_non {j pos} : PE X (.Constant .none j pos) (tC .non) := fun _ _ _ H _ I h => Constant_none ⟨.non, H, I, rfl, h⟩
noncomputable def Gl (X : Cx) (x : Str) : Prop := X.env.kindOf x = some .globalImplicit
theorem ld_glob {E : Value → Shared → Prop} {pins : List (Addr × Obj)} {s : Shared} {σ : St} {H : Hp} {x : Str} {u : Value} {pos : Pos} {Q : Value → Shared → Prop} (I : Inv X pins σ H s) (hg : Gl X x) (hm : X.mg x = some u) (h : Q u s)
    (hd : (x == ("__debug__" : Str)) = false := by decide) : wpAny (model X.prog X.w) X.A (eval (.Name x pos) X.env) Q E s :=
  Calls.Name_function_global I.ok.kind hg (Calls.loadGlobal_global (by rw [I.ok.glob]; exact I.mod.glob.keeps I.bk) hm h) hd
theorem ld_blt {E : Value → Shared → Prop} {pins : List (Addr × Obj)} {s : Shared} {σ : St} {H : Hp} {x : Str} {u : Value} {pos : Pos} {Q : Value → Shared → Prop} (I : Inv X pins σ H s) (hg : Gl X x) (hm : X.mg x = none) (hv : bootBuiltins x = some u) (h : Q u s)
    (hn : x ≠ "__name__" := by decide) (hd : (x == ("__debug__" : Str)) = false := by decide) : wpAny (model X.prog X.w) X.A (eval (.Name x pos) X.env) Q E s := by
  obtain ⟨mb, h1, h2⟩ := I.mod.blt
  exact Calls.Name_function_global I.ok.kind hg (Calls.loadGlobal_builtin (by rw [I.ok.glob]; exact I.mod.glob.keeps I.bk) hm (by rw [I.ok.blt]; exact h1.keeps I.bk) ((h2 x hn).trans hv) h) hd
theorem pe_glob {x : Str} {v : V} {u : Value} {pos : Pos} (hg : Gl X x) (hm : X.mg x = some u) (r : RelV v u) (hd : (x == ("__debug__" : Str)) = false := by decide) : PE X (.Name x pos) (tC v) :=
  fun _ _ _ H _ I h => ld_glob I hg hm ⟨v, H, I, r, h⟩ hd
theorem pe_bltn {x : Str} {v : V} {u : Value} {pos : Pos} (hg : Gl X x) (hm : X.mg x = none) (hv : bootBuiltins x = some u) (r : RelV v u) (hn : x ≠ "__name__" := by decide) (hd : (x == ("__debug__" : Str)) = false := by decide) : PE X (.Name x pos) (tC v) :=
  fun _ _ _ H _ I h => ld_blt I hg hm hv ⟨v, H, I, r, h⟩ hn hd

variable {a b : Expr} {ta tb : TE} {pos : Pos}
theorem RelV.none_iff {x : V} {v : Value} (r : RelV x v) : (v == Value.none) = decide (x = .non) := by
  cases x with
  | non => cases r; rfl
  | bl _ => cases r; rfl
  | int _ => obtain ⟨t, rfl⟩ := r; rfl
  | str _ => obtain ⟨t, rfl⟩ := r; rfl
  | byt _ => obtain ⟨t, rfl⟩ := r; rfl
  | flt _ => obtain ⟨t, rfl⟩ := r; rfl
  | ref _ => cases r; rfl
  | ty _ => cases r; rfl
noncomputable def tB (t : TE) : TT := fun σ H Q => t σ H fun x H1 => ∃ c, x = .bl c ∧ Q c H1
theorem pt_val {e : Expr} {t : TE} (h : PE X e t) (he : ∀ whole, isTrue e X.env whole = (do let v ← whole; standAt e.pos; holding [v] (truthy v)) := by intro _; rfl) : PT X e (tB t) := by
  intro pins s σ H Q I hw
  refine isTrue_plain (thn (h pins s σ H _ I hw) fun v s1 ⟨x, H1, I1, r1, q1⟩ => ?_) (he _)
  obtain ⟨d, rfl, q⟩ := q1
  cases r1
  exact wpAny_truthy_bool ⟨H1, I1, q⟩

variable {tA tB' : TT} {rest : List Expr}
noncomputable def tOr (t u : TT) : TT := fun σ H Q => t σ H fun c H1 => if c = true then Q true H1 else u σ H1 Q
noncomputable def tNot (t : TT) : TT := fun σ H Q => t σ H fun c H1 => Q (!c) H1
theorem pw_or1 (ha : PT X a tA) : PW X (.BoolOp .Or [a] pos) tA := by
  intro wh pins s σ H Q I h
  refine isTrue_or (thn (ha pins s σ H Q I h) fun c s1 e => ?_)
  cases c with
  | false => exact isTrue_or_nil e
  | true => exact e
theorem pw_or (ha : PT X a tA) (hb : PW X (.BoolOp .Or (b :: rest) pos) tB') : PW X (.BoolOp .Or (a :: b :: rest) pos) (tOr tA tB') := by
  intro wh pins s σ H Q I h
  refine isTrue_or (thn (ha pins s σ H _ I h) fun c s1 zz => ?_)
  obtain ⟨H1, I1, q1⟩ := zz
  cases c with
  | true => exact ⟨H1, I1, q1⟩
  | false => exact hb wh pins s1 σ H1 Q I1 q1
theorem pt_not (ha : PT X a tA) : PT X (.UnaryOp .Not a pos) (tNot tA) := by
  intro pins s σ H Q I h
  exact isTrue_not (ha pins s σ H (fun c H1 => Q (!c) H1) I h)
noncomputable def tAndV (ta tb : TE) : TE := fun σ H Q => ta σ H fun x H1 => ∃ c, x = .bl c ∧ if c = true then tb σ H1 Q else Q (.bl false) H1
noncomputable def tNotV (ta : TE) : TE := fun σ H Q => ta σ H fun x H1 => ∃ c, x = .bl c ∧ Q (.bl (!c)) H1
theorem pe_one {op} {t : TE} (h : PE X a t) : PE X (.BoolOp op [a] pos) t := fun pins s σ H Q I hw => BoolOp_one (h pins s σ H Q I hw)
theorem pe_and (ha : PE X a ta) (hb : PE X (.BoolOp .And (b :: rest) pos) tb) : PE X (.BoolOp .And (a :: b :: rest) pos) (tAndV ta tb) := by
  intro pins s σ H Q I h
  refine BoolOp_and (thn (ha pins s σ H _ I h) fun v s1 zz => ?_)
  obtain ⟨x, H1, I1, r1, q1⟩ := zz
  obtain ⟨c, rfl, q1⟩ := q1
  cases r1
  refine wpAny_truthy_bool ?_
  cases c with
  | true => exact hb pins s1 σ H1 Q I1 q1
  | false => exact ⟨.bl false, H1, I1, rfl, q1⟩
theorem pe_not (ha : PE X a ta) : PE X (.UnaryOp .Not a pos) (tNotV ta) := by
  intro pins s σ H Q I h
  refine UnaryOp_ (thn (ha pins s σ H _ I h) fun v s1 zz => ?_)
  obtain ⟨x, H1, I1, r1, q1⟩ := zz
  obtain ⟨c, rfl, q1⟩ := q1
  cases r1
  exact not_of (wpAny_truthy_bool ⟨.bl (!c), H1, I1, rfl, q1⟩)
noncomputable def tIf (t : TT) (ta tb : TE) : TE := fun σ H Q => t σ H fun c H1 => if c = true then ta σ H1 Q else tb σ H1 Q
theorem pe_ifExp {c : Expr} (hc : PT X c tA) (ha : PE X a ta) (hb : PE X b tb) : PE X (.IfExp c a b pos) (tIf tA ta tb) := by
  intro pins s σ H Q I h
  refine wpAny_IfExp (thn (hc pins s σ H _ I h) fun d s1 zz => ?_)
  obtain ⟨H1, I1, q1⟩ := zz
  cases d with
  | true => exact ha pins s1 σ H1 Q I1 q1
  | false => exact hb pins s1 σ H1 Q I1 q1
end
end L2

namespace L2
open PySem PySem.Spec PyProof.Rows

noncomputable def SqL (K : PySem.W.Frag) (H : Hp) (a : Addr) (xs : List V) : Prop :=
  Rd H a (.lst xs) ∨
    ∃ (o : Obj) (its : Array Value) (n : Nat), K.lookup a = some o ∧ o.cls = .type "list" ∧ o.dict = none ∧ o.data = .seq its n ∧ its.size ≤ sizeLine ∧ Vals xs its.toList
noncomputable def SqT (K : PySem.W.Frag) (H : Hp) (a : Addr) (xs : List V) : Prop :=
  Rd H a (.tup xs) ∨
    ∃ (o : Obj) (its : Array Value) (n : Nat), K.lookup a = some o ∧ o.cls = .type "tuple" ∧ o.data = .seq its n ∧ its.size ≤ sizeLine ∧ Vals xs its.toList
noncomputable def absV : Value → Option V
  | .none => some .non
  | .bool b => some (.bl b)
  | .int i _ => some (.int i)
  | .str x _ => some (.str x)
  | .bytes b _ => some (.byt b)
  | .float b _ => some (.flt b)
  | .ref a => some (.ref a)
  | .type n => some (.ty n)
  | _ => none
theorem RelV.abs {x : V} {u : Value} (r : RelV x u) : absV u = some x := by
  cases x with
  | non => cases r; rfl
  | bl _ => cases r; rfl
  | int _ => obtain ⟨t, rfl⟩ := r; rfl
  | str _ => obtain ⟨t, rfl⟩ := r; rfl
  | byt _ => obtain ⟨t, rfl⟩ := r; rfl
  | flt _ => obtain ⟨t, rfl⟩ := r; rfl
  | ref _ => cases r; rfl
  | ty _ => cases r; rfl
theorem RelV.inj {x y : V} {u : Value} (r : RelV x u) (q : RelV y u) : x = y := Option.some.inj (r.abs.symm.trans q.abs)
theorem Vals.inj : ∀ {xs ys : List V} {us : List Value}, Vals xs us → Vals ys us → xs = ys
  | _, _, _, .nil, .nil => rfl
  | _, _, _, .cons r t, .cons r' t' => by rw [r.inj r', Vals.inj t t']
section
variable {X : Cx} {pins : List (Addr × Obj)} {σ : St} {H : Hp} {s : Shared} {a : Addr} {xs ys : List V}
theorem SqL.of {K : PySem.W.Frag} (h : H a = some (.lst xs)) : SqL K H a xs := .inl (.inl h)
theorem SqT.of {K : PySem.W.Frag} (h : H a = some (.tup xs)) : SqT K H a xs := .inl (.inl h)
theorem Inv.list (I : Inv X pins σ H s) (h : SqL X.K H a xs) : ∃ its : List Value, Vals xs its ∧ PlainL s.heap a its.toArray ∧ xs.length ≤ sizeLine := by
  rcases h with h | ⟨o, its, n, hk, hc, hd, hs, hz, r⟩
  · obtain ⟨z, its, n, r, e⟩ := h.ok I.hok
    exact ⟨its, r, ⟨_, n, e, rfl, rfl, rfl⟩, z⟩
  · refine ⟨its.toList, r, ⟨o, n, I.kIn a o hk, hc, hd, by simpa using hs⟩, ?_⟩
    have e := r.length
    simp only [Array.length_toList] at e
    omega
theorem Inv.tuple (I : Inv X pins σ H s) (h : SqT X.K H a xs) : ∃ its : List Value, Vals xs its ∧ IsTup s.heap a its.toArray ∧ xs.length ≤ sizeLine := by
  rcases h with h | ⟨o, its, n, hk, hc, hs, hz, r⟩
  · obtain ⟨z, its, r, p⟩ := h.ok I.hok
    exact ⟨its, r, p, z⟩
  · refine ⟨its.toList, r, ⟨o, I.kIn a o hk, hc, n, by simpa using hs⟩, ?_⟩
    have e := r.length
    simp only [Array.length_toList] at e
    omega
theorem Inv.list_inj (I : Inv X pins σ H s) (h : SqL X.K H a xs) (h' : SqL X.K H a ys) : xs = ys := by
  obtain ⟨its, r, ⟨o, n, e, _, _, d⟩, _⟩ := I.list h
  obtain ⟨its', r', ⟨o', n', e', _, _, d'⟩, _⟩ := I.list h'
  rw [e] at e'; cases e'
  rw [d] at d'
  injection d' with d1 _
  have : its = its' := by simpa using congrArg Array.toList d1
  subst this
  exact r.inj r'
theorem Inv.tuple_inj (I : Inv X pins σ H s) (h : SqT X.K H a xs) (h' : SqT X.K H a ys) : xs = ys := by
  obtain ⟨its, r, ⟨o, e, _, n, d⟩, _⟩ := I.tuple h
  obtain ⟨its', r', ⟨o', e', _, n', d'⟩, _⟩ := I.tuple h'
  rw [e] at e'; cases e'
  rw [d] at d'
  injection d' with d1 _
  have : its = its' := by simpa using congrArg Array.toList d1
  subst this
  exact r.inj r'
end

noncomputable abbrev Cx.wish (X : Cx) (E : Value → Shared → Prop) : Cx := { X with xe := E }
noncomputable abbrev Cx.nox (X : Cx) : Cx := X.wish fun _ _ => False
theorem Cx.Ok.wish {X : Cx} (ok : X.Ok) (E : Value → Shared → Prop) : (X.wish E).Ok :=
  ⟨ok.mod, ok.kind, ok.glob, ok.blt, ok.above, ok.inj, ok.has, ok.cab, ok.hd, ok.frames, ok.stk, ok.exf, ok.bs, ok.bsz, ok.noex, ok.exfs, ok.funs, ok.frf⟩
theorem Cx.Ok.unwish {X : Cx} {E : Value → Shared → Prop} (ok : (X.wish E).Ok) : X.Ok :=
  ⟨ok.mod, ok.kind, ok.glob, ok.blt, ok.above, ok.inj, ok.has, ok.cab, ok.hd, ok.frames, ok.stk, ok.exf, ok.bs, ok.bsz, ok.noex, ok.exfs, ok.funs, ok.frf⟩
section
variable {X : Cx} {pins : List (Addr × Obj)} {σ : St} {H : Hp} {s : Shared} {E : Value → Shared → Prop}
theorem Inv.wish (I : Inv X pins σ H s) (E : Value → Shared → Prop) : Inv (X.wish E) pins σ H s := ⟨I.ok.wish E, I.os, I.bare, I.base, I.loc, I.cell, I.free, I.freeC, I.pin, I.hok, I.len⟩
theorem Inv.unwish (I : Inv (X.wish E) pins σ H s) : Inv X pins σ H s := ⟨I.ok.unwish, I.os, I.bare, I.base, I.loc, I.cell, I.free, I.freeC, I.pin, I.hok, I.len⟩
theorem SP.unwish {D : Ends} {f : Flow} {s' : Shared} (h : SP (X.wish E) pins D f s') : SP X pins D f s' := by
  cases f with
  | next => obtain ⟨σ', H', I, q⟩ := h; exact ⟨σ', H', I.unwish, q⟩
  | brk => obtain ⟨σ', H', I, q⟩ := h; exact ⟨σ', H', I.unwish, q⟩
  | cont => obtain ⟨σ', H', I, q⟩ := h; exact ⟨σ', H', I.unwish, q⟩
  | ret u => obtain ⟨v, σ', H', I, r, q⟩ := h; exact ⟨v, σ', H', I.unwish, r, q⟩
theorem PE.nox {e : Expr} {t : TE} (h : PE X.nox e t) : PE X e t := fun pins s σ H Q I hw =>
  wpAny_mono (h pins s σ H Q (I.wish _) hw) (fun _ _ ⟨v, H', I', r, q⟩ => ⟨v, H', I'.unwish, r, q⟩) fun _ _ z => False.elim z
theorem PT.nox {e : Expr} {t : TT} (h : PT X.nox e t) : PT X e t := fun pins s σ H Q I hw =>
  wpAny_mono (h pins s σ H Q (I.wish _) hw) (fun _ _ ⟨H', I', q⟩ => ⟨H', I'.unwish, q⟩) fun _ _ z => False.elim z
theorem PSs.nox {st : List Stmt} {t : TS} (h : PSs X.nox st t) : PSs X st t := fun pins s σ H D I hw =>
  wpAny_mono (h pins s σ H D (I.wish _) hw) (fun _ _ q => q.unwish) fun _ _ z => False.elim z
end

section
variable {X : Cx} {st : Stmt} {rest : List Stmt} {t u : TS} {e : Expr} {te : TE} {pos : Pos}
noncomputable def tNext : TS := fun D σ H => D.nx σ H
noncomputable def tSeq (t u : TS) : TS := fun D σ H => t { D with nx := u D } σ H
theorem pss_nil : PSs X [] tNext := fun _ _ σ H _ I h => wpAny_execs_nil ⟨σ, H, I, h⟩
theorem pss_cons (h1 : PS X st t) (h2 : PSs X rest u) : PSs X (st :: rest) (tSeq t u) := by
  intro pins s σ H D I h
  refine wpAny_execs_cons (thn (h1 pins s σ H { D with nx := u D } I h) fun f s1 q => ?_)
  cases f with
  | next =>
    obtain ⟨σ', H', I', q⟩ := q
    exact h2 pins s1 σ' H' D I' q
  | ret v => exact q
  | brk => exact q
  | cont => exact q
theorem pss_one (h1 : PS X st t) : PSs X [st] t := by
  intro pins s σ H D I h
  refine wpAny_execs_cons (thn (h1 pins s σ H D I h) fun f s1 q => ?_)
  cases f with
  | next => exact wpAny_execs_nil q
  | ret v => exact q
  | brk => exact q
  | cont => exact q
theorem Inv.quiet {pins : List (Addr × Obj)} {σ : St} {H : Hp} {s : Shared} (I : Inv X pins σ H s) : interactive X.env = false := by simp [interactive, I.ok.kind]
noncomputable def tDrop (te : TE) : TS := fun D σ H => te σ H fun _ H1 => D.nx σ H1
theorem ps_expr (he : PE X e te) (hs : swapsWith e none pos.line X.env = pure false := by rfl) : PS X (.Expr e pos) (tDrop te) := by
  intro pins s σ H D I h
  exact wpAny_Expr_any (thn (he pins s σ H _ I h) fun v s1 ⟨x, H1, I1, r1, q1⟩ => ⟨σ, H1, I1, q1⟩) I.quiet hs
noncomputable def tRet (te : TE) : TS := fun D σ H => te σ H D.rt
theorem ps_ret (he : PE X e te) : PS X (.Return (some e) pos) (tRet te) := by
  intro pins s σ H D I h
  exact wpAny_Return_some (thn (he pins s σ H _ I h) fun v s1 ⟨x, H1, I1, r1, q1⟩ => ⟨x, σ, H1, I1, r1, q1⟩)
noncomputable def tIfS (c : TT) (t u : TS) : TS := fun D σ H => c σ H fun b H1 => if b = true then t D σ H1 else u D σ H1
theorem ps_if {c : Expr} {a b : List Stmt} {tc : TT} (hc : PT X c tc) (ha : PSs X a t) (hb : PSs X b u) : PS X (.If c a b pos) (tIfS tc t u) := by
  intro pins s σ H D I h
  refine wpAny_If (thn (hc pins s σ H _ I h) fun d s1 zz => ?_)
  obtain ⟨H1, I1, q1⟩ := zz
  cases d with
  | true => exact ha pins s1 σ H1 D I1 q1
  | false => exact hb pins s1 σ H1 D I1 q1
noncomputable def tNever : TS := fun _ _ _ => False
theorem ps_never : PS X st tNever := fun _ _ _ _ _ _ h => h.elim
theorem pss_never {sts : List Stmt} : PSs X sts tNever := fun _ _ _ _ _ _ h => h.elim
end

noncomputable abbrev TG := V → St → Hp → (St → Hp → Prop) → Prop
noncomputable abbrev TGs := List V → St → Hp → (St → Hp → Prop) → Prop
noncomputable def PG (X : Cx) (target : Expr) (t : TG) : Prop :=
  ∀ (pins : List (Addr × Obj)) (s : Shared) (σ : St) (H : Hp) (v : V) (u : Value) (Q : St → Hp → Prop), Inv X pins σ H s → RelV v u → t v σ H Q →
    wpAny (model X.prog X.w) X.A (assign target X.env u) (fun _ s' => ∃ σ' H', Inv X pins σ' H' s' ∧ Q σ' H') X.xe s
noncomputable def PGs (X : Cx) (ts : List Expr) (t : TGs) : Prop :=
  ∀ (pins : List (Addr × Obj)) (s : Shared) (σ : St) (H : Hp) (vs : List V) (us : List Value) (Q : St → Hp → Prop), Inv X pins σ H s → Vals vs us → t vs σ H Q →
    wpAny (model X.prog X.w) X.A (assignInOrder ((assignEach ts X.env).map (·.2)) us) (fun _ s' => ∃ σ' H', Inv X pins σ' H' s' ∧ Q σ' H') X.xe s
noncomputable abbrev TSet := V → V → V → Hp → (Hp → Prop) → Prop
noncomputable def PSet (X : Cx) (t : TSet) : Prop :=
  ∀ (pins : List (Addr × Obj)) (s : Shared) (σ : St) (H : Hp) (o i v : V) (ov iv u : Value) (Q : Hp → Prop), Inv X pins σ H s → RelV o ov → RelV i iv → RelV v u → t o i v H Q →
    wpAny (model X.prog X.w) X.A (setItem ov iv u) (fun _ s' => ∃ H', Inv X pins σ H' s' ∧ Q H') X.xe s
section
variable {X : Cx} {pos : Pos}
noncomputable def gName (i : Nat) : TG := fun v σ H Q => Q (σ.set i (some v)) H
theorem pg_name {i : Nat} {x : Str} (hN : X.N.Nodup) (hi : X.N[i]? = some x) (hx : Loc X.env.scope x) (hf : X.fn x = true ∨ X.env.scope.names.lookup x = some .local := by first | exact .inl rfl | exact .inr rfl | assumption) : PG X (.Name x pos) (gName i) := by
  intro pins s σ H v u Q I r h
  exact wpAny_assign_Name (store_ok I hN hi hx r (fun s' I' => ⟨_, H, I', h⟩) hf)
noncomputable def gNil : TGs := fun vs σ H Q => vs = [] ∧ Q σ H
noncomputable def gCons (t : TG) (u : TGs) : TGs := fun vs σ H Q => ∃ v r, vs = v :: r ∧ t v σ H fun σ' H' => u r σ' H' Q
theorem pgs_nil : PGs X [] gNil := by
  intro pins s σ H vs us Q I r h
  obtain ⟨e, h⟩ := h
  subst e
  cases r
  exact assignInOrder_nil ⟨σ, H, I, h⟩
theorem pgs_cons {e : Expr} {es : List Expr} {t : TG} {u : TGs} (h1 : PG X e t) (h2 : PGs X es u)
    (hs : (assignEach (e :: es) X.env).map (·.2) = assign e X.env :: (assignEach es X.env).map (·.2) := by rfl) : PGs X (e :: es) (gCons t u) := by
  intro pins s σ H vs us Q I r h
  obtain ⟨v, vr, e1, h⟩ := h
  subst e1
  cases r with
  | cons r rr =>
    rw [hs]
    refine assignInOrder_cons (thn (h1 pins s σ H _ _ _ I r h) fun _ s1 zz => ?_)
    obtain ⟨σ1, H1, I1, q1⟩ := zz
    exact h2 pins s1 σ1 H1 _ _ Q I1 rr q1
noncomputable def gTup (K : PySem.W.Frag) (n : Nat) (t : TGs) : TG := fun v σ H Q => ∃ a xs, v = .ref a ∧ SqT K H a xs ∧ xs.length = n ∧ t xs σ H Q
theorem pg_tup {es : List Expr} {k : Nat} {t : TGs} {n : Nat} (hc : X.calm = true) (h : PGs X es t)
    (hn : (assignEach es X.env).length = n := by rfl) (hst : (assignEach es X.env).findIdx? (·.1) = none := by rfl) : PG X (.Tuple es k pos) (gTup X.K n t) := by
  intro pins s σ H v u Q I r hw
  obtain ⟨a, xs, e1, hq, hl, hw⟩ := hw
  subst e1
  cases r
  obtain ⟨its, rv, ht, hz⟩ := I.tuple hq
  refine assign_Tuple_tuple (I.ok.hd hc) ht (by simp [hn, ← hl, rv.length]) hst fun h' hx => ?_
  have I1 : Inv X pins σ H { s with heap := h' } := I.kept (t' := s.toks) fun b o e => hx b o (Nat.ne_of_lt (Heap.lt_size e)) e
  exact h pins _ σ H xs _ Q I1 (by simpa using rv) hw
noncomputable def gSub (to ti : TE) (t : TSet) : TG := fun v σ H Q => to σ H fun o H1 => ti σ H1 fun i H2 => t o i v H2 fun H3 => Q σ H3
theorem pg_sub {o i : Expr} {to ti : TE} {t : TSet} (ho : PE X o to) (hi : PE X i ti) (hs : PSet X t)
    (ha : ∀ v, assign (.Subscript o i pos) X.env v = (do
      let ov ← holding [v] (eval o X.env)
      let iv ← holding [v, ov] (eval i X.env)
      standAt pos
      holding [v, ov, iv] (setItem ov iv v)
      release [v, ov, iv] []) := by intro _; rfl) : PG X (.Subscript o i pos) (gSub to ti t) := by
  intro pins s σ H v u Q I r h
  rw [ha]
  refine wpAny_bind (wpAny_holding (thn (ho pins s σ H _ I h) fun ov s1 zz => ?_))
  obtain ⟨x, H1, I1, r1, q1⟩ := zz
  refine wpAny_bind (wpAny_holding (thn (hi pins s1 σ H1 _ I1 q1) fun iv s2 zz => ?_))
  obtain ⟨y, H2, I2, r2, q2⟩ := zz
  refine wpAny_bind (wpAny_standAt (wpAny_bind (wpAny_holding (thn (hs pins s2 σ H2 x y v ov iv u _ I2 r1 r2 r q2) fun _ s3 zz => ?_))))
  obtain ⟨H3, I3, q3⟩ := zz
  exact wpAny_release ⟨σ, H3, I3, q3⟩
noncomputable def tAsg (te : TE) (g : TG) : TS := fun D σ H => te σ H fun x H1 => g x σ H1 D.nx
theorem ps_asg {tg e : Expr} {te : TE} {g : TG} (he : PE X e te) (hg : PG X tg g) (hs : swapsWithSole [tg] e pos.line X.env = pure false := by rfl) (hw : swappedStores [tg] e X.env = pure none := by rfl)
    (h1 : (assignEach [tg] X.env).map (·.2) = [assign tg X.env] := by rfl) : PS X (.Assign [tg] e pos) (tAsg te g) := by
  intro pins s σ H D I h
  refine wpAny_Assign_stores (thn (he pins s σ H _ I h) fun v s1 ⟨x, H1, I1, r1, q1⟩ => ?_) hs hw
  rw [h1]
  exact thn (hg pins s1 σ H1 x v _ I1 r1 q1) fun _ s2 q => q
theorem ps_set {i : Nat} {x : Str} {e : Expr} {te : TE} {pos' : Pos} (hN : X.N.Nodup) (hi : X.N[i]? = some x) (hx : Loc X.env.scope x) (he : PE X e te) (hs : swapsWith e (some (.Name x pos')) pos.line X.env = pure false := by rfl) (hf : X.fn x = true ∨ X.env.scope.names.lookup x = some .local := by first | exact .inl rfl | exact .inr rfl | assumption) :
    PS X (.Assign [.Name x pos'] e pos) (tAsg te (gName i)) := by
  intro pins s σ H D I h
  refine wpAny_Assign_Name (thn (he pins s σ H _ I h) fun v s1 ⟨y, H1, I1, r1, q1⟩ => ?_) hs
  exact store_ok I1 hN hi hx r1 (fun s2 I2 => ⟨_, H1, I2, q1⟩) hf
noncomputable def tPar (i j : Nat) (ta : TA) : TS := fun D σ H => ta σ H fun vs H1 => ∃ v w, vs = [v, w] ∧ D.nx ((σ.set i (some v)).set j (some w)) H1
theorem ps_par {i j : Nat} {x y : Str} {a b : Expr} {ta : TA} {px py pt : Pos} {kt k2 pt2} (hc : X.calm = true) (hN : X.N.Nodup) (hi : X.N[i]? = some x) (hj : X.N[j]? = some y) (hij : i ≠ j)
    (hx : X.env.scope.names.lookup x = some .local) (hy : X.env.scope.names.lookup y = some .local) (ha : PA X [a, b] ta)
    (hw : swappedStores [.Tuple [.Name x px, .Name y py] kt pt] (.Tuple [a, b] k2 pt2) X.env = pure (some [x, y]))
    (hs : swapsWithSole [.Tuple [.Name x px, .Name y py] kt pt] (.Tuple [a, b] k2 pt2) pos.line X.env = pure false := by rfl) :
    PS X (.Assign [.Tuple [.Name x px, .Name y py] kt pt] (.Tuple [a, b] k2 pt2) pos) (tPar i j ta) := by
  intro pins s σ H D I h
  rw [exec_Assign_arm]
  refine wpAny_bind (wpAny_standAt ?_)
  rw [hs]
  refine wpAny_bind (wpAny_pure ?_)
  rw [if_neg (by decide)]
  refine wpAny_bind (Tuple_ (thn (ha _ pins s σ H _ I h) fun us s1 zz => ?_))
  obtain ⟨vs, H1, I1, r1, q1⟩ := zz
  obtain ⟨v, w, e1, q1⟩ := q1
  subst e1
  obtain ⟨u1, u2, rfl, rv, rw'⟩ : ∃ u1 u2, us = [u1, u2] ∧ RelV v u1 ∧ RelV w u2 := by
    cases r1 with
    | cons p q =>
      cases q with
      | cons p' q' =>
        cases q'
        exact ⟨_, _, rfl, p, p'⟩
  refine wpAny_newObj_type ?_ (by show 2 ≤ sizeLine; decide)
  have I2 : Inv X pins σ H1 { s1 with heap := s1.heap.push { cls := .type "tuple", data := .seq [u1, u2].toArray } } := I1.kept (t' := s1.toks) fun b o e => Heap.get?_push_of_some _ e
  rw [hw]
  refine wpAny_bind (wpAny_pure ?_)
  show wpAny (model X.prog X.w) X.A (do rule "assign.swapped-stores"; let items ← unpackItems (.ref s1.heap.objs.size) 2 none; assignInOrder [fun v => bindName X.env y v, fun v => bindName X.env x v] items.reverse; pure Flow.next) _ _ _
  refine wpAny_bind (wpAny_rule (wpAny_bind (unpackItems_tuple (items := #[u1, u2]) (I.ok.hd hc) (IsTup.new s1.heap _) fun h' hx' => ?_)))
  have I3 := I2.kept (h' := h') (t' := s1.toks) fun b o e => hx' b o (Nat.ne_of_lt (Heap.lt_size e)) e
  show wpAny _ _ (assignInOrder [fun v => bindName X.env y v, fun v => bindName X.env x v] [u2, u1] >>= fun _ => pure Flow.next) _ _ _
  refine wpAny_bind (assignInOrder_cons (wpAny_bindName (store_ok I3 hN hj (.inl hy) rw' (fun s2 I4 => ?_) (.inr hy))))
  refine assignInOrder_cons (wpAny_bindName (store_ok I4 hN hi (.inl hx) rv (fun s3 I5 => assignInOrder_nil (wpAny_pure ?_)) (.inr hx)))
  rw [List.set_comm _ _ (Ne.symm hij)] at I5
  exact ⟨_, H1, I5, q1⟩
end

section
variable {X : Cx} {pos : Pos}
noncomputable def tWhile (c : TT) (tb : TS) : TS := fun D σ H => ∃ W : Nat → St → Hp → Prop, (∃ m, W m σ H) ∧ ∀ m σ H, W m σ H →
  c σ H fun b H1 => if b = true then ∃ N : St → Hp → Prop, (∀ σ' H', N σ' H' → ∃ m', m' < m ∧ W m' σ' H') ∧ tb { D with nx := N, ct := N, bk := D.nx } σ H1 else D.nx σ H1
theorem ps_while {c : Expr} {body : List Stmt} {tc : TT} {tb : TS} (hp : PassesOwn (model X.prog X.w) X.A X.env X.xe) (hc : PT X c tc) (hb : PSs X body tb) : PS X (.While c body [] pos) (tWhile tc tb) := by
  intro pins s σ H D I h
  obtain ⟨W, ⟨m0, w0⟩, turn⟩ := h
  refine wpAny_While (codeAny_whileLoop (fun n s' => ∃ σ' H', Inv X pins σ' H' s' ∧ W n σ' H') ?_ m0 ⟨σ, H, I, w0⟩)
  rintro n s1 ⟨σ1, H1, I1, w1⟩
  refine wpAny_passesOwn hp (thn (hc pins s1 σ1 H1 _ I1 (turn n σ1 H1 w1)) fun b s2 zz => ?_)
  obtain ⟨H2, I2, q2⟩ := zz
  cases b with
  | true =>
    obtain ⟨N, hN, q2⟩ := q2
    rw [if_pos rfl]
    refine wpAny_passesOwn hp (thn (hb pins s2 σ1 H2 _ I2 q2) fun f s3 q3 => ?_)
    cases f with
    | next =>
      obtain ⟨σ3, H3, I3, n3⟩ := q3
      obtain ⟨m', hm, w3⟩ := hN σ3 H3 n3
      exact ⟨m', hm, σ3, H3, I3, w3⟩
    | cont =>
      obtain ⟨σ3, H3, I3, n3⟩ := q3
      obtain ⟨m', hm, w3⟩ := hN σ3 H3 n3
      exact ⟨m', hm, σ3, H3, I3, w3⟩
    | brk => exact q3
    | ret v => exact q3
  | false =>
    rw [if_neg Bool.false_ne_true]
    exact wpAny_execs_nil ⟨σ1, H2, I2, q2⟩
end

structure It where
  go : Nat → Hp → Prop
  yld : Nat → Hp → V → Hp → Prop
  stop : Nat → Hp → Prop
noncomputable def FpOk (X : Cx) (pins : List (Addr × Obj)) (H : Hp) (b : Addr) : Prop :=
  H b = none ∧ b ≠ X.env.locals ∧ b ∉ X.fs ∧ (b ∈ X.ex ∨ X.s₀.heap.objs.size ≤ b) ∧ (∀ x c, X.env.cells.lookup x = some c → c ≠ b) ∧ ∀ p ∈ X.pn ++ pins, p.1 ≠ b
theorem Inv.fpOk {X : Cx} {pins : List (Addr × Obj)} {σ : St} {H H' : Hp} {s : Shared} {b : Addr} (I : Inv X pins σ H s) (hb : s.heap.objs.size ≤ b) (hn : H' b = none) : FpOk X pins H' b := by
  refine ⟨hn, Nat.ne_of_gt (Nat.lt_of_lt_of_le I.lt hb), I.nofs hb, .inr (Nat.le_trans I.sz hb), fun x c e z => ?_, fun p hp z => ?_⟩
  · obtain ⟨v, q⟩ := I.cell x c e
    exact absurd (Nat.lt_of_lt_of_le q.lt (by rw [z]; exact hb)) (Nat.lt_irrefl _)
  · exact absurd (Nat.lt_of_lt_of_le (Heap.lt_size (I.pin p hp).1) (by rw [z]; exact hb)) (Nat.lt_irrefl _)
structure Turn (P : Program) (w : World) (K : PySem.W.Frag) (tg : Expr) (J : It) (fp : List Addr) (it : Addr) (tn : Nat → Heap → Prop) : Prop where
  mem : it ∈ fp
  obj : ∀ i h, tn i h → ∀ b ∈ fp, ∃ o, h.get? b = some o ∧ ∀ v, o.data ≠ .cell v
  keep : ∀ i h h', tn i h → (∀ b ∈ fp, ∀ o, h.get? b = some o → h'.get? b = some o) → tn i h'
  item : ∀ (X : Cx), X.prog = P → X.w = w → X.K = K → X.calm = true → ∀ (i : Nat) (pins : List (Addr × Obj)) (s : Shared) (σ : St) (H : Hp) (E : Value → Shared → Prop), Inv X pins σ H s → (∀ b ∈ fp, FpOk X pins H b) → tn i s.heap → J.go i H →
    wpAny (model P w) X.A (pyNext (.ref it)) (fun r s1 => ∃ u, r = some u ∧
      wpAny (model P w) X.A (letOwnedTupleGo tg (.ref it) u) (fun _ s2 => ∃ x H', Inv X pins σ H' s2 ∧ RelV x u ∧ J.yld i H x H' ∧ tn (i + 1) s2.heap ∧ ∀ b ∈ fp, H' b = none) E s1) E s
  done : ∀ (X : Cx), X.prog = P → X.w = w → X.K = K → X.calm = true → ∀ (i : Nat) (pins : List (Addr × Obj)) (s : Shared) (σ : St) (H : Hp) (E : Value → Shared → Prop), Inv X pins σ H s → (∀ b ∈ fp, FpOk X pins H b) → tn i s.heap → J.stop i H →
    wpAny (model P w) X.A (pyNext (.ref it)) (fun r s1 => r = none ∧ Inv X pins σ H s1) E s
  self : ∀ (A : Around) (i : Nat) (s : Shared) (Q : Value → Shared → Prop) (E : Value → Shared → Prop), tn i s.heap → Q (.ref it) s → wpAny (model P w) A (pyIter (.ref it)) Q E s
noncomputable abbrev TI := St → Hp → (It → Hp → Prop) → Prop
noncomputable def PIE (X : Cx) (pins : List (Addr × Obj)) (σ : St) (tg : Expr) (R : It → Hp → Prop) (itv : Value) (s2 : Shared) : Prop :=
  ∃ (it : Addr) (fp : List Addr) (tn : Nat → Heap → Prop) (J : It) (H' : Hp), itv = .ref it ∧ Inv X pins σ H' s2 ∧ Turn X.prog X.w X.K tg J fp it tn ∧ tn 0 s2.heap ∧ (∀ b ∈ fp, FpOk X pins H' b) ∧ R J H'
noncomputable def PI (X : Cx) (tg iter : Expr) (wi : TI) : Prop :=
  ∀ (pins : List (Addr × Obj)) (s : Shared) (σ : St) (H : Hp) (R : It → Hp → Prop), Inv X pins σ H s → wi σ H R →
    wpAny (model X.prog X.w) X.A (eval iter X.env) (fun v s1 => wpAny (model X.prog X.w) X.A (pyIter v) (PIE X pins σ tg R) X.xe s1) X.xe s

theorem go_of {M : Model} {A : Around} {E : Value → Shared → Prop} {s : Shared} {tg : Expr} {it : Addr} {u : Value} {o : Obj} {n : String} {vs : Array Value} {Q : Unit → Shared → Prop} (ho : s.heap.get? it = some o) (hc : o.cls = .type n) (hd : o.data = .fields vs)
    (hn : ["enumerate", "zip", "dict_itemiterator", "dict_reverseitemiterator", "odict_iterator", "itertools.zip_longest", "itertools.pairwise"].contains n = false) (hQ : Q () s) : wpAny M A (letOwnedTupleGo tg (.ref it) u) Q E s := by
  unfold letOwnedTupleGo
  cases tg <;> first
    | exact wpAny_pure hQ
    | (cases u <;> first
        | exact wpAny_pure hQ
        | (refine wpAny_bind (wpAny_load ho ?_)
           rw [hc, hd]
           show wpAny M A (if (["enumerate", "zip", "dict_itemiterator", "dict_reverseitemiterator", "odict_iterator", "itertools.zip_longest", "itertools.pairwise"].contains n && vs[0]? == some (rawInt _)) = true then _ else _) Q E s
           rw [if_neg (by intro h; rw [hn, Bool.false_and] at h; cases h)]
           exact wpAny_pure hQ))

noncomputable def Itl (K : PySem.W.Frag) (a : Addr) : It :=
  ⟨fun i H => ∃ xs x, SqL K H a xs ∧ xs[i]? = some x, fun i H x H' => H' = H ∧ ∀ xs, SqL K H a xs → xs[i]? = some x, fun i H => ∃ xs, SqL K H a xs ∧ xs.length ≤ i⟩
noncomputable def Itt (K : PySem.W.Frag) (a : Addr) : It :=
  ⟨fun i H => ∃ xs x, SqT K H a xs ∧ xs[i]? = some x, fun i H x H' => H' = H ∧ ∀ xs, SqT K H a xs → xs[i]? = some x, fun i H => ∃ xs, SqT K H a xs ∧ xs.length ≤ i⟩
noncomputable def Itr (lo : Int) (n : Nat) : It := ⟨fun i _ => i < n, fun i H x H' => H' = H ∧ x = .int (lo + i), fun i _ => n ≤ i⟩
theorem turn_list {P : Program} {w : World} {K : PySem.W.Frag} {tg : Expr} (a it : Addr) : Turn P w K tg (Itl K a) [it] it (fun i h => h.IsListIter it a i) where
  mem := by simp
  obj := fun i h st b hb => by
    have e : b = it := by simpa using hb
    subst e
    obtain ⟨o, e, c, d⟩ := st
    exact ⟨o, e, fun v z => by rw [d] at z; cases z⟩
  keep := fun i h h' st k => st.at fun o e => k it (by simp) o e
  item := by
    intro X hP hw hK hc i pins s σ H E I hf st hg
    subst hP hw hK
    obtain ⟨xs, x, hq, hx⟩ := hg
    obtain ⟨its, rv, p, hz⟩ := I.list hq
    obtain ⟨u, hu, ru⟩ := rv.get hx
    obtain ⟨f0, f1, f2, f3, f4, f5⟩ := hf it (by simp)
    refine wpAny_pyNext_list_item st p.isList (x := u) (by simpa using hu) fun h' st' sb => ?_
    have I1 : Inv X pins σ H { s with heap := h' } := I.turned (t' := s.toks) (fun b o hb e => (sb.2 b hb).trans e) f0 f1 f3 f4 f5
    obtain ⟨o, e, c, d⟩ := id st'
    exact ⟨u, rfl, go_of (s := { s with heap := h' }) e c d (by decide) ⟨x, H, I1, ru, ⟨rfl, fun ys hy => by rw [I.list_inj hy hq]; exact hx⟩, st', fun b hb => (hf b hb).1⟩⟩
  done := by
    intro X hP hw hK hc i pins s σ H E I hf st hg
    subst hP hw hK
    obtain ⟨xs, hq, hx⟩ := hg
    obtain ⟨its, rv, p, hz⟩ := I.list hq
    obtain ⟨f0, f1, f2, f3, f4, f5⟩ := hf it (by simp)
    have hl := rv.length
    exact wpAny_pyNext_list_end (I.ok.hd hc) st p.isList (by simp; omega) fun h' eb => ⟨rfl, I.turned (t' := s.toks) (fun b o hb e => eb b o hb e) f0 f1 f3 f4 f5⟩
  self := fun _ _ _ _ _ st h => wpAny_pyIter_listiter st h
theorem turn_tuple {P : Program} {w : World} {K : PySem.W.Frag} {tg : Expr} (a it : Addr) : Turn P w K tg (Itt K a) [it] it (fun i h => h.IsTupleIter it a i) where
  mem := by simp
  obj := fun i h st b hb => by
    have e : b = it := by simpa using hb
    subst e
    obtain ⟨o, e, c, d⟩ := st
    exact ⟨o, e, fun v z => by rw [d] at z; cases z⟩
  keep := fun i h h' st k => st.at fun o e => k it (by simp) o e
  item := by
    intro X hP hw hK hc i pins s σ H E I hf st hg
    subst hP hw hK
    obtain ⟨xs, x, hq, hx⟩ := hg
    obtain ⟨its, rv, p, hz⟩ := I.tuple hq
    obtain ⟨u, hu, ru⟩ := rv.get hx
    obtain ⟨f0, f1, f2, f3, f4, f5⟩ := hf it (by simp)
    refine wpAny_pyNext_tuple_item st (show s.heap.IsTuple a its.toArray from p) (x := u) (by simpa using hu) fun h' st' sb => ?_
    have I1 : Inv X pins σ H { s with heap := h' } := I.turned (t' := s.toks) (fun b o hb e => (sb.2 b hb).trans e) f0 f1 f3 f4 f5
    obtain ⟨o, e, c, d⟩ := id st'
    exact ⟨u, rfl, go_of (s := { s with heap := h' }) e c d (by decide) ⟨x, H, I1, ru, ⟨rfl, fun ys hy => by rw [I.tuple_inj hy hq]; exact hx⟩, st', fun b hb => (hf b hb).1⟩⟩
  done := by
    intro X hP hw hK hc i pins s σ H E I hf st hg
    subst hP hw hK
    obtain ⟨xs, hq, hx⟩ := hg
    obtain ⟨its, rv, p, hz⟩ := I.tuple hq
    obtain ⟨f0, f1, f2, f3, f4, f5⟩ := hf it (by simp)
    have hl := rv.length
    exact wpAny_pyNext_tuple_end (I.ok.hd hc) st (show s.heap.IsTuple a its.toArray from p) (by simp; omega) fun h' eb => ⟨rfl, I.turned (t' := s.toks) (fun b o hb e => eb b o hb e) f0 f1 f3 f4 f5⟩
  self := fun _ _ _ _ _ st h => wpAny_pyIter_tupleiter st h
theorem turn_range {P : Program} {w : World} {K : PySem.W.Frag} {tg : Expr} (it : Addr) (lo : Int) (n : Nat) : Turn P w K tg (Itr lo n) [it] it (fun i h => IsRangeIter h it (lo + (i : Nat) * 1) ((n : Int) - (i : Nat)) 1) where
  mem := by simp
  obj := fun i h st b hb => by
    have e : b = it := by simpa using hb
    subst e
    exact ⟨_, st, fun v z => by
      have z' : Data.fields _ = Data.cell v := z
      cases z'⟩
  keep := fun i h h' st k => k it (by simp) _ st
  item := by
    intro X hP hw hK hc i pins s σ H E I hf st hg
    subst hP hw hK
    obtain ⟨f0, f1, f2, f3, f4, f5⟩ := hf it (by simp)
    have W := Walks.range (prog := X.prog) (w := X.w) (I.ok.hd hc) it lo 1 n
    refine W.item i s _ _ hg st fun v h' tk hv st' kk => ?_
    obtain ⟨t, rfl⟩ := hv
    have I1 : Inv X pins σ H { s with heap := h', toks := tk } := I.turned (fun b o hb e => kk b o (by simpa using hb) e) f0 f1 f3 f4 f5
    refine ⟨_, rfl, go_of (s := { s with heap := h', toks := tk }) (n := "range_iterator") st' rfl rfl (by decide) ⟨.int (lo + i), H, I1, ⟨t, ?_⟩, ⟨rfl, rfl⟩, st', fun b hb => (hf b hb).1⟩⟩
    rw [Int.mul_one]
  done := by
    intro X hP hw hK hc i pins s σ H E I hf st hg
    subst hP hw hK
    obtain ⟨f0, f1, f2, f3, f4, f5⟩ := hf it (by simp)
    exact wpAny_pyNext_range_end (I.ok.hd hc) st (by have : n ≤ i := hg; omega) fun h' eb => ⟨rfl, I.turned (t' := s.toks) (fun b o hb e => eb b o hb e) f0 f1 f3 f4 f5⟩
  self := fun _ _ _ _ _ st h => wpAny_pyIter_rangeiter st h
end L2

namespace L2
open PySem PySem.Spec PyProof.Rows
section
variable {X : Cx} {tg : Expr}
theorem range_it {pins : List (Addr × Obj)} {σ : St} {H : Hp} {s : Shared} {R : It → Hp → Prop} {E : Value → Shared → Prop} {lo hi : Int} {t u v : Tok} {tk : Nat} (I : Inv X pins σ H s) (h1 : -(2 ^ 62) ≤ lo) (h2 : lo < 2 ^ 62) (h3 : -(2 ^ 62) ≤ hi) (h4 : hi < 2 ^ 62)
    (q : R (Itr lo (hi - lo).toNat) H) : wpAny (model X.prog X.w) X.A (pyIter (.ref s.heap.objs.size)) (PIE X pins σ tg R) E { s with heap := s.heap.push { cls := .type "range", data := .fields #[.int lo t, .int hi u, .int 1 v] }, toks := tk } := by
  refine wpAny_pyIter_range (IsRange.new ..) (small_one h1 h2 h3 h4) ?_
  have I1 : Inv X pins σ H { s with heap := s.heap.push { cls := .type "range", data := .fields #[.int lo t, .int hi u, .int 1 v] }, toks := tk } := I.kept fun b o e => Heap.get?_push_of_some _ e
  refine ⟨(s.heap.push { cls := .type "range", data := .fields #[.int lo t, .int hi u, .int 1 v] }).objs.size, [(s.heap.push { cls := .type "range", data := .fields #[.int lo t, .int hi u, .int 1 v] }).objs.size], _, _, H, rfl,
    I1.kept (t' := tk) fun b o e => Heap.get?_push_of_some _ e, turn_range _ lo (hi - lo).toNat, ?_, fun b hb => ?_, q⟩
  · have e1 : lo + ((0 : Nat) : Int) * 1 = lo := by simp
    have e2 : (((hi - lo).toNat : Nat) : Int) - ((0 : Nat) : Int) = Builtin.Range.rangeSize lo hi 1 := by rw [rangeSize_one]; split <;> omega
    show IsRangeIter _ _ (lo + ((0 : Nat) : Int) * 1) ((((hi - lo).toNat : Nat) : Int) - ((0 : Nat) : Int)) 1
    rw [e1, e2]
    exact Heap.get?_push_size _ rfl
  · have e : b = (s.heap.push { cls := .type "range", data := .fields #[.int lo t, .int hi u, .int 1 v] }).objs.size := by simpa using hb
    subst e
    exact I1.fpOk (Nat.le_refl _) (I1.hok.fresh (Nat.le_refl _))
noncomputable def iRng1 (ta : TA) : TI := fun σ H R => ta σ H fun vs H1 => ∃ j : Int, vs = [.int j] ∧ -(2 ^ 62) ≤ j ∧ j < 2 ^ 62 ∧ R (Itr 0 j.toNat) H1
theorem pi_range1 {a : Expr} {ta : TA} {p pos : Pos} (hg : Gl X "range") (hm : X.mg "range" = none) (ha : PA X [a] ta) (hs : starEach [a] X.env = [(false, eval a X.env)] := by rfl) : PI X tg (.Call (.Name "range" p) [a] [] pos) (iRng1 ta) := by
  intro pins s σ H R I h
  refine Call_ (ld_blt I hg hm boot_range (PyProof.Rows.callWith_type1 (thn (ha pos pins s σ H _ I h) fun us s1 ⟨vs, H1, I1, r1, q1⟩ => ?_) hs rfl))
  obtain ⟨j, e, q1, q2, q⟩ := q1
  subst e
  cases r1 with
  | cons r rr =>
    cases rr
    obtain ⟨t, rfl⟩ := r
    exact call_range_1 (range_it I1 (by omega) (by omega) q1 q2 (by simpa using q))
noncomputable def tFor (wi : TI) (g : TG) (tb : TS) : TS := fun D σ H => wi σ H fun J H1 => ∃ W : Nat → Nat → St → Hp → Prop, (∃ m, W 0 m σ H1) ∧ ∀ i m σ H, W i m σ H →
  (J.stop i H ∧ D.nx σ H) ∨ (J.go i H ∧ ∃ N : St → Hp → Prop, (∀ σ' H', N σ' H' → ∃ m', m' < m ∧ W (i + 1) m' σ' H') ∧ ∀ x H', J.yld i H x H' → g x σ H' fun σ2 H2 => tb { D with nx := N, ct := N, bk := D.nx } σ2 H2)
noncomputable def pinsAt (fp : List Addr) (h : Heap) : List (Addr × Obj) := fp.filterMap fun b => (h.get? b).map fun o => (b, o)
theorem mem_pinsAt {fp : List Addr} {h : Heap} {b : Addr} {o : Obj} (hb : b ∈ fp) (e : h.get? b = some o) : (b, o) ∈ pinsAt fp h := List.mem_filterMap.mpr ⟨b, hb, by rw [e]; rfl⟩
theorem of_pinsAt {fp : List Addr} {h : Heap} {p : Addr × Obj} (hp : p ∈ pinsAt fp h) : p.1 ∈ fp ∧ h.get? p.1 = some p.2 := by
  obtain ⟨b, hb, e⟩ := List.mem_filterMap.mp hp
  cases q : h.get? b with
  | none => rw [q] at e; cases e
  | some o =>
    rw [q] at e
    have e' : (b, o) = p := Option.some.inj e
    subst e'
    exact ⟨hb, q⟩
theorem Inv.pinned {pins : List (Addr × Obj)} {σ : St} {H : Hp} {s : Shared} {fp : List Addr} (I : Inv X pins σ H s) (hf : ∀ b ∈ fp, FpOk X pins H b) (ho : ∀ b ∈ fp, ∃ o, s.heap.get? b = some o ∧ ∀ v, o.data ≠ .cell v) : Inv X (pins ++ pinsAt fp s.heap) σ H s :=
  I.pins_of fun p hp => (List.mem_append.mp hp).elim (fun z => I.pin p (List.mem_append_right _ z)) fun z => by
    obtain ⟨hb, e⟩ := of_pinsAt z
    obtain ⟨f0, f1, f2, _⟩ := hf p.1 hb
    obtain ⟨o, e', d⟩ := ho p.1 hb
    rw [e] at e'; cases e'
    exact ⟨e, f0, f1, f2, d⟩
theorem Inv.unpinned {pins pl : List (Addr × Obj)} {σ : St} {H : Hp} {s : Shared} (I : Inv X (pins ++ pl) σ H s) : Inv X pins σ H s := I.pins_of fun p hp => I.pin p (List.mem_append_right _ (List.mem_append_left _ hp))
theorem ps_for {iter : Expr} {body : List Stmt} {wi : TI} {g : TG} {tb : TS} {pos : Pos} (hp : PassesOwn (model X.prog X.w) X.A X.env X.xe) (hc : X.calm = true) (hi : PI X tg iter wi) (hg : PG X tg g) (hb : PSs X body tb)
    (hs : ∀ x, foldedSetIterable iter X.env x = pure x := by intro _; rfl) : PS X (.For tg iter body [] pos) (tFor wi g tb) := by
  intro pins s σ H D I h
  refine wpAny_For (thn (hi pins s σ H _ I h) fun v s1 h1 => thn h1 fun itv s2 h2 => ?_) hs
  obtain ⟨it, fp, tn, J, H2, e, I2, T, st2, f2, W, ⟨m0, w0⟩, turn⟩ := h2
  subst e
  -- what stays true of the iterator's objects through the loop
  have stat : ∀ {H' : Hp}, (∀ b ∈ fp, H' b = none) → ∀ b ∈ fp, FpOk X pins H' b := fun hn b hb => ⟨hn b hb, (f2 b hb).2⟩
  refine codeAny_forLoop_any (fun n s' => ∃ i σ' H', Inv X pins σ' H' s' ∧ tn i s'.heap ∧ (∀ b ∈ fp, H' b = none) ∧ W i n σ' H') ?_ m0 ⟨0, σ, H2, I2, st2, fun b hb => (f2 b hb).1, w0⟩
  rintro n s3 ⟨i, σ3, H3, I3, st3, fr3, w3⟩
  rcases turn i n σ3 H3 w3 with ⟨stop, qn⟩ | ⟨go, N, hN, step⟩
  · refine wpAny_passesOwn hp (thn (T.done X rfl rfl rfl hc i pins s3 σ3 H3 X.xe I3 (stat fr3) st3 stop) fun r s4 zz => ?_)
    obtain ⟨hr, I4⟩ := zz
    subst hr
    exact wpAny_execs_nil ⟨σ3, H3, I4, qn⟩
  · refine wpAny_passesOwn hp (thn (T.item X rfl rfl rfl hc i pins s3 σ3 H3 X.xe I3 (stat fr3) st3 go) fun r s4 zz => ?_)
    obtain ⟨u, hr, h4⟩ := zz
    subst hr
    refine wpAny_passesOwn hp (thn h4 fun _ s5 zz => ?_)
    obtain ⟨x, H5, I5, r5, y5, st5, fr5⟩ := zz
    have I5' := I5.pinned (stat fr5) (T.obj _ _ st5)
    refine wpAny_passesOwn hp (thn (hg _ s5 σ3 H5 x u _ I5' r5 (step x H5 y5)) fun _ s6 zz => ?_)
    obtain ⟨σ6, H6, I6, q6⟩ := zz
    refine wpAny_passesOwn hp (thn (hb _ s6 σ6 H6 _ I6 q6) fun f s7 q7 => ?_)
    have again : ∀ {σ7 : St} {H7 : Hp}, Inv X (pins ++ pinsAt fp s5.heap) σ7 H7 s7 → N σ7 H7 → ∃ m, m < n ∧ ∃ i σ' H', Inv X pins σ' H' s7 ∧ tn i s7.heap ∧ (∀ b ∈ fp, H' b = none) ∧ W i m σ' H' := fun {σ7 H7} I7 n7 => by
      obtain ⟨m', hm, w7⟩ := hN σ7 H7 n7
      refine ⟨m', hm, i + 1, σ7, H7, I7.unpinned, T.keep _ _ _ st5 fun b hb o e => (I7.pin (b, o) (List.mem_append_right _ (List.mem_append_right _ (mem_pinsAt hb e)))).1, fun b hb => ?_, w7⟩
      obtain ⟨o, e, d⟩ := T.obj _ _ st5 b hb
      exact (I7.pin (b, o) (List.mem_append_right _ (List.mem_append_right _ (mem_pinsAt hb e)))).2.1
    cases f with
    | next => obtain ⟨σ7, H7, I7, n7⟩ := q7; exact again I7 n7
    | cont => obtain ⟨σ7, H7, I7, n7⟩ := q7; exact again I7 n7
    | brk => obtain ⟨σ7, H7, I7, q7⟩ := q7; exact ⟨σ7, H7, I7.unpinned, q7⟩
    | ret v => obtain ⟨x7, σ7, H7, I7, r7, q7⟩ := q7; exact ⟨x7, σ7, H7, I7.unpinned, r7, q7⟩
end

end L2

namespace L2
open PySem PySem.Spec PyProof.Rows

noncomputable abbrev R2 := V → V → Hp → VK → Prop
noncomputable def OpR (X : Cx) (f : Value → Value → Sem Value) (r : R2) : Prop :=
  ∀ (pins : List (Addr × Obj)) (s : Shared) (σ : St) (H : Hp) (x y : V) (v u : Value) (Q : VK), Inv X pins σ H s → RelV x v → RelV y u → r x y H Q →
    wpAny (model X.prog X.w) X.A (f v u) (EP X pins σ Q) X.xe s
noncomputable def UnR (X : Cx) (f : Value → Sem Value) (r : V → Hp → VK → Prop) : Prop :=
  ∀ (pins : List (Addr × Obj)) (s : Shared) (σ : St) (H : Hp) (x : V) (v : Value) (Q : VK), Inv X pins σ H s → RelV x v → r x H Q →
    wpAny (model X.prog X.w) X.A (f v) (EP X pins σ Q) X.xe s
noncomputable def CallR (X : Cx) (f : Value) (r : List V → Hp → VK → Prop) : Prop :=
  ∀ (pins : List (Addr × Obj)) (s : Shared) (σ : St) (H : Hp) (xs : List V) (us : List Value) (Q : VK), Inv X pins σ H s → Vals xs us → r xs H Q →
    wpAny (model X.prog X.w) X.A (call f us) (EP X pins σ Q) X.xe s
noncomputable def tOp (r : R2) (ta tb : TE) : TE := fun σ H Q => ta σ H fun x H1 => tb σ H1 fun y H2 => r x y H2 Q
noncomputable def tUn (r : V → Hp → VK → Prop) (ta : TE) : TE := fun σ H Q => ta σ H fun x H1 => r x H1 Q
noncomputable def rI (C : Int → Int → Prop) (g : Int → Int → V) : R2 := fun x y H Q => ∃ i j, x = .int i ∧ y = .int j ∧ C i j ∧ Q (g i j) H
noncomputable def rI0 (g : Int → Int → V) : R2 := fun x y H Q => ∃ i j, x = .int i ∧ y = .int j ∧ Q (g i j) H
noncomputable def rU (g : Int → V) : V → Hp → VK → Prop := fun x H Q => ∃ i, x = .int i ∧ Q (g i) H

section
variable {X : Cx} {a b c : Expr} {ta tb tc : TE} {pos : Pos}

theorem binT (ha : PE X a ta) (hb : PE X b tb) {pins : List (Addr × Obj)} {s : Shared} {σ : St} {H : Hp} {R : V → V → Hp → Prop} (I : Inv X pins σ H s)
    (h : ta σ H fun x H1 => tb σ H1 fun y H2 => R x y H2) {Q : Value → Shared → Prop} {f : Value → Value → Sem Value}
    (hf : ∀ v u s2 x y H2, Inv X pins σ H2 s2 → RelV x v → RelV y u → R x y H2 → wpAny (model X.prog X.w) X.A (f v u) Q X.xe s2) :
    wpAny (model X.prog X.w) X.A (eval a X.env) (fun v s₁ => wpAny (model X.prog X.w) X.A (eval b X.env) (fun u s₂ => wpAny (model X.prog X.w) X.A (f v u) Q X.xe s₂) X.xe s₁) X.xe s := by
  refine thn (ha pins s σ H _ I h) fun v s1 zz => ?_
  obtain ⟨x, H1, I1, r1, q1⟩ := zz
  refine thn (hb pins s1 σ H1 _ I1 q1) fun u s2 zz => ?_
  obtain ⟨y, H2, I2, r2, q2⟩ := zz
  exact hf v u s2 x y H2 I2 r1 r2 q2

theorem pe_op {op : Operator} {r : R2} (ho : OpR X (binaryOp op) r) (ha : PE X a ta) (hb : PE X b tb) : PE X (.BinOp a op b pos) (tOp r ta tb) := by
  intro pins s σ H Q I h
  exact wpAny_BinOp (binT ha hb I h fun v u s2 x y H2 I2 rx ry q => ho pins s2 σ H2 x y v u Q I2 rx ry q)
theorem pe_un {op : UnaryOp} {r : V → Hp → VK → Prop} (ho : UnR X (unaryOp op) r) (ha : PE X a ta) : PE X (.UnaryOp op a pos) (tUn r ta) := by
  intro pins s σ H Q I h
  exact UnaryOp_ (thn (ha pins s σ H _ I h) fun v s1 ⟨x, H1, I1, r1, q1⟩ => ho pins s1 σ H1 x v Q I1 r1 q1)
theorem opI {f : Value → Value → Sem Value} {C : Int → Int → Prop} {g : Int → Int → Int}
    (rule : ∀ (i j : Int) (t u : Tok) (s : Shared) (Q : Value → Shared → Prop) (E : Value → Shared → Prop), C i j → Q (.int (g i j) s.toks) { s with toks := s.toks + 1 } → wpAny (model X.prog X.w) X.A (f (.int i t) (.int j u)) Q E s) :
    OpR X f (rI C fun i j => .int (g i j)) := by
  intro pins s σ H x y v u Q I rx ry h
  obtain ⟨i, j, rfl, rfl, hc, q⟩ := h
  obtain ⟨t, rfl⟩ := rx
  obtain ⟨t', rfl⟩ := ry
  exact rule i j t t' s _ _ hc ⟨.int (g i j), H, I.tok _, ⟨_, rfl⟩, q⟩
theorem opI0 {f : Value → Value → Sem Value} {g : Int → Int → Int}
    (rule : ∀ (i j : Int) (t u : Tok) (s : Shared) (Q : Value → Shared → Prop) (E : Value → Shared → Prop), Q (.int (g i j) s.toks) { s with toks := s.toks + 1 } → wpAny (model X.prog X.w) X.A (f (.int i t) (.int j u)) Q E s) :
    OpR X f (rI0 fun i j => .int (g i j)) := by
  intro pins s σ H x y v u Q I rx ry h
  obtain ⟨i, j, rfl, rfl, q⟩ := h
  obtain ⟨t, rfl⟩ := rx
  obtain ⟨t', rfl⟩ := ry
  exact rule i j t t' s _ _ ⟨.int (g i j), H, I.tok _, ⟨_, rfl⟩, q⟩
theorem opB0 {f : Value → Value → Sem Value} {g : Int → Int → Bool}
    (rule : ∀ (i j : Int) (t u : Tok) (s : Shared) (Q : Value → Shared → Prop) (E : Value → Shared → Prop), Q (.bool (g i j)) s → wpAny (model X.prog X.w) X.A (f (.int i t) (.int j u)) Q E s) :
    OpR X f (rI0 fun i j => .bl (g i j)) := by
  intro pins s σ H x y v u Q I rx ry h
  obtain ⟨i, j, rfl, rfl, q⟩ := h
  obtain ⟨t, rfl⟩ := rx
  obtain ⟨t', rfl⟩ := ry
  exact rule i j t t' s _ _ ⟨.bl (g i j), H, I, rfl, q⟩

noncomputable def CPow (i j : Int) : Prop := 0 ≤ j ∧ j ≤ 1000000 ∧ i.natAbs < 2 ^ 64
theorem op_add : OpR X (binaryOp .Add) (rI0 fun i j => .int (i + j)) := opI0 fun _ _ _ _ _ _ _ q => add_int q
theorem op_sub : OpR X (binaryOp .Sub) (rI0 fun i j => .int (i - j)) := opI0 fun _ _ _ _ _ _ _ q => sub_int q
theorem op_mod : OpR X (binaryOp .Mod) (rI (fun _ j => 0 < j) fun i j => .int (i % j)) := opI fun i j _ _ _ _ _ hc q => by
  have h1 : (0 : Int) < j := hc
  exact mod_int' (by omega) (by rw [Int.fmod_eq_emod_of_nonneg i (by omega)]; exact q)
theorem op_pow : OpR X (binaryOp .Pow) (rI CPow fun i j => .int (i ^ j.toNat)) := opI fun _ _ _ _ _ _ _ hc q => pow_int_small hc.1 hc.2.1 hc.2.2 q
theorem unI {f : Value → Sem Value} {g : Int → Int}
    (rule : ∀ (i : Int) (t : Tok) (s : Shared) (Q : Value → Shared → Prop) (E : Value → Shared → Prop), Q (.int (g i) s.toks) { s with toks := s.toks + 1 } → wpAny (model X.prog X.w) X.A (f (.int i t)) Q E s) :
    UnR X f (rU fun i => .int (g i)) := by
  intro pins s σ H x v Q I rx h
  obtain ⟨i, rfl, q⟩ := h
  obtain ⟨t, rfl⟩ := rx
  exact rule i t s _ _ ⟨.int (g i), H, I.tok _, ⟨_, rfl⟩, q⟩
theorem un_neg : UnR X (unaryOp .USub) (rU fun i => .int (-i)) := unI fun _ _ _ _ _ q => neg_int q
end

noncomputable def scal : V → V → Bool
  | .non, .non => true | .non, .int _ => true | .int _, .non => true | .non, .bl _ => true | .bl _, .non => true | .non, .str _ => true | .str _, .non => true
  | .int _, .int _ => true | .bl _, .bl _ => true | .str _, .str _ => true | .byt _, .byt _ => true
  | .int _, .str _ => true | .str _, .int _ => true | .bl _, .str _ => true | .str _, .bl _ => true
  | _, _ => false
noncomputable def rEq : R2 := fun x y H Q => scal x y = true ∧ Q (.bl (decide (x = y))) H
noncomputable def rNe : R2 := fun x y H Q => scal x y = true ∧ Q (.bl (!decide (x = y))) H

theorem dec_int {i j : Int} : decide (V.int i = V.int j) = (i == j) := by
  rw [Bool.eq_iff_iff]
  simp
theorem dec_bl {i j : Bool} : decide (V.bl i = V.bl j) = (i == j) := by
  rw [Bool.eq_iff_iff]
  simp
theorem dec_str {i j : Str} : decide (V.str i = V.str j) = (i == j) := by
  rw [Bool.eq_iff_iff]
  simp
theorem dec_byt {i j : Array UInt8} : decide (V.byt i = V.byt j) = (i.toList == j.toList) := by
  rw [Bool.eq_iff_iff]
  cases i
  cases j
  simp

section
variable {X : Cx} {a b c : Expr} {ta tb tc : TE} {pos : Pos}
theorem fin_bl {pins : List (Addr × Obj)} {σ : St} {H : Hp} {s : Shared} {Q : VK} {k k' : Bool} (I : Inv X pins σ H s) (q : Q (.bl k) H) (e : k = k') : EP X pins σ Q (.bool k') s := by
  subst e
  exact ⟨.bl k, H, I, rfl, q⟩
theorem op_eq : OpR X (compareOp .Eq) rEq := by
  intro pins s σ H x y v u Q I rx ry h
  obtain ⟨hs, q⟩ := h
  cases x with
  | non =>
    cases rx
    cases y with
    | non => cases ry; exact PySem.EqNone.eq_none_none (fin_bl I q (by simp))
    | bl j => cases ry; exact PySem.EqNone.eq_none_bool (fin_bl I q (by simp))
    | int j => obtain ⟨t', rfl⟩ := ry; exact PySem.EqNone.eq_none_int (fin_bl I q (by simp))
    | str j => obtain ⟨t', rfl⟩ := ry; exact PySem.EqNone.eq_none_str (fin_bl I q (by simp))
    | _ => exact absurd (show false = true from hs) Bool.false_ne_true
  | bl i =>
    cases rx
    cases y with
    | non => cases ry; exact PySem.EqNone.eq_bool_none (fin_bl I q (by simp))
    | bl j => cases ry; exact eq_bool (fin_bl I q dec_bl)
    | str j => obtain ⟨t', rfl⟩ := ry; exact PySem.EqMixed.eq_bool_str (fin_bl I q (by simp))
    | _ => exact absurd (show false = true from hs) Bool.false_ne_true
  | int i =>
    obtain ⟨t, rfl⟩ := rx
    cases y with
    | non => cases ry; exact PySem.EqNone.eq_int_none (fin_bl I q (by simp))
    | int j => obtain ⟨t', rfl⟩ := ry; exact eq_int (fin_bl I q dec_int)
    | str j => obtain ⟨t', rfl⟩ := ry; exact PySem.EqMixed.eq_int_str (fin_bl I q (by simp))
    | _ => exact absurd (show false = true from hs) Bool.false_ne_true
  | str i =>
    obtain ⟨t, rfl⟩ := rx
    cases y with
    | non => cases ry; exact PySem.EqNone.eq_str_none (fin_bl I q (by simp))
    | bl j => cases ry; exact PySem.EqMixed.eq_str_bool (fin_bl I q (by simp))
    | int j => obtain ⟨t', rfl⟩ := ry; exact PySem.EqMixed.eq_str_int (fin_bl I q (by simp))
    | str j => obtain ⟨t', rfl⟩ := ry; exact eq_str (fin_bl I q dec_str)
    | _ => exact absurd (show false = true from hs) Bool.false_ne_true
  | byt i =>
    obtain ⟨t, rfl⟩ := rx
    cases y with
    | byt j => obtain ⟨t', rfl⟩ := ry; exact PySem.W.eq_bytes (fin_bl I q dec_byt)
    | _ => exact absurd (show false = true from hs) Bool.false_ne_true
  | _ => cases y <;> exact absurd (show false = true from hs) Bool.false_ne_true
theorem op_ne : OpR X (compareOp .NotEq) rNe := by
  intro pins s σ H x y v u Q I rx ry h
  obtain ⟨hs, q⟩ := h
  cases x with
  | non =>
    cases rx
    cases y with
    | non => cases ry; exact PySem.EqNone.ne_none_none (fin_bl I q (by simp))
    | bl j => cases ry; exact PySem.EqNone.ne_none_bool (fin_bl I q (by simp))
    | int j => obtain ⟨t', rfl⟩ := ry; exact PySem.EqNone.ne_none_int (fin_bl I q (by simp))
    | str j => obtain ⟨t', rfl⟩ := ry; exact PySem.EqNone.ne_none_str (fin_bl I q (by simp))
    | _ => exact absurd (show false = true from hs) Bool.false_ne_true
  | bl i =>
    cases rx
    cases y with
    | non => cases ry; exact PySem.EqNone.ne_bool_none (fin_bl I q (by simp))
    | bl j => cases ry; exact ne_bool (fin_bl I q (congrArg not dec_bl))
    | str j => obtain ⟨t', rfl⟩ := ry; exact PySem.EqMixed.ne_bool_str (fin_bl I q (by simp))
    | _ => exact absurd (show false = true from hs) Bool.false_ne_true
  | int i =>
    obtain ⟨t, rfl⟩ := rx
    cases y with
    | non => cases ry; exact PySem.EqNone.ne_int_none (fin_bl I q (by simp))
    | int j => obtain ⟨t', rfl⟩ := ry; exact ne_int (fin_bl I q (congrArg not dec_int))
    | str j => obtain ⟨t', rfl⟩ := ry; exact PySem.EqMixed.ne_int_str (fin_bl I q (by simp))
    | _ => exact absurd (show false = true from hs) Bool.false_ne_true
  | str i =>
    obtain ⟨t, rfl⟩ := rx
    cases y with
    | non => cases ry; exact PySem.EqNone.ne_str_none (fin_bl I q (by simp))
    | bl j => cases ry; exact PySem.EqMixed.ne_str_bool (fin_bl I q (by simp))
    | int j => obtain ⟨t', rfl⟩ := ry; exact PySem.EqMixed.ne_str_int (fin_bl I q (by simp))
    | str j => obtain ⟨t', rfl⟩ := ry; exact ne_str (fin_bl I q (congrArg not dec_str))
    | _ => exact absurd (show false = true from hs) Bool.false_ne_true
  | byt i =>
    obtain ⟨t, rfl⟩ := rx
    cases y with
    | byt j => obtain ⟨t', rfl⟩ := ry; exact PySem.W.ne_bytes (fin_bl I q (congrArg not dec_byt))
    | _ => exact absurd (show false = true from hs) Bool.false_ne_true
  | _ => cases y <;> exact absurd (show false = true from hs) Bool.false_ne_true

theorem op_lt : OpR X (compareOp .Lt) (rI0 fun i j => .bl (decide (i < j))) := opB0 fun _ _ _ _ _ _ _ q => lt_int q
theorem op_le : OpR X (compareOp .LtE) (rI0 fun i j => .bl (decide (i ≤ j))) := opB0 fun _ _ _ _ _ _ _ q => le_int q
theorem op_gt : OpR X (compareOp .Gt) (rI0 fun i j => .bl (decide (j < i))) := opB0 fun _ _ _ _ _ _ _ q => gt_int q
theorem OpR.or {f : Value → Value → Sem Value} {r r' : R2} (h : OpR X f r) (h' : OpR X f r') : OpR X f (fun x y H Q => r x y H Q ∨ r' x y H Q) := by
  intro pins s σ H x y v u Q I rx ry q
  rcases q with q | q
  · exact h pins s σ H x y v u Q I rx ry q
  · exact h' pins s σ H x y v u Q I rx ry q

theorem nomark (b : Expr) {op : CmpOp} (h : op ≠ .In := by decide) (h2 : op ≠ .NotIn := by decide) : behindInMarks op b = false := by
  have e1 : (op == CmpOp.In) = false := by cases op <;> first | rfl | exact absurd rfl h
  have e2 : (op == CmpOp.NotIn) = false := by cases op <;> first | rfl | exact absurd rfl h2
  cases b <;> simp [behindInMarks, e1, e2]
theorem pe_cmpR {op : CmpOp} {r : R2} (ho : OpR X (compareOp op) r) (ha : PE X a ta) (hb : PE X b tb) (hm : behindInMarks op b = false) : PE X (.Compare a [op] [b] pos) (tOp r ta tb) := by
  intro pins s σ H Q I h
  exact wpAny_Compare1 (binT ha hb I h fun v u s2 x y H2 I2 rx ry q => ho pins s2 σ H2 x y v u Q I2 rx ry q) hm
noncomputable def tTest (t : TE) : TT := fun σ H Q => t σ H fun x H' => ∃ k, x = .bl k ∧ Q k H'
theorem pt_cmpR {op : CmpOp} {r : R2} (ho : OpR X (compareOp op) r) (ha : PE X a ta) (hb : PE X b tb) (hm : behindInMarks op b = false) : PT X (.Compare a [op] [b] pos) (tTest (tOp r ta tb)) := by
  intro pins s σ H Q I h
  refine wpAny_isTrue_Compare1 (thn (ha pins s σ H _ I h) fun v s1 ⟨x, H1, I1, r1, q1⟩ => thn (hb pins s1 σ H1 _ I1 q1) fun u s2 ⟨y, H2, I2, r2, q2⟩ =>
    thn (ho pins s2 σ H2 x y v u _ I2 r1 r2 q2) fun c s3 ⟨z, H3, I3, r3, k, e, q3⟩ => ?_) hm
  subst e
  cases r3
  exact wpAny_truthy_bool ⟨H3, I3, q3⟩
theorem line63 : (sizeLine : Nat) < 2 ^ 63 := by rw [sizeLine_eq]; decide
theorem vals1 {x : V} {us : List Value} (r : Vals [x] us) : ∃ u, us = [u] ∧ RelV x u := by
  cases r with
  | cons r1 r2 => cases r2; exact ⟨_, rfl, r1⟩
theorem vals2 {x y : V} {us : List Value} (r : Vals [x, y] us) : ∃ u w', us = [u, w'] ∧ RelV x u ∧ RelV y w' := by
  cases r with
  | cons r1 r2 =>
    cases r2 with
    | cons r3 r4 => cases r4; exact ⟨_, _, rfl, r1, r3⟩
theorem call_abs : CallR X (.builtin "abs") (fun xs H Q => ∃ i, xs = [.int i] ∧ Q (.int (if i < 0 then -i else i)) H) := by
  intro pins s σ H xs us Q I r h
  obtain ⟨i, rfl, q⟩ := h
  obtain ⟨u, rfl, t, rfl⟩ := vals1 r
  exact call_abs_int fun u tk => ⟨.int (if i < 0 then -i else i), H, I.tok _, ⟨_, rfl⟩, q⟩
theorem call_max2 (hc : X.calm = true) : CallR X (.builtin "max") (fun xs H Q => ∃ i j, xs = [.int i, .int j] ∧ Q (.int (if j > i then j else i)) H) := by
  intro pins s σ H xs us Q I r h
  obtain ⟨i, j, rfl, q⟩ := h
  obtain ⟨u, w', rfl, ⟨t, rfl⟩, ⟨t', rfl⟩⟩ := vals2 r
  refine max_two_ints (I.ok.hd hc) fun h' tk k => ⟨_, H, I.kept k, ?_, q⟩
  by_cases hj : j > i
  · rw [if_pos hj, if_pos hj]; exact ⟨_, rfl⟩
  · rw [if_neg hj, if_neg hj]; exact ⟨_, rfl⟩
theorem call_int1 : CallR X (.type "int") (fun xs H Q => (∃ i, xs = [.int i] ∧ Q (.int i) H) ∨ ∃ k, xs = [.bl k] ∧ Q (.int (if k then 1 else 0)) H) := by
  intro pins s σ H xs us Q I r h
  rcases h with ⟨i, rfl, q⟩ | ⟨k, rfl, q⟩
  · obtain ⟨u, rfl, t, rfl⟩ := vals1 r
    exact call_int_int ⟨.int i, H, I, ⟨_, rfl⟩, q⟩
  · obtain ⟨u, rfl, r1⟩ := vals1 r
    cases r1
    exact call_int_bool ⟨.int (if k then 1 else 0), H, I.tok _, ⟨_, rfl⟩, q⟩
end
end L2

namespace L2
open PySem PySem.Spec PyProof.Rows

structure ObjM (h : Heap) (x dx C : Addr) (mA : Str → Option Value) : Prop where
  obj : h.get? x = some (PySem.W.instObj C dx)
  ns : h.Ns1 dx mA
  ne : dx ≠ x

theorem lookIn_ns {h : Heap} {dx : Addr} {mA : Str → Option Value} (n : h.Ns1 dx mA) : ∃ od, h.get? dx = some od ∧ ∀ name, PySem.W.lookIn name od = some (mA name) := by
  obtain ⟨o, es, ep, ho, hd, hk, _, hm⟩ := n
  refine ⟨o, ho, fun name => ?_⟩
  have e := hm name
  unfold nsFind findBy at e
  rw [← Array.find?_toList] at e
  unfold PySem.W.lookIn
  rw [hd]
  dsimp only
  split
  · rename_i y q
    rw [q] at e
    exact congrArg some e
  · rename_i q
    rw [q] at e
    have a : es.toList.any (·.refKey) = false := by
      rw [List.any_eq_false]
      intro y hy
      obtain ⟨z, t, hkey⟩ := hk y (Array.mem_toList_iff.mp hy)
      simp [DictEntry.refKey, hkey]
    have a' : ¬ es.toList.any (·.refKey) = true := by rw [a]; exact Bool.false_ne_true
    rw [if_neg a']
    exact congrArg some e

theorem ObjM.look {h : Heap} {x dx C : Addr} {mA : Str → Option Value} (I : ObjM h x dx C mA) : ∃ od, PySem.W.InstAt h x (PySem.W.instObj C dx) C (some od) ∧ ∀ name, PySem.W.lookIn name od = some (mA name) :=
  let ⟨od, ho, hl⟩ := lookIn_ns I.ns
  ⟨od, ⟨I.obj, rfl, rfl, ho⟩, hl⟩

section
variable {prog : Program} {w : World} {A : Around} {E : Value → Shared → Prop} {s : Shared} {K : PySem.W.Frag} {x dx C f : Addr} {mA : Str → Option Value} {name : Str} {v : Value}

end

section
variable {P : Program} {w : World} {H H' : Hp} {h h' : Heap} {a C dx : Addr} {fs fs' : List (Str × V)}
theorem ins_get (hok : HOk P w H h) (e : H a = some (.ins C dx fs)) : ∃ mA, ObjM h a dx C mA ∧ (∀ f, RelO (fs.lookup f) (mA f)) ∧ PySem.Within mA (fs.map (·.1)) ∧ fs.length ≤ 1000 ∧ H dx = some (.own a) := by
  obtain ⟨d, z, ne, ob, mA, n, r, q⟩ := (show ObjOk P w H h a (.ins C dx fs) from hok a _ e)
  exact ⟨mA, ⟨ob, n, ne⟩, r, q, z, d⟩
end

structure Cls (K : PySem.W.Frag) (C : Addr) : Prop where
  pg : PySem.W.plainGet K C Str.empty = true
  hd : PySem.W.hasDictIn K C = true
  po : PySem.W.plainOver K C = true
  sa : PySem.W.findIn K (.ref C) "__setattr__" = some (some (.builtin "object.__setattr__"))
theorem Cls.get {K : PySem.W.Frag} {C : Addr} (c : Cls K C) (f : Str) : PySem.W.plainGet K C f = true := c.pg
section
variable {X : Cx} {pins : List (Addr × Obj)} {σ : St} {H : Hp} {s : Shared} {a C dx : Addr} {fs : List (Str × V)} {f : Str} {v : V} {A : Around} {E : Value → Shared → Prop}

end

section
variable {X : Cx} {o e value : Expr} {f : Str} {pos pos' tpos : Pos} {ta tv : TE}
end

section
variable {X : Cx} {pins : List (Addr × Obj)} {σ : St} {H : Hp} {s : Shared} {A : Around} {E : Value → Shared → Prop} {Q : Value → Shared → Prop} {c : Value} {b : Bool}
inductive TyOf (K : PySem.W.Frag) (H : Hp) : V → Value → Prop where
  | non : TyOf K H .non (.type "NoneType")
  | bl (x : Bool) : TyOf K H (.bl x) (.type "bool")
  | int (i : Int) : TyOf K H (.int i) (.type "int")
  | str (x : Str) : TyOf K H (.str x) (.type "str")
  | flt (x : UInt64) : TyOf K H (.flt x) (.type "float")
  | lst {a : Addr} {xs : List V} (e : H a = some (.lst xs)) : TyOf K H (.ref a) (.type "list")
  | frz {a : Addr} {o : Obj} {xs : List V} (e : H a = some (.frz o (.lst xs))) : TyOf K H (.ref a) (.type "list")
  | tup {a : Addr} {xs : List V} (e : H a = some (.tup xs)) : TyOf K H (.ref a) (.type "tuple")
  | dK {a : Addr} {kvs : List (Key × V)} (e : H a = some (.dK kvs)) : TyOf K H (.ref a) (.type "dict")
  | dT {a : Addr} {kvs : List (List Key × V)} (e : H a = some (.dT kvs)) : TyOf K H (.ref a) (.type "dict")
  | ins {a C dx : Addr} {fs : List (Str × V)} (e : H a = some (.ins C dx fs)) (cl : Cls K C) (ha : PySem.W.findIn K (.ref C) "__class__" = some (some (.builtin "object.__class__")))
      (hn : PySem.W.specialIn K (.builtin "object.__class__") "__get__" = some (some (.builtin "getset_descriptor.__get__"))) (htk : PySem.W.takesIn K (.builtin "object.__class__") = some true)
      (hm : PySem.W.mroIn K C (.type "object") = some true) : TyOf K H (.ref a) (.ref C)
theorem isinst_ok {x : V} {u t : Value} (I : Inv X pins σ H s) (rx : RelV x u) (ty : TyOf X.K H x t) (e : PySem.W.kitOne X.K t c = some b) (h : ∀ tk, Q (.bool b) { s with toks := tk }) :
    wpAny (model X.prog X.w) A (call (.builtin "isinstance") [u, c]) Q E s := by
  cases ty with
  | non => cases (show u = Value.none from rx); exact PySem.W.kia_one PySem.W.kitx_none I.kIn True.intro e (fun z => nomatch z) h
  | bl y => cases (show u = Value.bool y from rx); exact PySem.W.kia_one PySem.W.kitx_bool I.kIn True.intro e (fun z => nomatch z) h
  | int i => obtain ⟨t, q⟩ := (show ∃ t, u = Value.int i t from rx); cases q; exact PySem.W.kia_one PySem.W.kitx_int I.kIn True.intro e (fun z => nomatch z) h
  | str y => obtain ⟨t, q⟩ := (show ∃ t, u = Value.str y t from rx); cases q; exact PySem.W.kia_one PySem.W.kitx_str I.kIn True.intro e (fun z => nomatch z) h
  | flt y => obtain ⟨t, q⟩ := (show ∃ t, u = Value.float y t from rx); cases q; exact PySem.W.kia_one PySem.W.kitx_float I.kIn True.intro e (fun z => nomatch z) h
  | @lst a xs ea =>
    cases (show u = Value.ref a from rx)
    obtain ⟨_, _, n, _, h1⟩ := (show ObjOk X.prog X.w H s.heap a (.lst xs) from I.hok a _ ea)
    exact PySem.W.kia_one PySem.W.kitx_list I.kIn ⟨_, h1, rfl⟩ e (fun z => nomatch z) h
  | @frz a ob xs ea =>
    cases (show u = Value.ref a from rx)
    obtain ⟨_, _, _, n, _, h1⟩ := (show ObjOk X.prog X.w H s.heap a (.frz ob (.lst xs)) from I.hok a _ ea)
    exact PySem.W.kia_one PySem.W.kitx_list I.kIn ⟨_, h1, rfl⟩ e (fun z => nomatch z) h
  | @tup a xs ea =>
    cases (show u = Value.ref a from rx)
    obtain ⟨_, _, _, p⟩ := (show ObjOk X.prog X.w H s.heap a (.tup xs) from I.hok a _ ea)
    obtain ⟨o, h1, h2, _⟩ := p
    exact PySem.W.kia_one PySem.W.kitx_tuple I.kIn ⟨o, h1, h2⟩ e (fun z => nomatch z) h
  | @dK a kvs ea =>
    cases (show u = Value.ref a from rx)
    obtain ⟨_, _, vs, _, p⟩ := (show ObjOk X.prog X.w H s.heap a (.dK kvs) from I.hok a _ ea)
    obtain ⟨o, es, ep, h1, h2, _⟩ := p
    exact PySem.W.kia_one PySem.W.kitx_dict I.kIn ⟨o, h1, h2.1⟩ e (fun z => nomatch z) h
  | @dT a kvs ea =>
    cases (show u = Value.ref a from rx)
    obtain ⟨_, _, xs, _, o, es, ep, h1, h2, _⟩ := (show ObjOk X.prog X.w H s.heap a (.dT kvs) from I.hok a _ ea)
    exact PySem.W.kia_one PySem.W.kitx_dict I.kIn ⟨o, h1, h2.1⟩ e (fun z => nomatch z) h
  | @ins a C dx fs ea cl ha hn htk hm =>
    cases (show u = Value.ref a from rx)
    obtain ⟨mA, O, _⟩ := ins_get I.hok ea
    obtain ⟨od, J, _⟩ := O.look
    exact PySem.W.kia_one (PySem.W.kitx_own (cl.get _) cl.hd ha hn htk hm) I.kIn J e (fun z => nomatch z) h
end
end L2

namespace L2
open PySem PySem.Spec PyProof.Rows

structure Room (k : Nat) (A : Around) : Prop where
  hd : A.handled = none
  dp : A.depth + 3 * k + 5 < recursionLimit
  un : A.units + 16 * k + 200 < cLine
theorem Room.mono {j k : Nat} {A : Around} (r : Room k A) (h : j ≤ k) : Room j A := ⟨r.hd, by have := r.dp; omega, by have := r.un; omega⟩
theorem Room.deeper {k : Nat} {A : Around} (r : Room (k + 1) A) (env : Env) : Room k (A.deeper env) :=
  ⟨r.hd, by have := r.dp; show A.depth + 1 + 3 * k + 5 < _; omega, by have := r.un; show A.units + 3 + 16 * k + 200 < _; omega⟩
theorem Room.in1 {k : Nat} {A : Around} (r : Room (k + 1) A) : Room k A.in1 :=
  ⟨r.hd, by have := r.dp; show A.depth + 3 * k + 5 < _; omega, by have := r.un; show A.units + 1 + 16 * k + 200 < _; omega⟩
theorem Room.depth {k : Nat} {A : Around} (r : Room k A) : A.depth < recursionLimit := by have := r.dp; omega
theorem Room.units {k : Nat} {A : Around} (r : Room k A) : A.units + 64 < cLine := by have := r.un; omega
noncomputable def tNil : TA := fun _ H Q => Q [] H
noncomputable def tCons (ta : TE) (tr : TA) : TA := fun σ H Q => ta σ H fun x H1 => tr σ H1 fun xs H2 => Q (x :: xs) H2
section
variable {X : Cx} {e : Expr} {es : List Expr} {te : TE} {t : TA} {pos : Pos}
theorem pa_nil : PA X [] tNil := fun _ _ _ _ H Q I h => Calls.spliced_nil ⟨[], H, I, .nil, h⟩
theorem pa_cons (ha : PE X e te) (hr : PA X es t) (hs : starEach (e :: es) X.env = (false, eval e X.env) :: starEach es X.env := by rfl) : PA X (e :: es) (tCons te t) := by
  intro pos pins s σ H Q I h
  rw [hs]
  show wpAny _ _ (spliced ((false, eval e X.env) :: backTo pos (starEach es X.env))) _ _ s
  refine Calls.spliced_cons (thn (ha pins s σ H _ I h) fun u s1 zz => ?_)
  obtain ⟨x, H1, I1, r1, q1⟩ := zz
  exact thn (hr pos pins s1 σ H1 _ I1 q1) fun us s2 ⟨xs, H2, I2, r2, q2⟩ => ⟨x :: xs, H2, I2, .cons r1 r2, q2⟩

noncomputable def tTup (t : TA) : TE := fun σ H Q => t σ H fun xs H1 => xs.length ≤ sizeLine ∧ ∀ p, H1 p = none → Q (.ref p) (upd H1 p (.tup xs))
noncomputable def tLst (t : TA) : TE := fun σ H Q => t σ H fun xs H1 => xs.length ≤ sizeLine ∧ ∀ p, H1 p = none → Q (.ref p) (upd H1 p (.lst xs))
theorem pe_tup {x1} (h : PA X es t) : PE X (.Tuple es x1 pos) (tTup t) := by
  intro pins s σ H Q I hq
  refine wpAny_Tuple_spliced (thn (h pos pins s σ H _ I hq) fun us s1 ⟨xs, H1, I1, r, z, q⟩ => ⟨by rw [← r.length]; exact z, ?_⟩)
  have hf : H1 s1.heap.objs.size = none := I1.hok.fresh (Nat.le_refl _)
  refine ⟨.ref s1.heap.objs.size, upd H1 s1.heap.objs.size (.tup xs), I1.laid (t' := s1.toks) (fun b u e => Heap.get?_push_of_some _ e) (Nat.le_refl _) ?_, rfl, q _ hf⟩
  exact ⟨z, us, r, ⟨_, Heap.get?_push_size _ rfl, rfl, _, rfl⟩⟩
theorem pe_lst (h : PA X es t) : PE X (.List es pos) (tLst t) := by
  intro pins s σ H Q I hq
  refine wpAny_List_spliced (thn (h pos pins s σ H _ I hq) fun us s1 ⟨xs, H1, I1, r, z, q⟩ => ⟨by rw [← r.length]; exact z, ?_⟩)
  have hf : H1 s1.heap.objs.size = none := I1.hok.fresh (Nat.le_refl _)
  refine ⟨.ref s1.heap.objs.size, upd H1 s1.heap.objs.size (.lst xs), I1.laid (t' := s1.toks) (fun b u e => Heap.get?_push_of_some _ e) (Nat.le_refl _) ?_, rfl, q _ hf⟩
  exact ⟨z, us, 0, r, Heap.get?_push_size _ rfl⟩
end

noncomputable abbrev Sp := List V → Hp → VK → XK → Prop
noncomputable abbrev CXT := List Env → Hp → Shared → XK → Value → Shared → Prop

structure Env0 (P : Program) (w : World) (K : PySem.W.Frag) (mg : Str → Option Value) (base : Heap) (A : Around) (outer : List Env) (s : Shared) (H : Hp) : Prop where
  frames : A.frames = some outer
  mod : Mod K mg base
  bs : ∀ b o, base.get? b = some o → s.heap.get? b = some o ∧ H b = none
  bsz : base.objs.size ≤ s.heap.objs.size
  funs : s.heap.FunFrames base outer
  frf : ∀ b ∈ frs outer, H b = none
  hok : HOk P w H s.heap
  bare : AllBare s.gens
noncomputable def CE (outer : List Env) (P : Program) (w : World) (H : Hp) (s : Shared) (Q : VK) (u : Value) (s' : Shared) : Prop :=
  ∃ v H', s'.os = s.os ∧ AllBare s'.gens ∧ Un (frs outer) [] H H' s.heap s'.heap ∧ HOk P w H' s'.heap ∧ RelV v u ∧ Q v H'
noncomputable def CR (CX : CXT) (outer : List Env) (P : Program) (w : World) (H : Hp) (s : Shared) (Q : VK) (E : XK) (r : Result) (s' : Shared) : Prop :=
  match r with
  | .ok (.ret u) => CE outer P w H s Q u s'
  | .ok _ => False
  | .error e => CX outer H s E e s'
structure FnOk (P : Program) (w : World) (K : PySem.W.Frag) (mg : Str → Option Value) (base : Heap) (CX : CXT) (k : Nat) (f : Addr) (fd : FuncData) (ps : List Str) (sp : Sp) : Prop where
  len : ∀ vs H Q E, sp vs H Q E → vs.length = ps.length
  run : ∀ (A : Around) (outer : List Env) (s : Shared) (H : Hp) (args : Args) (us : List Value) (vs : List V) (Q : VK) (E : XK), Room k A → Env0 P w K mg base A outer s H → BindsTo s fd args (ps.zip us) → Vals vs us → sp vs H Q E →
    codeAny (model P w) A (.call (.ref f) args) (CR CX outer P w H s Q E) s
theorem FnOk.mono {P : Program} {w : World} {K : PySem.W.Frag} {mg : Str → Option Value} {base : Heap} {CX : CXT} {j k : Nat} {f : Addr} {fd : FuncData} {ps : List Str} {sp : Sp} (F : FnOk P w K mg base CX j f fd ps sp) (h : j ≤ k) :
    FnOk P w K mg base CX k f fd ps sp := ⟨F.len, fun A outer s H args us vs Q E hr => F.run A outer s H args us vs Q E (hr.mono h)⟩
theorem FnOk.imp {P : Program} {w : World} {K : PySem.W.Frag} {mg : Str → Option Value} {base : Heap} {CX : CXT} {k : Nat} {f : Addr} {fd : FuncData} {ps : List Str} {sp sp' : Sp} (F : FnOk P w K mg base CX k f fd ps sp)
    (h : ∀ vs H Q E, sp' vs H Q E → sp vs H Q E) : FnOk P w K mg base CX k f fd ps sp' :=
  ⟨fun vs H Q E q => F.len vs H Q E (h _ _ _ _ q), fun A outer s H args us vs Q E hr he hb hv hs => F.run A outer s H args us vs Q E hr he hb hv (h _ _ _ _ hs)⟩

theorem Env0.in1 {P : Program} {w : World} {K : PySem.W.Frag} {mg : Str → Option Value} {base : Heap} {A : Around} {outer : List Env} {s : Shared} {H : Hp} (e : Env0 P w K mg base A outer s H) :
    Env0 P w K mg base A.in1 outer s H := ⟨e.frames, e.mod, e.bs, e.bsz, e.funs, e.frf, e.hok, e.bare⟩

section
variable {X : Cx} {pins : List (Addr × Obj)} {σ : St} {H : Hp} {s s' : Shared}
theorem Inv.env0 (I : Inv X pins σ H s) : Env0 X.prog X.w X.K X.mg X.base X.A X.stack s H :=
  ⟨I.ok.frames, I.ok.mod, I.bs, Nat.le_trans I.ok.bsz I.sz, I.stack, I.stkFree, I.hok, I.bare⟩
theorem Inv.after {Q : VK} {u : Value} (I : Inv X pins σ H s) (h : CE X.stack X.prog X.w H s Q u s') : EP X pins σ Q u s' := by
  obtain ⟨v, H', os, bare, un, hok, r, q⟩ := h
  obtain ⟨hh, g, d, t, os'⟩ := s'
  obtain rfl : os' = s.os := os
  exact ⟨v, H', I.call (h' := hh) (g' := g) (d' := d) (t' := t) (ch := []) un hok bare (fun b z => absurd z (by simp)), r, q⟩
end

noncomputable def tCall (sp : Sp) (dvs : List V) (E : XK) (t : TA) : TE := fun σ H Q => t σ H fun vs H1 => sp (vs ++ dvs) H1 Q E
noncomputable def Binds (K : PySem.W.Frag) (fd : FuncData) (ps : List Str) (ds : List Value) : Prop :=
  ∀ (s : Shared) (us : List Value), K.In s.heap → (us ++ ds).length = ps.length → BindsTo s fd ⟨us, []⟩ (ps.zip (us ++ ds))
theorem Binds.all {K : PySem.W.Frag} {fd : FuncData} {ps : List Str} (h : ∀ us : List Value, us.length = ps.length → bindArgs fd ⟨us, []⟩ = pure (ps.zip us)) : Binds K fd ps [] := fun s us _ hl => by
  rw [List.append_nil] at hl ⊢
  exact .of_eq (h us hl)

noncomputable def Passes (CX : CXT) (X : Cx) (E : XK) : Prop := ∀ (pins : List (Addr × Obj)) (σ : St) (H : Hp) (s : Shared) (e : Value) (s' : Shared), Inv X pins σ H s → CX X.stack H s E e s' → X.xe e s'

section
variable {X : Cx} {CX : CXT} {k : Nat} {f C : Addr} {fd : FuncData} {ps : List Str} {sp : Sp} {dvs : List V} {ds : List Value} {E : XK} {x m : Str} {p pos apos : Pos} {e o : Expr} {es : List Expr} {ta : TE} {t : TA}

theorem run_fn {pins : List (Addr × Obj)} {σ : St} {H : Hp} {s : Shared} {Q : VK} {us : List Value} {vs : List V} (F : FnOk X.prog X.w X.K X.mg X.base CX k f fd ps sp) (hr : Room k X.A) (hb : Binds X.K fd ps ds) (hd : Vals dvs ds) (hx : Passes CX X E)
    (I : Inv X pins σ H s) (r : Vals vs us) (h : sp (vs ++ dvs) H Q E) : wpAny (model X.prog X.w) X.A (call (.ref f) us) (EP X pins σ Q) X.xe s := by
  have r2 : Vals (vs ++ dvs) (us ++ ds) := r.append hd
  have hl : (us ++ ds).length = ps.length := by rw [← r2.length]; exact F.len _ _ _ _ h
  refine wpAny_call (codeAny_mono (F.run X.A X.stack s H ⟨us, []⟩ (us ++ ds) (vs ++ dvs) Q E hr I.env0 (hb s us I.kIn hl) r2 h) fun r s' hq => ?_)
  cases r with
  | error e => exact hx pins σ H s e s' I hq
  | ok fl =>
    cases fl with
    | ret u => exact I.after hq
    | next => exact False.elim hq
    | brk => exact False.elim hq
    | cont => exact False.elim hq

theorem pe_call (F : FnOk X.prog X.w X.K X.mg X.base CX k f fd ps sp) (hr : Room k X.A) (hg : Gl X x) (hm : X.mg x = some (.ref f)) (hk : PySem.W.keepIn X.K (.ref f) = true) (hb : Binds X.K fd ps ds) (hd : Vals dvs ds) (hx : Passes CX X E)
    (ha : PA X (e :: es) t) (hdb : (x == ("__debug__" : Str)) = false := by decide) (he : starEach (e :: es) X.env = (false, eval e X.env) :: starEach es X.env := by rfl) (hpl : (backTo pos (starEach es X.env)).any (·.1) = false := by rfl) :
    PE X (.Call (.Name x p) (e :: es) [] pos) (tCall sp dvs E t) := by
  intro pins s σ H Q I h
  refine wpAny_Call_Name_kw (ld_glob I hg hm ?_ hdb)
  refine PySem.W.callWith_K (h₀ := X.base) I.ok.mod.kin hk (thn (ha pos pins s σ H _ I h) fun us s1 ⟨vs, H1, I1, r, q⟩ => ⟨I1.kIn, ?_⟩) he hpl
  exact run_fn F hr hb hd hx I1 r q
end

section
variable {X : Cx} {CX : CXT} {k : Nat} {f C : Addr} {fd : FuncData} {ps ks : List Str} {sp : Sp} {E : XK} {x m : Str} {p pos apos kpos : Pos} {e o : Expr} {es : List Expr} {kws : List Keyword} {te ta : TE} {t tk : TA} {nm : Option Str}
variable {g : List Value → List Value → List Value} {gV : List V → List V → List V}
end

structure FnScope (N P : List Str) (sc : Scope) : Prop where
  kind : sc.kind = .function
  co : sc.isCoroutine = false
  gen : sc.isGenerator = false
  nd : N.Nodup
  pre : N.take P.length = P
  par : ∀ x ∈ P, sc.names.lookup x = some .local ∨ sc.names.lookup x = some .cell
  nofree : ∀ y ∈ sc.names, y.2 ≠ .free

theorem bindL_out {kindOf : Str → Option NameKind} {x : Str} : ∀ {binds : List (Str × Value)} {m : Str → Option Value}, (∀ v, (x, v) ∉ binds) → bindL kindOf binds m x = m x
  | [], _, _ => rfl
  | (n, v) :: r, m, h => by
    unfold bindL
    rw [bindL_out fun w hw => h w (List.mem_cons_of_mem _ hw)]
    split
    · have : x ≠ n := by rintro rfl; exact h v List.mem_cons_self
      simp [this]
    · rfl
theorem bindC_out {kindOf : Str → Option NameKind} {x : Str} : ∀ {binds : List (Str × Value)} {m : Str → Option Value}, (∀ v, (x, v) ∉ binds) → bindC kindOf binds m x = m x
  | [], _, _ => rfl
  | (n, v) :: r, m, h => by
    unfold bindC
    rw [bindC_out fun w hw => h w (List.mem_cons_of_mem _ hw)]
    split
    · rfl
    · have : x ≠ n := by rintro rfl; exact h v List.mem_cons_self
      simp [this]
theorem bindL_get {kindOf : Str → Option NameKind} {x : Str} {v : Value} : ∀ {P : List Str} {vs : List Value} {i : Nat} {m : Str → Option Value}, P.Nodup → P[i]? = some x → vs[i]? = some v → kindOf x = some .local →
    bindL kindOf (P.zip vs) m x = some v
  | [], _, _, _, _, h, _, _ => by simp at h
  | _ :: _, [], _, _, _, _, h, _ => by simp at h
  | p :: P, w :: vs, 0, m, nd, h1, h2, hk => by
    simp at h1 h2; subst h1; subst h2
    show bindL kindOf ((p, w) :: P.zip vs) m p = _
    unfold bindL
    rw [bindL_out fun v hv => (List.nodup_cons.mp nd).1 (List.of_mem_zip hv).1, if_pos hk]
    simp
  | p :: P, w :: vs, i + 1, m, nd, h1, h2, hk => by
    show bindL kindOf ((p, w) :: P.zip vs) m x = _
    unfold bindL
    exact bindL_get (i := i) (List.nodup_cons.mp nd).2 (by simpa using h1) (by simpa using h2) hk
theorem bindC_get {kindOf : Str → Option NameKind} {x : Str} {v : Value} : ∀ {P : List Str} {vs : List Value} {i : Nat} {m : Str → Option Value}, P.Nodup → P[i]? = some x → vs[i]? = some v → kindOf x ≠ some .local →
    bindC kindOf (P.zip vs) m x = some v
  | [], _, _, _, _, h, _, _ => by simp at h
  | _ :: _, [], _, _, _, _, h, _ => by simp at h
  | p :: P, w :: vs, 0, m, nd, h1, h2, hk => by
    simp at h1 h2; subst h1; subst h2
    show bindC kindOf ((p, w) :: P.zip vs) m p = _
    unfold bindC
    rw [bindC_out fun v hv => (List.nodup_cons.mp nd).1 (List.of_mem_zip hv).1, if_neg hk]
    simp
  | p :: P, w :: vs, i + 1, m, nd, h1, h2, hk => by
    show bindC kindOf ((p, w) :: P.zip vs) m x = _
    unfold bindC
    exact bindC_get (i := i) (List.nodup_cons.mp nd).2 (by simpa using h1) (by simpa using h2) hk

noncomputable def start (N : List Str) (vs : List V) : St := vs.map some ++ List.replicate (N.length - vs.length) none

noncomputable def cxOf (CX : CXT) (P : Program) (w : World) (K : PySem.W.Frag) (mg : Str → Option Value) (base : Heap) (N : List Str) (qual : Str) (scope : Scope) (f : Addr) (cd : Value) (A : Around) (outer : List Env) (s : Shared) (H : Hp) (E : XK) : Cx where
  prog := P
  w := w
  K := K
  mg := mg
  base := base
  A := A.deeper (envOfC qual scope s.heap.objs.size f cd)
  N := N
  s₀ := s
  H₀ := H
  env := envOfC qual scope s.heap.objs.size f cd
  outer := outer
  stack := envOfC qual scope s.heap.objs.size f cd :: outer
  ex := []
  calm := true
  fn := fun _ => true
  pn := []
  xe := fun e s' => wpAny (model P w) (A.deeper (envOfC qual scope s.heap.objs.size f cd)) (leaving (envOfC qual scope s.heap.objs.size f cd) e) (fun _ s'' => CX outer H s E e s'') (fun e' s'' => CX outer H s E e' s'') s'

theorem cell_has {sc : Scope} {n : Nat} {x : Str} (h : sc.names.lookup x = some .cell) : ∃ c, (cellsFrom n sc.names []).lookup x = some c := by
  have q := PySem.W.cellsFrom_some sc.names n [] (.inl h)
  exact Option.isSome_iff_exists.mp q

theorem inv_start {CX : CXT} {P : Program} {w : World} {K : PySem.W.Frag} {mg : Str → Option Value} {base : Heap} {N ps : List Str} {qual : Str} {scope : Scope} {f : Addr} {cd : Value} {A : Around} {outer : List Env} {s s1 : Shared} {H : Hp} {E : XK} {us : List Value} {vs : List V}
    (S : FnScope N ps scope) (hd : A.handled = none) (e0 : Env0 P w K mg base A outer s H) (hl : vs.length = ps.length) (r : Vals vs us)
    (x : InCallC s s.heap.objs.size (bindL (envOfC qual scope s.heap.objs.size f cd).kindOf (ps.zip us) fun _ => none) (cellsFrom (s.heap.objs.size + 1) scope.names []) (bindC (envOfC qual scope s.heap.objs.size f cd).kindOf (ps.zip us) fun _ => none) s1) :
    Inv (cxOf CX P w K mg base N qual scope f cd A outer s H E) [] (start N vs) H s1 := by
  have hpl : ps.length ≤ N.length := by have := congrArg List.length S.pre; rw [List.length_take] at this; omega
  obtain ⟨h1, tk, rfl, hk⟩ := x.done
  have noA : ∀ b : Addr, b ∉ (cxOf CX P w K mg base N qual scope f cd A outer s H E).ex := fun b z => absurd (show b ∈ ([] : List Addr) from z) (by simp)
  refine ⟨⟨e0.mod, S.kind, rfl, rfl, Nat.le_refl _, fun y z c h1 h2 => ?_, fun y hy => ?_, fun y c _ h => ?_, fun _ => hd, Around.frames_deeper e0.frames, .inr ⟨rfl, rfl⟩, fun b z => absurd z (noA b), e0.bs, e0.bsz, fun b _ _ => noA b, fun b z => absurd z (noA b), e0.funs, e0.frf⟩,
    rfl, e0.bare, Un.kept hk, ⟨_, x.toInCall.ns, fun i y v h1 h2 h3 => ?_⟩, fun y c h => ⟨_, x.cell y c h⟩, e0.hok.fresh (Nat.le_refl _), fun y c h => ?_, fun p hp => absurd (show p ∈ ([] : List (Addr × Obj)) from hp) (by simp), e0.hok.kept hk, ?_⟩
  · exact name_of_addr x.apart (PySem.mem_of_lookup h1) (PySem.mem_of_lookup h2)
  · have hy : scope.names.lookup y = some .cell ∨ scope.names.lookup y = some .free := hy
    rcases hy with hy | hy
    · exact cell_has hy
    · exact absurd rfl (S.nofree _ (PySem.mem_of_lookup hy))
  · exact Nat.le_of_lt (x.above y c (PySem.mem_of_lookup h))
  · have hi : i < vs.length := by
      unfold start at h2
      by_cases hi : i < vs.length
      · exact hi
      · rw [List.getElem?_append_right (by simpa using hi)] at h2
        rw [List.getElem?_replicate] at h2
        split at h2 <;> cases h2
    have ha : vs[i]? = some v := by
      unfold start at h2
      rw [List.getElem?_append_left (by simpa using hi), List.getElem?_map] at h2
      cases e : vs[i]? with
      | none => rw [e] at h2; cases h2
      | some a => rw [e] at h2; cases h2; rfl
    obtain ⟨u, hu, rv⟩ := r.get ha
    have hp : ps[i]? = some y := by
      rw [← S.pre, List.getElem?_take_of_lt (by omega)]; exact h1
    have ndP : ps.Nodup := by rw [← S.pre]; exact S.nd.sublist (List.take_sublist _ _)
    refine ⟨u, rv, ?_⟩
    rcases S.par y (List.mem_of_getElem? hp) with k | k
    · exact .inl ⟨k, bindL_get ndP hp hu k⟩
    · obtain ⟨c, e⟩ := cell_has (n := s.heap.objs.size + 1) k
      refine .inr ⟨.inl k, c, e, ?_⟩
      have q := x.cell y c e
      rw [bindC_get ndP hp hu (by show scope.names.lookup y ≠ _; rw [k]; decide)] at q
      exact q
  · exact e0.hok.fresh (Nat.le_of_lt (x.above y c (PySem.mem_of_lookup h)))
  · unfold start
    show _ = N.length
    rw [List.length_append, List.length_map, List.length_replicate]
    omega

theorem fn_of {CX : CXT} {P : Program} {w : World} {K : PySem.W.Frag} {mg : Str → Option Value} {base : Heap} {k : Nat} {f : Addr} {name qual : Str} {params : Arguments} {body : List Stmt} {scope : Scope} {dV kV doc pm cdv ct oc : Value} {an od : Option Addr}
    {osl : Array (Option Value)} {N ps : List Str} {sp : Sp} (lk : K.lookup f = some ⟨oc, od, .func (PySem.W.fnOf name qual params body scope dV kV doc pm an cdv ct), osl⟩) (hcd : PySem.W.codeIn K cdv qual = true) (S : FnScope N ps scope)
    (len : ∀ vs H Q E, sp vs H Q E → vs.length = ps.length)
    (hbody : ∀ (A : Around) (outer : List Env) (s : Shared) (H : Hp) (vs : List V) (Q : VK) (E : XK), Room k (A.deeper (envOfC qual scope s.heap.objs.size f cdv)) → sp vs H Q E →
      ∃ t, PSs (cxOf CX P w K mg base N qual scope f cdv A outer s H E) body t ∧ t { nx := fun _ H' => Q .non H', rt := Q } (start N vs) H) :
    FnOk P w K mg base CX (k + 1) f (PySem.W.fnOf name qual params body scope dV kV doc pm an cdv ct) ps sp := by
  refine ⟨len, fun A outer s H args us vs Q E hr e0 hb r hsp => ?_⟩
  have hl := len _ _ _ _ hsp
  have KX : K.In s.heap := e0.mod.kin.keeps fun b o e => (e0.bs b o e).1
  have lim : s.heap.NoLimit := e0.mod.nolimit.keeps fun b o e => (e0.bs b o e).1
  have hkind : ∀ y ∈ ps.zip us, scope.names.lookup y.1 = some .local ∨ (scope.names.lookup y.1 = some .cell ∧ ((cellsFrom (s.heap.objs.size + 1) scope.names []).lookup y.1).isSome = true) := fun ⟨n, v⟩ hy => by
    rcases S.par n (List.of_mem_zip hy).1 with q | q
    · exact .inl q
    · exact .inr ⟨q, PySem.W.cellsFrom_some _ _ _ (.inl q)⟩
  refine codeAny_call_function hr.depth (KX _ _ lk) rfl S.co S.gen rfl (PySem.W.codeRec_of KX hcd) (hb _ _ _ _ ?_)
  refine wpAny_newFunctionEnv_cells S.kind hkind fun env he s1 x => ?_
  subst he
  refine ⟨lim.keeps x.toInCall.keep, codeAny_func ?_⟩
  obtain ⟨t, ht, hq⟩ := hbody A outer s H vs Q E (hr.deeper _) hsp
  have I : Inv (cxOf CX P w K mg base N qual scope f cdv A outer s H E) [] (start N vs) H s1 := inv_start S hr.hd e0 hl r x
  refine wpAny_mono (ht [] s1 (start N vs) H _ I hq) (fun fl s' hs => ?_) fun e s' hs => hs
  have fin : ∀ {σ' : St} {H' : Hp} {v : V} {u : Value}, Inv (cxOf CX P w K mg base N qual scope f cdv A outer s H E) [] σ' H' s' → RelV v u → Q v H' → CE outer P w H s Q u s' :=
    fun {σ' H' v u} J rv q => ⟨v, H', J.os, J.bare, J.base, J.hok, rv, q⟩
  cases fl with
  | ret u =>
    obtain ⟨v, σ', H', J, rv, q⟩ := hs
    exact fin J rv q
  | next =>
    obtain ⟨σ', H', J, q⟩ := hs
    exact fin (v := V.non) (u := Value.none) J rfl q
  | brk =>
    obtain ⟨_, _, _, q⟩ := hs
    exact False.elim q
  | cont =>
    obtain ⟨_, _, _, q⟩ := hs
    exact False.elim q
end L2

namespace L2
open PySem PySem.Spec PyProof.Rows
section
variable {X : Cx} {x : Str} {p pos : Pos} {e : Expr} {es : List Expr} {t : TA} {id T : String} {r : List V → Hp → VK → Prop}

noncomputable def tCB (r : List V → Hp → VK → Prop) (t : TA) : TE := fun σ H Q => t σ H fun vs H1 => r vs H1 Q
theorem pe_callB (hc : CallR X (.builtin id) r) (hg : Gl X x) (hm : X.mg x = none) (hv : bootBuiltins x = some (.builtin id)) (ha : PA X (e :: es) t) (hn : x ≠ "__name__" := by decide) (hdb : (x == ("__debug__" : Str)) = false := by decide)
    (he : starEach (e :: es) X.env = (false, eval e X.env) :: starEach es X.env := by rfl) (hpl : (backTo pos (starEach es X.env)).any (·.1) = false := by rfl) : PE X (.Call (.Name x p) (e :: es) [] pos) (tCB r t) := by
  intro pins s σ H Q I h
  refine wpAny_Call_Name_kw (ld_blt I hg hm hv ?_ hn hdb)
  exact PyProof.Rows.callWith_builtin1 (thn (ha pos pins s σ H _ I h) fun us s1 ⟨vs, H1, I1, r1, q1⟩ => hc pins s1 σ H1 vs us Q I1 r1 q1) he hpl
theorem pe_callTy (hc : CallR X (.type T) r) (hg : Gl X x) (hm : X.mg x = none) (hv : bootBuiltins x = some (.type T)) (ha : PA X (e :: es) t) (hn : x ≠ "__name__" := by decide) (hdb : (x == ("__debug__" : Str)) = false := by decide)
    (he : starEach (e :: es) X.env = (false, eval e X.env) :: starEach es X.env := by rfl) (hpl : (backTo pos (starEach es X.env)).any (·.1) = false := by rfl) : PE X (.Call (.Name x p) (e :: es) [] pos) (tCB r t) := by
  intro pins s σ H Q I h
  refine wpAny_Call_Name_kw (ld_blt I hg hm hv ?_ hn hdb)
  exact PyProof.Rows.callWith_type1 (thn (ha pos pins s σ H _ I h) fun us s1 ⟨vs, H1, I1, r1, q1⟩ => hc pins s1 σ H1 vs us Q I1 r1 q1) he hpl
end
end L2

namespace HT
open PySem PyProof.Rows

section
open PySem.SeqAt
open PySem.AutoSeq1 (wpAny_loadPart')
open PySem.MeetsSeq PySem.MeetsSeq2 PySem.MeetsSeq3

end

section
variable {prog : Program} {w : World} {A : Around} {E : Value → Shared → Prop} {s : Shared}

noncomputable def sIx (n d : Nat) : Option Int → Nat
  | none => d
  | some v => if v < 0 then (v + (n : Int)).toNat else min v.toNat n
theorem sIx_le (n d : Nat) (hd : d ≤ n) (o : Option Int) : sIx n d o ≤ n := by
  cases o with
  | none => exact hd
  | some v =>
    show (if v < 0 then (v + (n : Int)).toNat else min v.toNat n) ≤ n
    by_cases hv : v < 0
    · rw [if_pos hv]; omega
    · rw [if_neg hv]; exact Nat.min_le_right _ _
theorem clip_eq (v : Int) (n d : Nat) : (if v < 0 then max (v + (n : Int)) 0 else min v (n : Int)) = ((sIx n d (some v) : Nat) : Int) := by
  show (if v < 0 then max (v + (n : Int)) 0 else min v (n : Int)) = (((if v < 0 then (v + (n : Int)).toNat else min v.toNat n) : Nat) : Int)
  by_cases hv : v < 0
  · simp only [if_pos hv]; omega
  · simp only [if_neg hv]; omega
theorem adjust_gen (lo hi : Option Int) (n : Nat) : Builtin.Slice.sliceAdjust lo hi 1 (n : Int) = (((sIx n 0 lo : Nat) : Int), ((sIx n n hi : Nat) : Int)) := by
  have h1 : ¬ ((1 : Int) < 0) := by omega
  unfold Builtin.Slice.sliceAdjust
  simp only [h1, if_false]
  refine Prod.ext ?_ ?_
  · cases lo with
    | none => rfl
    | some v => exact clip_eq v n 0
  · cases hi with
    | none => rfl
    | some v => exact clip_eq v n n
theorem places_gen (i j : Nat) : Builtin.Slice.slicePlaces (i : Int) (j : Int) 1 = j - i := by
  unfold Builtin.Slice.slicePlaces
  have h1 : (1 : Int) > 0 := by omega
  simp only [h1, if_true, Int.ediv_one]
  split <;> omega
theorem slicePart_ {v : Value} {o : Option Int} {Q : Option Int → Shared → Prop} (p : IsPart v o) (h : Q o s) : wpAny (model prog w) A (Builtin.Slice.slicePartIndex v) Q E s := by
  cases p with
  | none => exact slicePart_none h
  | int i t => exact slicePart_int h
theorem sliceApplied_gen {sl : Addr} {vl vu : Value} {lo hi : Option Int} {n : Nat} {Q : Int × Int × Nat → Shared → Prop} (hs : s.heap.IsSliceOf sl vl vu .none) (pl : IsPart vl lo) (pu : IsPart vu hi)
    (h : Q (((sIx n 0 lo : Nat) : Int), 1, sIx n n hi - sIx n 0 lo) s) : wpAny (model prog w) A (Builtin.Slice.sliceApplied (.ref sl) (pure (n : Int))) Q E s := by
  obtain ⟨os, hos, hcs, hds⟩ := id hs
  unfold Builtin.Slice.sliceApplied Builtin.Slice.sliceFields
  refine wpAny_bind (wpAny_bind (wpAny_field hos hds (x := vl) rfl (wpAny_bind (wpAny_field hos hds (x := vu) rfl (wpAny_bind (wpAny_field hos hds (x := .none) rfl (wpAny_pure ?_)))))))
  refine wpAny_bind (slicePart_none ?_)
  show wpAny _ _ (if ((1 : Int) == 0) = true then _ else _) _ _ s
  rw [if_neg (by decide)]
  refine wpAny_bind (slicePart_ pl (wpAny_bind (slicePart_ pu (wpAny_bind (wpAny_pure ?_)))))
  show wpAny _ _ (match Builtin.Slice.sliceAdjust lo hi 1 (n : Int) with | (lo, hi) => pure (lo, (1 : Int), Builtin.Slice.slicePlaces lo hi 1)) _ _ s
  rw [adjust_gen lo hi n]
  show wpAny _ _ (pure (((sIx n 0 lo : Nat) : Int), (1 : Int), Builtin.Slice.slicePlaces ((sIx n 0 lo : Nat) : Int) ((sIx n n hi : Nat) : Int) 1)) _ _ s
  rw [places_gen]
  exact wpAny_pure h
theorem pick_gen (xs : Array Value) (i k : Nat) : ((List.range k).filterMap fun (m : Nat) => xs[((i : Int) + (m : Int) * 1).toNat]?).toArray = ((xs.toList.drop i).take k).toArray := by
  have e : (fun (m : Nat) => xs[((i : Int) + (m : Int) * 1).toNat]?) = fun m => xs[i + m]? := by
    funext m
    have : ((i : Int) + (m : Int) * 1).toNat = i + m := by omega
    rw [this]
  rw [e]
  have := pick_run xs i k
  rw [List.filterMap_map] at this
  have e2 : ((fun x => xs[x]?) ∘ fun x => i + x) = fun m => xs[i + m]? := rfl
  rw [e2] at this
  rw [this]

theorem getItem_tuple_cut {t sl : Addr} {items : Array Value} {vl vu : Value} {lo hi : Option Int} {Q : Value → Shared → Prop} (ht : IsTup s.heap t items) (hs : s.heap.IsSliceOf sl vl vu .none) (pl : IsPart vl lo) (pu : IsPart vu hi)
    (hw : ¬ (sIx items.size 0 lo = 0 ∧ sIx items.size items.size hi = items.size))
    (h : Q (.ref s.heap.objs.size) { s with heap := s.heap.push { cls := .type "tuple", data := .seq ((items.toList.drop (sIx items.size 0 lo)).take (sIx items.size items.size hi - sIx items.size 0 lo)).toArray } })
    (hsz : items.size ≤ sizeLine) : wpAny (model prog w) A (getItem (.ref t) (.ref sl)) Q E s := by
  have htake : sizeOk (.seq ((items.toList.drop (sIx items.size 0 lo)).take (sIx items.size items.size hi - sIx items.size 0 lo)).toArray) := by
    show ((items.toList.drop (sIx items.size 0 lo)).take (sIx items.size items.size hi - sIx items.size 0 lo)).toArray.size ≤ sizeLine
    rw [List.size_toArray, List.length_take, List.length_drop, Array.length_toList]
    omega
  have hj : sIx items.size items.size hi ≤ items.size := sIx_le _ _ (Nat.le_refl _) hi
  obtain ⟨os, hos, hcs, hds⟩ := id hs
  have hTs : s.TypeIs (.ref sl) "slice" := ⟨os, hos, hcs⟩
  unfold getItem
  try with_reducible refine wpAny_holding ?_
  first | refine wpAny_bind (wpAny_pure ?_) | skip
  refine wpAny_bind (wpAny_sequenceKey ht.typeIs (by decide) ?_)
  refine wpAny_bind (wpAny_callSpecial?_slot (name := Str.ofString "__getitem__") ht.typeIs PyProof.Rows.slot_tuple_getitem
    (wpAny_call_entry PyProof.Rows.slot_tuple_getitem ht.typeIs entry_tuple_getitem ?_ (args_tuple_getitem _ _)))
  show wpAny _ _ (Builtin.Tuple.tupleItemsOf (.ref t) >>= _) _ _ s
  refine wpAny_bind (tupleItemsOf_ ht ?_)
  refine wpAny_bind (wpAny_typeOf hTs ?_)
  rw [if_pos (by decide)]
  refine wpAny_bind (sliceApplied_gen hs pl pu ?_)
  have hno : ¬ ((((sIx items.size 0 lo : Nat) : Int) == 0 && (1 : Int) == 1 && (sIx items.size items.size hi - sIx items.size 0 lo) == items.size) = true) := by
    intro q
    rw [Bool.and_eq_true, Bool.and_eq_true] at q
    have q1 : ((sIx items.size 0 lo : Nat) : Int) = 0 := eq_of_beq q.1.1
    have q2 : sIx items.size items.size hi - sIx items.size 0 lo = items.size := eq_of_beq q.2
    exact hw ⟨by omega, by omega⟩
  show wpAny _ _ (if (((sIx items.size 0 lo : Nat) : Int) == 0 && (1 : Int) == 1 && (sIx items.size items.size hi - sIx items.size 0 lo) == items.size) = true then _ else _) _ _ s
  rw [if_neg hno, pick_gen]
  first
    | exact wpAny_bind (m := Builtin.Tuple.tupleExact _) (wpAny_newObj_type (wpAny_pure ⟨_, rfl, wpAny_pure h⟩) htake)
    | exact wpAny_bind (m := Builtin.Tuple.tupleExact _) (wpAny_newObj_type (wpAny_bind (wpAny_pure (wpAny_pure ⟨_, rfl, wpAny_pure h⟩))) htake)
    | exact wpAny_bind (wpAny_bind (m := Builtin.Tuple.tupleExact _) (wpAny_newObj_type (wpAny_pure (wpAny_pure ⟨_, rfl, wpAny_pure h⟩)) htake))
    | exact wpAny_bind (wpAny_bind (m := Builtin.Tuple.tupleExact _) (wpAny_newObj_type (wpAny_pure ⟨_, rfl, wpAny_pure h⟩) htake))
end
end HT

namespace L2
open PySem PySem.Spec PyProof.Rows

noncomputable abbrev TO := St → Hp → (Option Int → Hp → Prop) → Prop
noncomputable def PO (X : Cx) (e : Option Expr) (t : TO) : Prop :=
  ∀ (pins : List (Addr × Obj)) (s : Shared) (σ : St) (H : Hp) (Q : Option Int → Hp → Prop), Inv X pins σ H s → t σ H Q →
    wpAny (model X.prog X.w) X.A (evalPart e X.env) (fun u s' => ∃ o H', Inv X pins σ H' s' ∧ IsPart u o ∧ Q o H') X.xe s
noncomputable def tNoPart : TO := fun _ H Q => Q none H
noncomputable def tPart (t : TE) : TO := fun σ H Q => t σ H fun x H1 => ∃ i, x = .int i ∧ Q (some i) H1

section
variable {X : Cx} {e : Expr} {te : TE} {lo hi : Option Expr} {tl th : TO} {pos p2 : Pos}

theorem po_none : PO X none tNoPart := by
  intro pins s σ H Q I h
  rw [evalPart_none]
  exact wpAny_pure ⟨none, H, I, .none, h⟩
theorem po_some (h : PE X e te) : PO X (some e) (tPart te) := by
  intro pins s σ H Q I hw
  rw [evalPart_some]
  refine thn (h pins s σ H _ I hw) fun u s1 zz => ?_
  obtain ⟨x, H1, I1, r1, q1⟩ := zz
  obtain ⟨i, rfl, q⟩ := q1
  obtain ⟨t, rfl⟩ := r1
  exact ⟨some i, H1, I1, .int i t, q⟩

noncomputable def SlR (X : Cx) (r : V → Option Int → Option Int → Hp → VK → Prop) : Prop :=
  ∀ (pins : List (Addr × Obj)) (s : Shared) (σ : St) (H : Hp) (x : V) (v vl vu : Value) (lo hi : Option Int) (sl : Addr) (Q : VK), Inv X pins σ H s → RelV x v → s.heap.IsSliceOf sl vl vu .none → IsPart vl lo → IsPart vu hi → r x lo hi H Q →
    ∃ T id, typeLookup (.type T) "__getitem__" = pure (some (.builtin id)) ∧ s.TypeIs v T ∧ wpAny (model X.prog X.w) X.A (getItem v (.ref sl)) (EP X pins σ Q) X.xe s
theorem SlR.or {r r' : V → Option Int → Option Int → Hp → VK → Prop} (h : SlR X r) (h' : SlR X r') : SlR X (fun x lo hi H Q => r x lo hi H Q ∨ r' x lo hi H Q) := by
  intro pins s σ H x v vl vu lo hi sl Q I rx hs pl pu q
  rcases q with q | q
  · exact h pins s σ H x v vl vu lo hi sl Q I rx hs pl pu q
  · exact h' pins s σ H x v vl vu lo hi sl Q I rx hs pl pu q
noncomputable def tSl (r : V → Option Int → Option Int → Hp → VK → Prop) (te : TE) (tl th : TO) : TE := fun σ H Q => te σ H fun x H1 => tl σ H1 fun l H2 => th σ H2 fun u H3 => r x l u H3 Q
theorem pe_slice {r : V → Option Int → Option Int → Hp → VK → Prop} (hr : SlR X r) (he : PE X e te) (hl : PO X lo tl) (hu : PO X hi th) : PE X (.Subscript e (.Slice lo hi none p2) pos) (tSl r te tl th) := by
  intro pins s σ H Q I h
  refine Subscript_ (thn (he pins s σ H _ I h) fun v s1 zz => ?_)
  obtain ⟨x, H1, I1, r1, q1⟩ := zz
  refine wpAny_Slice (thn (hl pins s1 σ H1 _ I1 q1) fun vl s2 ⟨l, H2, I2, pl, q2⟩ => thn (hu pins s2 σ H2 _ I2 q2) fun vu s3 zz => ?_)
  obtain ⟨u, H3, I3, pu, q3⟩ := zz
  rw [evalPart_none]
  refine wpAny_pure ?_
  have I4 : Inv X pins σ H3 { s3 with heap := s3.heap.push { cls := .type "slice", data := .fields #[vl, vu, .none] } } := I3.kept (t' := s3.toks) fun b ob q => Heap.get?_push_of_some _ q
  obtain ⟨T, id, hT, ht, hg⟩ := hr pins { s3 with heap := s3.heap.push { cls := .type "slice", data := .fields #[vl, vu, .none] } } σ H3 x v vl vu l u s3.heap.objs.size Q I4 r1 (Heap.IsSliceOf.new ..) pl pu q3
  show wpAny (model X.prog X.w) X.A (subscriptTail e (.Slice lo hi none p2) v (.ref s3.heap.objs.size)) (EP X pins σ Q) X.xe { s3 with heap := s3.heap.push { cls := .type "slice", data := .fields #[vl, vu, .none] } }
  exact tail_any (ops := [.ref s3.heap.objs.size, v]) ht hT hg (by with_unfolding_all rfl)

noncomputable def cutV (xs : List V) (lo hi : Option Int) : List V := (xs.drop (HT.sIx xs.length 0 lo)).take (HT.sIx xs.length xs.length hi - HT.sIx xs.length 0 lo)
theorem cutV_length (xs : List V) (lo hi : Option Int) : (cutV xs lo hi).length ≤ xs.length := by
  unfold cutV
  rw [List.length_take, List.length_drop]
  omega
noncomputable def rSlT (K : PySem.W.Frag) : V → Option Int → Option Int → Hp → VK → Prop := fun x lo hi H Q => ∃ a xs, x = .ref a ∧ SqT K H a xs ∧
  ¬ (HT.sIx xs.length 0 lo = 0 ∧ HT.sIx xs.length xs.length hi = xs.length) ∧ ∀ p, H p = none → Q (.ref p) (upd H p (.tup (cutV xs lo hi)))
theorem sl_tup : SlR X (rSlT X.K) := by
  intro pins s σ H x v vl vu lo hi sl Q I rx hs pl pu h
  obtain ⟨a, xs, rfl, hx, hw, q⟩ := h
  cases rx
  obtain ⟨its, r, ht, hz⟩ := I.tuple hx
  have hlen : its.toArray.size = xs.length := by rw [List.size_toArray]; exact r.length.symm
  refine ⟨"tuple", _, PyProof.Rows.slot_tuple_getitem.lookup, ht.typeIs, ?_⟩
  refine HT.getItem_tuple_cut ht hs pl pu (by rw [hlen]; exact hw) ?_ (by rw [hlen]; exact hz)
  rw [hlen]
  refine ⟨.ref s.heap.objs.size, _, I.laid (t' := s.toks) (o := .tup (cutV xs lo hi)) (fun b ob q => Heap.get?_push_of_some _ q) (Nat.le_refl _) ?_, rfl, q _ (I.hok.fresh (Nat.le_refl _))⟩
  exact ⟨Nat.le_trans (cutV_length xs lo hi) hz, _, (r.drop (HT.sIx xs.length 0 lo)).take (HT.sIx xs.length xs.length hi - HT.sIx xs.length 0 lo), IsTup.new _ _⟩

end
end L2

namespace L2
open PySem PySem.Spec PyProof.Rows

noncomputable def ixN (n : Nat) (i : Int) : Option Nat := if 0 ≤ i then (if i < n then some i.toNat else none) else if -(n : Int) ≤ i then some (i + n).toNat else none
noncomputable def atI {α : Type} (xs : List α) (i : Int) : Option α := (ixN xs.length i).bind fun j => xs[j]?
theorem ixN_seq {n : Nat} {i : Int} {j : Nat} (h : ixN n i = some j) : seqIndex? i n = some j ∧ j < n ∧ -(n : Int) ≤ i ∧ i < n := by
  unfold ixN at h
  by_cases h0 : 0 ≤ i
  · rw [if_pos h0] at h
    by_cases h1 : i < n
    · rw [if_pos h1] at h
      have e : i.toNat = j := Option.some.inj h
      exact ⟨by rw [seqIndex_of h0 h1, e], by omega, by omega, h1⟩
    · rw [if_neg h1] at h; cases h
  · rw [if_neg h0] at h
    by_cases h1 : -(n : Int) ≤ i
    · rw [if_pos h1] at h
      have e : (i + n).toNat = j := Option.some.inj h
      exact ⟨by rw [seqIndex_neg (by omega) h1, e], by omega, h1, by omega⟩
    · rw [if_neg h1] at h; cases h
theorem atI_get {α : Type} {xs : List α} {i : Int} {v : α} (h : atI xs i = some v) : ∃ j, seqIndex? i xs.length = some j ∧ xs[j]? = some v ∧ j < xs.length ∧ -(xs.length : Int) ≤ i ∧ i < xs.length := by
  unfold atI at h
  cases e : ixN xs.length i with
  | none => rw [e] at h; cases h
  | some j =>
    rw [e] at h
    obtain ⟨h1, h2, h3, h4⟩ := ixN_seq e
    exact ⟨j, h1, h, h2, h3, h4⟩
noncomputable def PlainIx (b : Expr) : Prop := ∀ o i, subscripted b false o i = operate [o, i] (getItem o i)
noncomputable def IxR (X : Cx) (r : R2) : Prop :=
  ∀ (value slice : Expr) (pins : List (Addr × Obj)) (s : Shared) (σ : St) (H : Hp) (x y : V) (v u : Value) (Q : VK), Inv X pins σ H s → RelV x v → RelV y u → r x y H Q →
    subscripted slice false v u = operate [v, u] (getItem v u) → wpAny (model X.prog X.w) X.A (subscriptTail value slice v u) (EP X pins σ Q) X.xe s
noncomputable def MtR (X : Cx) (id : String) (r : V → List V → Hp → VK → Prop) : Prop :=
  ∀ (pins : List (Addr × Obj)) (s : Shared) (σ : St) (H : Hp) (x : V) (xs : List V) (v : Value) (us : List Value) (Q : VK), Inv X pins σ H s → RelV x v → Vals xs us → r x xs H Q →
    wpAny (model X.prog X.w) X.A (call (.builtin id) (v :: us)) (EP X pins σ Q) X.xe s
section
variable {X : Cx} {a b : Expr} {ta tb : TE} {pos : Pos}
theorem IxR.or {r r' : R2} (h : IxR X r) (h' : IxR X r') : IxR X (fun x y H Q => r x y H Q ∨ r' x y H Q) := by
  intro value slice pins s σ H x y v u Q I rx ry q hs
  rcases q with q | q
  · exact h value slice pins s σ H x y v u Q I rx ry q hs
  · exact h' value slice pins s σ H x y v u Q I rx ry q hs
theorem MtR.or {id : String} {r r' : V → List V → Hp → VK → Prop} (h : MtR X id r) (h' : MtR X id r') : MtR X id (fun x xs H Q => r x xs H Q ∨ r' x xs H Q) := by
  intro pins s σ H x xs v us Q I rx rs q
  rcases q with q | q
  · exact h pins s σ H x xs v us Q I rx rs q
  · exact h' pins s σ H x xs v us Q I rx rs q
theorem pe_ix {r : R2} (hr : IxR X r) (ha : PE X a ta) (hb : PE X b tb) (hs : PlainIx b) : PE X (.Subscript a b pos) (tOp r ta tb) := by
  intro pins s σ H Q I h
  exact Subscript_ (binT ha hb I h fun v u s2 x y H2 I2 rx ry q => hr a b pins s2 σ H2 x y v u Q I2 rx ry q (hs _ _))

noncomputable def rIxL (K : PySem.W.Frag) : R2 := fun x y H Q => ∃ p xs i v, x = .ref p ∧ y = .int i ∧ SqL K H p xs ∧ atI xs i = some v ∧ Q v H
noncomputable def rIxT (K : PySem.W.Frag) : R2 := fun x y H Q => ∃ p xs i v, x = .ref p ∧ y = .int i ∧ SqT K H p xs ∧ atI xs i = some v ∧ Q v H
theorem ix_list : IxR X (rIxL X.K) := by
  intro value slice pins s σ H x y v u Q I rx ry h hs
  obtain ⟨p, xs, i, z, rfl, rfl, hq, he, q⟩ := h
  cases rx
  obtain ⟨t, rfl⟩ := ry
  obtain ⟨its, r, pl, hz⟩ := I.list hq
  obtain ⟨j, h1, h2, h3, h4, h5⟩ := atI_get he
  obtain ⟨w, ew, rw'⟩ := r.get h2
  have hl := r.length
  have hn := line63
  have fin : EP X pins σ Q w s := ⟨z, H, I, rw', q⟩
  by_cases h0 : 0 ≤ i
  · have hj : i.toNat = j := by
      rw [seqIndex_of h0 h5] at h1
      exact Option.some.inj h1
    exact item_listR pl.isList h0 (by omega) (by rw [hj]; simpa using ew) fin hs
  · have hj : (i + (its.toArray.size : Int)).toNat = j := by
      rw [seqIndex_neg (by omega) h4] at h1
      rw [List.size_toArray, ← hl]
      exact Option.some.inj h1
    exact subscriptTail_builtinR (x := w) pl.isList.typeIs slot_list_getitem.lookup
      (wpAny_getItem_list_neg (Q := fun r s' => r = w ∧ EP X pins σ Q r s') pl.isList (by omega) (by rw [List.size_toArray] <;> omega) (by omega) (by rw [hj]; simpa using ew) ⟨rfl, fin⟩) hs
theorem ix_tup : IxR X (rIxT X.K) := by
  intro value slice pins s σ H x y v u Q I rx ry h hs
  obtain ⟨p, xs, i, z, rfl, rfl, hq, he, q⟩ := h
  cases rx
  obtain ⟨t, rfl⟩ := ry
  obtain ⟨its, r, pl, hz⟩ := I.tuple hq
  obtain ⟨j, h1, h2, h3, h4, h5⟩ := atI_get he
  obtain ⟨w, ew, rw'⟩ := r.get h2
  have hl := r.length
  have hn := line63
  have fin : EP X pins σ Q w s := ⟨z, H, I, rw', q⟩
  exact subscriptTail_builtinR (x := w) pl.typeIs slot_tuple_getitem.lookup
    (getItem_tuple (j := j) (Q := fun r s' => r = w ∧ EP X pins σ Q r s') pl (by omega) (by omega) (by rw [List.size_toArray, ← hl]; exact h1) (by simpa using ew) ⟨rfl, fin⟩) hs
theorem mapSeq_set (its : List Value) (n j : Nat) (u : Value) : Obj.mapSeq (·.setIfInBounds j u) { cls := .type "list", data := .seq its.toArray n } = { cls := .type "list", data := .seq (its.set j u).toArray n } := by
  simp [Obj.mapSeq]
theorem Inv.lst {pins : List (Addr × Obj)} {σ : St} {H : Hp} {s : Shared} {p : Addr} {xs : List V} (I : Inv X pins σ H s) (h : H p = some (.lst xs)) :
    ∃ (its : List Value) (n : Nat), Vals xs its ∧ s.heap.get? p = some { cls := .type "list", data := .seq its.toArray n } ∧ xs.length ≤ sizeLine := by
  obtain ⟨z, its, n, r, e⟩ := I.hok p _ h
  exact ⟨its, n, r, e, z⟩
theorem Inv.lstUpd {pins : List (Addr × Obj)} {σ : St} {H : Hp} {s : Shared} {p : Addr} {xs ys : List V} {its its' : List Value} {n n' : Nat} {f : Obj → Obj} (I : Inv X pins σ H s) (h : H p = some (.lst xs))
    (ho : s.heap.get? p = some { cls := .type "list", data := .seq its.toArray n }) (hf : f { cls := .type "list", data := .seq its.toArray n } = { cls := .type "list", data := .seq its'.toArray n' }) (r : Vals ys its') (hz : ys.length ≤ sizeLine) (t : Nat) :
    Inv X pins σ (upd H p (.lst ys)) { s with heap := s.heap.update p f, toks := t } := by
  have e : (s.heap.update p f).get? p = some { cls := .type "list", data := .seq its'.toArray n' } := by
    rw [Heap.get?_update_self f ho (by rw [hf] <;> rfl), hf]
  refine I.write (x := p) (e := p) (by rw [h]; trivial) (.inl rfl) (fun b u hb q => (Heap.get?_update_other _ _ (Ne.symm hb)).trans q) ⟨_, e⟩ ?_
  exact ⟨hz, its', n', r, e⟩
noncomputable def rSetL : V → V → V → Hp → (Hp → Prop) → Prop := fun o i v H Q => ∃ p xs k j, o = .ref p ∧ i = .int k ∧ H p = some (.lst xs) ∧ ixN xs.length k = some j ∧ Q (upd H p (.lst (xs.set j v)))
theorem set_list : PSet X rSetL := by
  intro pins s σ H o i v ov iv u Q I ro ri rv h
  obtain ⟨p, xs, k, j, rfl, rfl, hp, hj, q⟩ := h
  cases ro
  obtain ⟨t, rfl⟩ := ri
  obtain ⟨its, n, r, ho, hz⟩ := I.lst hp
  obtain ⟨h1, h2, h3, h4⟩ := ixN_seq hj
  have hl := r.length
  have hn := line63
  have I' : Inv X pins σ (upd H p (.lst (xs.set j v))) { s with heap := s.heap.update p (Obj.mapSeq (·.setIfInBounds j u)) } :=
    I.lstUpd hp ho (mapSeq_set its n j u) (r.set rv j) (by rw [List.length_set]; exact hz) s.toks
  by_cases h0 : 0 ≤ k
  · have hk : k.toNat = j := by
      rw [seqIndex_of h0 h4] at h1
      exact Option.some.inj h1
    exact PySem.W.ki_setAt ho h0 (by omega) (by rw [List.size_toArray, ← hl]; exact h4) (by rw [hk]; exact ⟨_, I', q⟩)
  · have hk : (k + (its.toArray.size : Int)).toNat = j := by
      rw [seqIndex_neg (by omega) h3] at h1
      rw [List.size_toArray, ← hl]
      exact Option.some.inj h1
    exact PySem.W.ki_setBack ho (by omega) (by rw [List.size_toArray, ← hl]; exact h3) (by omega) (by rw [hk]; exact ⟨_, I', q⟩)

theorem slice_bounds (lo hi : Option Int) (n : Nat) : (sliceBounds lo hi none n).1 = ((HT.sIx n 0 lo : Nat) : Int) ∧ (sliceBounds lo hi none n).2.1 = ((HT.sIx n n hi : Nat) : Int) ∧ (sliceBounds lo hi none n).2.2 = 1 := by
  refine ⟨?_, ?_, rfl⟩
  · cases lo with
    | none => simp [sliceBounds, HT.sIx]
    | some i =>
      simp only [sliceBounds, HT.sIx, Option.getD_none, show (1 : Int) > 0 by decide, if_true]
      by_cases h : i < 0
      · simp only [h, if_true] <;> omega
      · simp only [h, if_false] <;> omega
  · cases hi with
    | none => simp [sliceBounds, HT.sIx]
    | some i =>
      simp only [sliceBounds, HT.sIx, Option.getD_none, show (1 : Int) > 0 by decide, if_true]
      by_cases h : i < 0
      · simp only [h, if_true] <;> omega
      · simp only [h, if_false] <;> omega
theorem slicePick_cut (its : List Value) (lo hi : Option Int) : slicePick its.toArray lo hi none = ((its.drop (HT.sIx its.length 0 lo)).take (HT.sIx its.length its.length hi - HT.sIx its.length 0 lo)).toArray := by
  obtain ⟨h1, h2, h3⟩ := slice_bounds lo hi its.toArray.size
  unfold slicePick
  rw [h1, h2, h3]
  simp only [sliceRange_one, pick_run, List.size_toArray] <;> rfl
noncomputable def rSlL (K : PySem.W.Frag) : V → Option Int → Option Int → Hp → VK → Prop := fun x lo hi H Q => ∃ a xs, x = .ref a ∧ SqL K H a xs ∧ ∀ p, H p = none → Q (.ref p) (upd H p (.lst (cutV xs lo hi)))
theorem sl_list : SlR X (rSlL X.K) := by
  intro pins s σ H x v vl vu lo hi sl Q I rx hs pl pu h
  obtain ⟨a, xs, rfl, hx, q⟩ := h
  cases rx
  obtain ⟨its, r, ht, hz⟩ := I.list hx
  have hlen := r.length
  refine ⟨"list", _, slot_list_getitem.lookup, ht.isList.typeIs, ?_⟩
  refine wpAny_getItem_list_slice ht.isList hs pl pu .none (by simp) ?_ (by rw [List.size_toArray] <;> omega)
  rw [slicePick_cut, ← hlen]
  refine ⟨.ref s.heap.objs.size, _, I.laid (t' := s.toks) (o := .lst (cutV xs lo hi)) (fun b ob q => Heap.get?_push_of_some _ q) (Nat.le_refl _) ?_, rfl, q _ (I.hok.fresh (Nat.le_refl _))⟩
  exact ⟨Nat.le_trans (cutV_length xs lo hi) hz, _, 0, (r.drop (HT.sIx xs.length 0 lo)).take (HT.sIx xs.length xs.length hi - HT.sIx xs.length 0 lo), Heap.get?_push_size _ rfl⟩

theorem call_len_seq : CallR X (.builtin "len") (fun xs H Q => ∃ p ys, xs = [.ref p] ∧ (SqL X.K H p ys ∨ SqT X.K H p ys) ∧ Q (.int ys.length) H) := by
  intro pins s σ H xs us Q I r h
  obtain ⟨p, ys, rfl, hq, q⟩ := h
  obtain ⟨u, rfl, rx⟩ := vals1 r
  cases rx
  have hn := line63
  rcases hq with hq | hq
  · obtain ⟨its, r', pl, hz⟩ := I.list hq
    have hlen := r'.length
    exact Calls.call_len_list pl.isList (by simp only [List.size_toArray] <;> omega) ⟨.int ys.length, H, I.tok _, ⟨s.toks + 1, by rw [List.size_toArray, hlen]⟩, q⟩
  · obtain ⟨its, r', pl, hz⟩ := I.tuple hq
    have hlen := r'.length
    exact len_tuple pl (by simp only [List.size_toArray] <;> omega) ⟨.int ys.length, H, I.tok _, ⟨s.toks + 1, by rw [List.size_toArray, hlen]⟩, q⟩
theorem CallR.or {f : Value} {r r' : List V → Hp → VK → Prop} (h : CallR X f r) (h' : CallR X f r') : CallR X f (fun xs H Q => r xs H Q ∨ r' xs H Q) := by
  intro pins s σ H xs us Q I rs q
  rcases q with q | q
  · exact h pins s σ H xs us Q I rs q
  · exact h' pins s σ H xs us Q I rs q
theorem call_tuple_of : CallR X (.type "tuple") (fun xs H Q => ∃ p ys, xs = [.ref p] ∧ ((SqL X.K H p ys ∧ ∀ l, H l = none → Q (.ref l) (upd H l (.tup ys))) ∨ (SqT X.K H p ys ∧ Q (.ref p) H))) := by
  intro pins s σ H xs us Q I r h
  obtain ⟨p, ys, rfl, h⟩ := h
  obtain ⟨u, rfl, rx⟩ := vals1 r
  cases rx
  rcases h with ⟨hq, q⟩ | ⟨hq, q⟩
  · obtain ⟨its, r', pl, hz⟩ := I.list hq
    have hlen := r'.length
    refine call_tuple_list pl.isList (fun h' kp => ?_) (by simp only [List.size_toArray] <;> omega)
    have I1 : Inv X pins σ H { s with heap := h' } := I.kept (t' := s.toks) kp
    have I2 : Inv X pins σ (upd H h'.objs.size (.tup ys)) { s with heap := h'.push { cls := .type "tuple", data := .seq its.toArray } } :=
      I1.laid (t' := s.toks) (fun b o e => Heap.get?_push_of_some _ e) (Nat.le_refl _) (show ObjOk X.prog X.w _ _ _ (.tup ys) from ⟨hz, its, r', IsTup.new _ _⟩)
    exact ⟨.ref h'.objs.size, _, I2, rfl, q _ (I1.hok.fresh (Nat.le_refl _))⟩
  · obtain ⟨its, r', pl, hz⟩ := I.tuple hq
    exact call_tuple_same pl ⟨.ref p, H, I, rfl, q⟩

noncomputable def tyV (K : PySem.W.Frag) (T : String) (x : V) (H : Hp) : Prop := match x with
  | .str _ => T = "str"
  | .int _ => T = "int"
  | .ref p => (T = "list" ∧ ∃ xs, SqL K H p xs) ∨ (T = "tuple" ∧ ∃ o, K.lookup p = some o ∧ o.cls = .type "tuple" ∧ o.dict = none) ∨
      (T = "dict" ∧ ((∃ kvs, H p = some (.dK kvs)) ∨ ∃ kvs, H p = some (.dT kvs))) ∨ (T = "set" ∧ ∃ S n, H p = some (.set S n))
  | _ => False
theorem tyV_is {pins : List (Addr × Obj)} {σ : St} {H : Hp} {s : Shared} {T : String} {x : V} {v : Value} (I : Inv X pins σ H s) (r : RelV x v) (ty : tyV X.K T x H) :
    s.TypeIs v T ∧ ∀ a, v = .ref a → ∃ ob, s.heap.get? a = some ob ∧ ob.dict = none := by
  cases x with
  | str z =>
    obtain ⟨t, rfl⟩ := r
    cases (show T = "str" from ty)
    exact ⟨typeIs_str s z t, fun _ e => nomatch e⟩
  | int i =>
    obtain ⟨t, rfl⟩ := r
    cases (show T = "int" from ty)
    exact ⟨typeIs_int s i t, fun _ e => nomatch e⟩
  | ref p =>
    cases r
    rcases ty with ⟨rfl, xs, hq⟩ | ⟨rfl, o, hk, hc, hd⟩ | ⟨rfl, hk⟩ | ⟨rfl, S, n, hk⟩
    · obtain ⟨its, _, pl, _⟩ := I.list hq
      refine ⟨pl.isList.typeIs, fun a e => ?_⟩
      cases e
      obtain ⟨o, n, e, c, hd, _⟩ := pl
      exact ⟨o, e, hd⟩
    · refine ⟨⟨o, I.kIn p o hk, hc⟩, fun a e => ?_⟩
      cases e
      exact ⟨o, I.kIn _ o hk, hd⟩
    · have z : ∃ o, s.heap.get? p = some o ∧ o.ExactDict := by
        rcases hk with ⟨kvs, hk⟩ | ⟨kvs, hk⟩
        · obtain ⟨_, _, _, _, o, _, _, e, ex, _⟩ := I.hok p _ hk
          exact ⟨o, e, ex⟩
        · obtain ⟨_, _, _, _, o, _, _, e, ex, _⟩ := I.hok p _ hk
          exact ⟨o, e, ex⟩
      obtain ⟨o, e, ex⟩ := z
      refine ⟨⟨o, e, ex.1⟩, fun a e2 => ?_⟩
      cases e2
      exact ⟨o, e, ex.2.1⟩
    · obtain ⟨o, _, _, _, e, ex, _⟩ := I.hok p _ hk
      refine ⟨⟨o, e, ex.1⟩, fun a e2 => ?_⟩
      cases e2
      exact ⟨o, e, ex.2.1⟩
  | _ => exact False.elim ty
noncomputable def tBM0 (K : PySem.W.Frag) (T : String) (r : V → List V → Hp → VK → Prop) (to : TE) : TE := fun σ H Q => to σ H fun x H1 => tyV K T x H1 ∧ r x [] H1 Q
noncomputable def tBM (K : PySem.W.Frag) (T : String) (r : V → List V → Hp → VK → Prop) (to : TE) (t : TA) : TE := fun σ H Q => to σ H fun x H1 => tyV K T x H1 ∧ t σ H1 fun xs H2 => r x xs H2 Q
variable {o e : Expr} {es : List Expr} {to : TE} {t : TA} {name : Str} {apos cpos : Pos} {T id : String} {r : V → List V → Hp → VK → Prop}
theorem pe_bm0 (pa : PlainAttrs T) (slot : Slot T name id) (hty : typeOf (.builtin id) = pure (.type "method_descriptor")) (hm : MtR X id r) (ho : PE X o to)
    (hbase : attributeBase o name X.env (eval o X.env) = eval o X.env := by rfl) (hline : (apos.endLine == cpos.line) = true := by rfl) : PE X (.Call (.Attribute o name apos) [] [] cpos) (tBM0 X.K T r to) := by
  intro pins s σ H Q I h
  refine wpAny_Call_method0_late hbase hline (thn (ho pins s σ H _ I h) fun v s1 zz => ?_)
  obtain ⟨x, H1, I1, r1, ty, q1⟩ := zz
  obtain ⟨h1, h2⟩ := tyV_is I1 r1 ty
  exact ⟨T, id, pa, slot, hty, h1, h2, Calls.callWith_builtin rfl (PySem.evalArgs_none (hm pins s1 σ H1 x [] v [] Q I1 r1 .nil q1))⟩
theorem pe_bm (pa : PlainAttrs T) (slot : Slot T name id) (hty : typeOf (.builtin id) = pure (.type "method_descriptor")) (hm : MtR X id r) (ho : PE X o to) (ha : PA X (e :: es) t)
    (hbase : attributeBase o name X.env (eval o X.env) = eval o X.env := by rfl)
    (hfew : ((backTo cpos (starEach (e :: es) X.env)).all (fun x => !x.1) && (backToKw cpos (keywordEach [] X.env)).all (fun x => x.1.isSome)
      && decide ((e :: es).length + ([] : List Keyword).length + (if ([] : List Keyword).isEmpty then 0 else 1) < 30)) = true := by rfl)
    (hline : (apos.endLine == cpos.line) = true := by rfl) (hs : starEach (e :: es) X.env = (false, eval e X.env) :: starEach es X.env := by rfl) (hplain : (backTo cpos (starEach es X.env)).any (·.1) = false := by rfl) :
    PE X (.Call (.Attribute o name apos) (e :: es) [] cpos) (tBM X.K T r to t) := by
  intro pins s σ H Q I h
  refine wpAny_Call_method_late hbase hfew hline rfl (thn (ho pins s σ H _ I h) fun v s1 zz => ?_)
  obtain ⟨x, H1, I1, r1, ty, q1⟩ := zz
  obtain ⟨h1, h2⟩ := tyV_is I1 r1 ty
  refine ⟨T, id, pa, slot, hty, h1, h2, ?_⟩
  have hA := ha cpos pins s1 σ H1 _ I1 q1
  rw [hs] at hA ⊢
  refine Calls.callWith_builtin (by show (false || (backTo cpos (starEach es X.env)).any (·.1)) = false; rw [hplain] <;> rfl) (Calls.evalArgs_plain ?_)
  exact thn hA fun us s2 ⟨vs, H2, I2, r2, q2⟩ => hm pins s2 σ H2 x vs v us Q I2 r1 r2 q2
/- xs.append(e), list.index on a module's tuple .. are MtR facts of 06m -/
end
end L2

namespace L2
open PySem PySem.Spec PyProof.Rows

noncomputable def MtM (X : Cx) (id : String) (r : V → List V → Hp → VK → Prop) : Prop :=
  ∀ (pins : List (Addr × Obj)) (s : Shared) (σ : St) (H : Hp) (x : V) (xs : List V) (v : Value) (us : List Value) (Q : VK), Inv X pins σ H s → RelV x v → Vals xs us → r x xs H Q →
    wpAny (model X.prog X.w) X.A (call (.builtin id) (v :: us)) (EP X pins σ Q) X.xe s

theorem Vals.one {x : V} {us : List Value} (h : Vals [x] us) : ∃ u, us = [u] ∧ RelV x u := by
  cases h with | cons r t => cases t; exact ⟨_, rfl, r⟩
theorem Vals.two {x y : V} {us : List Value} (h : Vals [x, y] us) : ∃ u v, us = [u, v] ∧ RelV x u ∧ RelV y v := by
  cases h with | cons r t => cases t with | cons q t2 => cases t2; exact ⟨_, _, rfl, r, q⟩
theorem Vals.zero : ∀ {us : List Value}, Vals [] us → us = []
  | _, .nil => rfl
theorem Vals.reverse {xs : List V} {us : List Value} (h : Vals xs us) : Vals xs.reverse us.reverse := by
  induction h with
  | nil => exact .nil
  | cons r t ih => rw [List.reverse_cons, List.reverse_cons]; exact Vals.append ih (.cons r .nil)
section
variable {X : Cx} {pins : List (Addr × Obj)} {σ : St} {H : Hp} {s : Shared} {l b : Addr} {xs ys zs : List V}

theorem Inv.lset {its its' : List Value} {n : Nat} {f : Array Value → Array Value} {t' : Nat} (I : Inv X pins σ H s) (hH : H l = some (.lst xs))
    (e : s.heap.get? l = some { cls := .type "list", data := .seq its.toArray n }) (hf : f its.toArray = its'.toArray) (hv : Vals ys its') (hz : ys.length ≤ sizeLine) :
    Inv X pins σ (upd H l (.lst ys)) { s with heap := s.heap.update l (Obj.mapSeq f), toks := t' } := by
  have q := PySem.IsL.update e f
  rw [hf] at q
  refine I.write (x := l) (e := l) (by rw [hH]; exact trivial) (.inl rfl) (fun b' u hb hu => (Heap.get?_update_other s.heap (Obj.mapSeq f) (Ne.symm hb)).trans hu) ⟨_, q⟩ ?_
  exact ⟨hz, its', _, hv, q⟩
theorem Inv.lnew {its : List Value} {t' : Nat} (I : Inv X pins σ H s) (hv : Vals ys its) (hz : ys.length ≤ sizeLine) :
    Inv X pins σ (upd H s.heap.objs.size (.lst ys)) { s with heap := s.heap.push { cls := .type "list", data := .seq its.toArray }, toks := t' } :=
  I.laid (fun _ _ q => Heap.get?_push_of_some _ q) (Nat.le_refl _) ⟨hz, its, 0, hv, Heap.get?_push_size _ rfl⟩
theorem Inv.fresh (I : Inv X pins σ H s) : H s.heap.objs.size = none := I.hok.fresh (Nat.le_refl _)
theorem Inv.lstM (I : Inv X pins σ H s) (hH : H l = some (.lst xs)) : xs.length ≤ sizeLine ∧ ∃ (its : List Value) (n : Nat), Vals xs its ∧ xs.length = its.length ∧ s.heap.get? l = some { cls := .type "list", data := .seq its.toArray n } := by
  obtain ⟨z, its, n, r, e⟩ := I.hok l _ hH
  exact ⟨z, its, n, r, r.length, e⟩

end

section
variable {X : Cx}

noncomputable def rAppend : V → List V → Hp → VK → Prop := fun x vs H Q => ∃ l xs y, x = .ref l ∧ vs = [y] ∧ H l = some (.lst xs) ∧ xs.length < sizeLine ∧ Q .non (upd H l (.lst (xs ++ [y])))
theorem mt_append : MtM X "list.append" rAppend := by
  intro pins s σ H x vs v us Q I rx rv h
  obtain ⟨l, xs, y, rfl, rfl, hH, hz, q⟩ := h
  cases rx
  obtain ⟨u, rfl, ru⟩ := rv.one
  obtain ⟨z, its, n, r, hl, e⟩ := I.lstM hH
  refine call_meets F.slot_list_append ⟨_, e, rfl⟩ F.entry_list_append (F.args_list_append_2 _ _) (PySem.list_append l its.toArray n u (by rw [List.size_toArray]; omega)) ⟨e, ?_⟩
  refine ⟨.non, _, I.lset (its' := its ++ [u]) hH e (by simp) (r.append (.cons ru .nil)) ?_, rfl, q⟩
  rw [List.length_append, List.length_singleton]
  omega

end

section
variable {prog : Program} {w : World} {A : Around} {E : Value → Shared → Prop} {s : Shared}
end

section
variable {X : Cx}
end
end L2

namespace Att
open PySem PySem.W PySem.Calls PyProof.Rows

theorem ints_of_wellAll {P : Params} {h : Heap} : ∀ (ns : List Int) (vs : List Value), WellAll P h vs (ns.map WData.int) → IntsAre vs ns := by
  intro ns
  induction ns with
  | nil =>
    intro vs w
    rw [List.map_nil] at w
    cases w
    exact .nil
  | cons n ns ih =>
    intro vs w
    rw [List.map_cons] at w
    cases w with
    | cons a b =>
      cases a
      exact .cons _ _ (ih _ b)

theorem script_of {l : OpenLaw} {n : Nat} (hn : l.most = some n) {P : Params} {h : Heap} {args : List WData} {vals : List Value}
    (hpre : l.row.toRowW.claim.pre args = true) (hwl : WellAll P h vals args) :
    ∃ a vs ns, vals = [Value.ref a] ∧ args = [WData.list (ns.map WData.int)] ∧ h.get? a = some { cls := .type "list", data := .seq vs.toArray } ∧ IntsAre vs ns ∧ ns.length ≤ n := by
  have hsh : WShape.hasAll [] args [.list .int] = true := (pre_splitW hpre).1
  have hc : l.pre.holds [] { args := args } = true := (pre_splitW hpre).2
  obtain ⟨d, r, rfl, h1, h2⟩ := hasAllW_cons hsh
  obtain rfl := hasAllW_nil h2
  obtain ⟨xs, rfl, h3⟩ := hasW_list h1
  obtain ⟨ns, rfl⟩ := items_int h3
  have hlen : ns.length ≤ n := by
    unfold OpenLaw.pre at hc
    have h4 : (WTm.not (.lt (.lit (.int (n : Int))) (.len (.arg 0)))).holds [] { args := [.list (ns.map .int)] } = true := by
      have h4 := (holds_andW hc).1
      rw [hn] at h4
      exact h4
    have h5 := condW_of h4 (w_not (w_lt w_lit (w_len_list (w_arg rfl))))
    rw [List.length_map] at h5
    refine Nat.le_of_not_lt fun q => ?_
    have q' : (n : Int) < ((ns.length : Nat) : Int) := by omega
    first
      | (rw [decide_eq_true q'] at h5; exact absurd h5 (by decide))
      | (simp at h5; omega)
  cases hwl with
  | cons w1 w2 =>
    cases w2
    cases w1 with
    | list ho hall => exact ⟨_, _, ns, rfl, rfl, ho, ints_of_wellAll ns _ hall, hlen⟩

theorem post_true (l : OpenLaw) (args : List WData) : l.row.toRowW.claim.post args (.bool true) args = true :=
  postW_of (r := l.row.toRowW) (X := (true == true))
    (show WShape.has [] (.bool true) .bool = true by first | rfl | decide | simp [WShape.has, WShape.arms, WShape.armsAll])
    (show (WTm.eq .res (.lit (.bool true))).value [] { args := args, res := some (.bool true), after := args } = some (.bool (true == true)) from w_eq_bool (w_res rfl) w_lit) rfl

theorem attach_call {l : OpenLaw} {n : Nat} {q : Program} {loose : List Str} {XP : (Str → Option Value) → Heap → Prop} {YP : World → Heap → Prop} {d : DefRec}
    (hn : l.most = some n) (hdf : d.params.defaults = [])
    (call : ∀ (w : World) (s₀ s₁ : Shared) (mg mb : Str → Option Value) (fa : Addr) (o : Obj) (pm cd doc : Value) (a : Addr) (vs : List Value) (ns : List Int),
      Ground q loose [] XP w s₀ mg mb s₁.heap → YP w s₁.heap →
      s₁.heap.get? fa = some o → o.data = .func (docDef d.name d.params d.body d.scope pm cd doc) → s₁.heap.CodeRec cd d.name → mg d.name = some (.ref fa) →
      s₁.heap.get? a = some { cls := .type "list", data := .seq vs.toArray } → IntsAre vs ns → ns.length ≤ n → s₁.gens = #[] →
      codeAny (model l.prog w) callerA (.call (.ref fa) ⟨[.ref a], []⟩) (fun r s' => r = .ok (.ret (.bool true)) ∧ OldK s₁.heap s'.heap ∧ s'.os = s₁.os ∧ AllBare s'.gens) s₁) :
    WalkO q loose XP YP l.row.toRowW d [] (fun f vs => PySem.call f vs) := by
  intro w s₀ s₁ mg mb G Y fa o pm cd doc dV kV ho hd hcd hD hmg hg args vals as hpre hlay hrd hwl hlo
  obtain rfl : dV = .none := Dflts.none hD hdf
  obtain rfl : kV = .none := Dflts.noKw hD
  obtain ⟨a, vs, ns, rfl, rfl, hobj, hints, hlen⟩ := script_of hn hpre hwl
  refine enter_call (codeAny_mono (call w s₀ s₁ mg mb fa o pm cd doc a vs ns G Y ho (fd_plain hd) hcd hmg hobj hints hlen hg) fun r s' hq => ?_)
  obtain ⟨rfl, h2, h3, h4⟩ := hq
  exact ⟨.inl ⟨.bool true, .bool true, [], rfl, fun _ => rfl, .bool true, post_true l _, fun _ => ⟨List.Pairwise.nil, fun _ hm => (nomatch hm)⟩⟩, h2, h3, h4⟩

section
variable {prog : Program} {w : World} {A : Around} {E : Value → Shared → Prop} {s : Shared} {K : Frag}

end
end Att

namespace L2
open PySem PySem.Spec PyProof.Rows

theorem vals_ints : ∀ {vs : List Value} {ns : List Int}, IntsAre vs ns → Vals (ns.map V.int) vs
  | _, _, .nil => .nil
  | _, _, .cons n t h => .cons ⟨t, rfl⟩ (vals_ints h)

noncomputable def Only (H : Hp) : Prop := ∀ b, H b = none ∨ ∃ o xs, H b = some (.frz o (.lst xs))

theorem law_call {P : Program} {w : World} {K : PySem.W.Frag} {mg mb : Str → Option Value} {CX : CXT} {k : Nat} {fa a : Addr} {fd : FuncData} {x : Str} {sp : Sp} {s₁ : Shared} {vs : List Value} {ns : List Int}
    (KX : K.In s₁.heap) (hns : s₁.heap.Ns mainGlobals mg) (hb : s₁.heap.Ns builtinsNs mb) (hbb : ∀ x : Str, x ≠ "__name__" → mb x = bootBuiltins x) (hlim : s₁.heap.NoLimit) (hg : s₁.gens = #[])
    (ha : s₁.heap.get? a = some { cls := .type "list", data := .seq vs.toArray }) (hi : IntsAre vs ns) (hl : ns.length ≤ sizeLine) (hr : Room k callerA)
    (F : ∀ base : Heap, K.In base → base.Ns mainGlobals mg → FnOk P w K mg base CX k fa fd [x] sp) (hbind : ∀ (s : Shared) (u : Value), BindsTo s fd ⟨[u], []⟩ [(x, u)])
    (hsp : ∀ H : Hp, Only H → SqL K H a (ns.map V.int) → sp [.ref a] H (fun v _ => v = .bl true) fun _ _ _ => False)
    (hCX : ∀ H e s', CX [] H s₁ (fun _ _ _ => False) e s' → False) :
    codeAny (model P w) callerA (.call (.ref fa) ⟨[.ref a], []⟩) (fun r s' => r = .ok (.ret (.bool true)) ∧ OldK s₁.heap s'.heap ∧ s'.os = s₁.os ∧ AllBare s'.gens) s₁ := by
  have rv := vals_ints hi
  have lenV := hi.length
  -- from an abstract heap in which nothing but the script may be tracked
  have core : ∀ H : Hp, Only H → SqL K H a (ns.map V.int) → HOk P w H s₁.heap → (∀ b, H b ≠ none → b = a) → (H a ≠ none → K.lookup a = none) →
      codeAny (model P w) callerA (.call (.ref fa) ⟨[.ref a], []⟩) (fun r s' => r = .ok (.ret (.bool true)) ∧ OldK s₁.heap s'.heap ∧ s'.os = s₁.os ∧ AllBare s'.gens) s₁ := by
    intro H hO hS hok hA hK
    have base_of : ∀ {b : Addr} {o : Obj}, s₁.heap.get? b = some o → H b = none → (hidT s₁.heap H).get? b = some o := fun e n => hidT_get e n
    have noA : ∀ {b : Addr} {o : Obj} {es : Array DictEntry} {ep : Nat}, s₁.heap.get? b = some o → o.data = .dict es ep → H b = none := fun {b o es ep} e d => by
      cases q : H b with
      | none => rfl
      | some u =>
        have e' : b = a := hA b (by rw [q]; simp)
        subst e'
        rw [ha] at e; cases e
        have d' : Data.seq vs.toArray _ = Data.dict es ep := d
        cases d'
    have nsK : ∀ {b : Addr} {m : Str → Option Value}, s₁.heap.Ns b m → (hidT s₁.heap H).Ns b m := fun {b m} ⟨o, es, ep, e, d, r⟩ => ⟨o, es, ep, base_of e (noA e d), d, r⟩
    have hKb : K.In (hidT s₁.heap H) := fun b o e => base_of (KX b o e) (by
      cases q : H b with
      | none => rfl
      | some u =>
        have e' : b = a := hA b (by rw [q]; simp)
        subst e'
        rw [hK (by rw [q]; simp)] at e; cases e)
    have hM : Mod K mg (hidT s₁.heap H) := ⟨hKb, nsK hns, ⟨mb, nsK hb, hbb⟩, let ⟨mc, h1, h2⟩ := hlim; ⟨mc, nsK h1, h2⟩⟩
    have e0 : Env0 P w K mg (hidT s₁.heap H) callerA [] s₁ H := ⟨rfl, hM, fun b o e => of_hidT e, Nat.le_of_eq (hidT_size _ _), trivial, fun b hb => absurd (show b ∈ ([] : List Addr) from hb) (by simp), hok, .of_eq hg⟩
    refine codeAny_mono ((F _ hKb (nsK hns)).run callerA [] s₁ H ⟨[.ref a], []⟩ [.ref a] [.ref a] _ _ hr e0 (hbind s₁ (.ref a)) (.cons rfl .nil) (hsp H hO hS)) fun r s' h => ?_
    cases r with
    | error e => exact (hCX H e s' h).elim
    | ok fl =>
      cases fl with
      | next => exact False.elim h
      | brk => exact False.elim h
      | cont => exact False.elim h
      | ret u =>
        obtain ⟨v, H', os, bare, un, hok', r', q⟩ := h
        have q' : v = .bl true := q
        subst q'
        obtain rfl : u = Value.bool true := r'
        refine ⟨rfl, OldK.of_keep fun b o e => ?_, os, bare⟩
        cases q : H b with
        | none => exact un.keep b o e q (by intro z; exact absurd (show b ∈ ([] : List Addr) from z) (by simp)) (by simp)
        | some u =>
          rcases hO b with z | ⟨ob, xs, z⟩
          · rw [q] at z; cases z
          · have z2 := un.frzs b ob _ z
            obtain ⟨e1, _⟩ := hok b _ z
            obtain ⟨e2, _⟩ := hok' b _ z2
            rw [e] at e1; cases e1
            exact e2
  cases hk : K.lookup a with
  | some o =>
    -- the script is one of the module's own objects
    have e := KX a o hk
    rw [ha] at e
    cases e
    refine core (fun _ => none) (fun _ => .inl rfl) (.inr ⟨_, vs.toArray, _, hk, rfl, rfl, rfl, by rw [List.size_toArray, lenV]; exact hl, by simpa using rv⟩) (fun b u z => by have z' : (none : Option HO) = some u := z; cases z') (fun b z => absurd rfl z) fun z => absurd rfl z
  | none =>
    refine core (fun b => if b = a then some (.frz { cls := .type "list", data := .seq vs.toArray } (.lst (ns.map V.int))) else none) (fun b => ?_) (.inl (.inr ⟨{ cls := .type "list", data := .seq vs.toArray }, if_pos rfl⟩)) (fun b u z => ?_) (fun b z => ?_) fun _ => hk
    · by_cases hb : b = a
      · exact .inr ⟨_, _, if_pos hb⟩
      · exact .inl (if_neg hb)
    · by_cases hb : b = a
      · have z' := (if_pos hb).symm.trans z
        cases z'
        subst hb
        exact ⟨ha, by rw [List.length_map]; exact hl, vs, _, rv, ha⟩
      · have z' := (if_neg hb).symm.trans z
        cases z'
    · by_cases hb : b = a
      · exact hb
      · exact absurd (if_neg hb) z
end L2

namespace L2
open PySem PySem.Spec PyProof.Rows

theorem walk_of {l : PySem.W.OpenLaw} {n k : Nat} {q : Program} {loose : List Str} {XP : (Str → Option Value) → Heap → Prop} {YP : World → Heap → Prop} {d : DefRec} {K : Params → PySem.W.Frag} {CX : World → CXT} {sp : World → Sp} {x : Str}
    (hn : l.most = some n) (hn2 : n ≤ sizeLine) (hdf : d.params.defaults = []) (hr : Room k callerA)
    (hY : ∀ (w : World) (h : Heap), YP w h → (K w.params).In h)
    (F : ∀ (w : World) (mg : Str → Option Value) (fa : Addr) (h : Heap), (K w.params).In h → h.Ns mainGlobals mg → mg d.name = some (.ref fa) →
      ∃ fd : FuncData, (∀ (s : Shared) (u : Value), BindsTo s fd ⟨[u], []⟩ [(x, u)]) ∧
        ∀ base : Heap, (K w.params).In base → base.Ns mainGlobals mg → FnOk l.prog w (K w.params) mg base (CX w) k fa fd [x] (sp w))
    (hsp : ∀ (w : World) (H : Hp) (a : Addr) (ns : List Int), ns.length ≤ n → Only H → SqL (K w.params) H a (ns.map V.int) → sp w [.ref a] H (fun v _ => v = .bl true) fun _ _ _ => False)
    (hCX : ∀ (w : World) (H : Hp) (s : Shared) (e : Value) (s' : Shared), CX w [] H s (fun _ _ _ => False) e s' → False) :
    PySem.W.WalkO q loose XP YP l.row.toRowW d [] (fun f vs => PySem.call f vs) := by
  refine Att.attach_call hn hdf fun w s₀ s₁ mg mb fa o pm cd doc a vs ns G Y ho hd hcd hmg hobj hints hlen hg => ?_
  have KX := hY w _ Y
  obtain ⟨fd, hb, hF⟩ := F w mg fa _ KX G.T.g hmg
  exact law_call KX G.T.g G.T.b G.T.builtins G.T.nolimit hg hobj hints (Nat.le_trans hlen hn2) hr hF hb (fun H hO hS => hsp w H a ns hlen hO hS) fun H e s' => hCX w H s₁ e s'
theorem walk_ofK {l : PySem.W.OpenLaw} {n k : Nat} {q : Program} {loose : List Str} {XP : (Str → Option Value) → Heap → Prop} {YP : World → Heap → Prop} {d : DefRec} {K : Params → PySem.W.Frag} {CX : CXT} {sp : PySem.W.Frag → Sp} {x : Str}
    (hn : l.most = some n) (hn2 : n ≤ sizeLine) (hdf : d.params.defaults = []) (hr : Room k callerA)
    (hY : ∀ (w : World) (h : Heap), YP w h → (K w.params).In h)
    (F : ∀ (w : World) (mg : Str → Option Value) (fa : Addr) (h : Heap), (K w.params).In h → h.Ns mainGlobals mg → mg d.name = some (.ref fa) →
      ∃ fd : FuncData, (∀ (s : Shared) (u : Value), BindsTo s fd ⟨[u], []⟩ [(x, u)]) ∧
        ∀ base : Heap, (K w.params).In base → base.Ns mainGlobals mg → FnOk l.prog w (K w.params) mg base CX k fa fd [x] (sp (K w.params)))
    (hsp : ∀ (K : PySem.W.Frag) (H : Hp) (a : Addr) (ns : List Int), ns.length ≤ n → Only H → SqL K H a (ns.map V.int) → sp K [.ref a] H (fun v _ => v = .bl true) fun _ _ _ => False)
    (hCX : ∀ (H : Hp) (s : Shared) (e : Value) (s' : Shared), CX [] H s (fun _ _ _ => False) e s' → False) :
    PySem.W.WalkO q loose XP YP l.row.toRowW d [] (fun f vs => PySem.call f vs) :=
  walk_of (K := K) (CX := fun _ => CX) (sp := fun w => sp (K w.params)) hn hn2 hdf hr hY F (fun w H a ns h1 h2 h3 => hsp (K w.params) H a ns h1 h2 h3) fun _ H s e s' => hCX H s e s'
end L2


namespace L2
open PySem PySem.Spec PyProof.Rows

noncomputable def defArgs (s : Stmt) : Arguments := match s with
  | .FunctionDef _ a _ _ _ _ _ _ _ _ => a
  | _ => { posonlyargs := [], args := [], vararg := none, kwonlyargs := [], kw_defaults := [], kwarg := none, defaults := [] }
noncomputable def defBody (s : Stmt) : List Stmt := match s with
  | .FunctionDef _ _ b _ _ _ _ _ _ _ => b
  | _ => []
noncomputable def defScope (s : Stmt) : Scope := match s with
  | .FunctionDef _ _ _ _ _ _ sc _ _ _ => sc
  | _ => { kind := .function, names := [], isGenerator := false, isCoroutine := false }

noncomputable abbrev CX0 : CXT := fun _ _ _ _ _ _ => False
noncomputable abbrev E0 : XK := fun _ _ _ => False
theorem pass0 {X : Cx} : Passes CX0 X E0 := fun _ _ _ _ _ _ _ h => h.elim

section
variable {P : Program} {w : World} {K : PySem.W.Frag} {mg : Str → Option Value} {base : Heap}
end
section
variable {X : Cx}
theorem pv (i : Nat) {x : Str} {pos : Pos} (hN : X.N[i]? = some x := by rfl) (hv : Vis X.env.scope x := by first | exact Or.inl rfl | exact Or.inr (Or.inl rfl) | exact Or.inr (Or.inr rfl)) (hd : (x == ("__debug__" : Str)) = false := by decide)
    (hcd : (x == ("__classdict__" : Str)) = false := by decide) : PE X (.Name x pos) (tVar i) := pe_var hN hv hd hcd
end

theorem iteF {A B : Prop} (h : B) : if false = true then A else B := by
  rw [if_neg Bool.false_ne_true]
  exact h
theorem iteT {A B : Prop} (h : A) : if true = true then A else B := by
  rw [if_pos rfl]
  exact h
end L2

end
namespace RM
open Rat
noncomputable def bl (n : Nat) : Nat := n.log2 + 1
theorem lt_bl (n : Nat) : n < 2 ^ bl n := Nat.lt_log2_self
theorem bl_le {n k : Nat} (h : n < 2 ^ k) (hk : 0 < k) : bl n ≤ k := by
  unfold bl
  rcases Nat.eq_zero_or_pos n with h0 | h0
  · subst h0; rw [Nat.log2_zero]; omega
  · have := (Nat.log2_lt (Nat.pos_iff_ne_zero.mp h0)).mpr h
    omega
theorem bl_pos (n : Nat) : 0 < bl n := Nat.succ_pos _
theorem bl_mono {m n : Nat} (h : m ≤ n) : bl m ≤ bl n := bl_le (Nat.lt_of_le_of_lt h (lt_bl n)) (bl_pos n)
theorem bl_mul (m n : Nat) : bl (m * n) ≤ bl m + bl n := by
  refine bl_le ?_ (Nat.add_pos_left (bl_pos m) _)
  rw [Nat.pow_add]
  exact Nat.mul_lt_mul'' (lt_bl m) (lt_bl n)
theorem bl_add (m n : Nat) : bl (m + n) ≤ max (bl m) (bl n) + 1 := by
  refine bl_le ?_ (Nat.succ_pos _)
  have h1 := lt_bl m
  have h2 := lt_bl n
  have e1 : 2 ^ bl m ≤ 2 ^ max (bl m) (bl n) := Nat.pow_le_pow_right (by decide) (Nat.le_max_left _ _)
  have e2 : 2 ^ bl n ≤ 2 ^ max (bl m) (bl n) := Nat.pow_le_pow_right (by decide) (Nat.le_max_right _ _)
  rw [Nat.pow_succ]
  omega
noncomputable def sz (q : Rat) : Nat := max (bl q.num.natAbs) (bl q.den)
theorem sz_num (q : Rat) : bl q.num.natAbs ≤ sz q := Nat.le_max_left _ _
theorem sz_den (q : Rat) : bl q.den ≤ sz q := Nat.le_max_right _ _
theorem sz_le {q : Rat} {n : Nat} (h1 : bl q.num.natAbs ≤ n) (h2 : bl q.den ≤ n) : sz q ≤ n := Nat.max_le.mpr ⟨h1, h2⟩
theorem num_le (a b : Int) : (divInt a b).num.natAbs ≤ a.natAbs := by
  rw [num_divInt]
  rcases Int.lt_trichotomy b 0 with h | h | h
  · rw [Int.sign_eq_neg_one_of_neg h]
    refine Nat.le_trans (Int.natAbs_ediv_le_natAbs _ _) ?_
    simp
  · subst h; simp
  · rw [Int.sign_eq_one_of_pos h, Int.one_mul]
    exact Int.natAbs_ediv_le_natAbs _ _
theorem den_le (a b : Int) (hb : b ≠ 0) : (divInt a b).den ≤ b.natAbs := by
  rw [den_divInt, if_neg hb]
  exact Nat.div_le_self _ _
theorem sz_divInt (a b : Int) (hb : b ≠ 0) : sz (divInt a b) ≤ max (bl a.natAbs) (bl b.natAbs) :=
  sz_le (Nat.le_trans (bl_mono (num_le a b)) (Nat.le_max_left _ _)) (Nat.le_trans (bl_mono (den_le a b hb)) (Nat.le_max_right _ _))
theorem den_ne (q : Rat) : (q.den : Int) ≠ 0 := by have := q.den_nz; omega
theorem add_eq (q r : Rat) : q + r = divInt (q.num * r.den + r.num * q.den) (q.den * r.den) := by
  conv => lhs; rw [← num_divInt_den q, ← num_divInt_den r]
  rw [divInt_add_divInt _ _ (den_ne q) (den_ne r)]
theorem mul_eq (q r : Rat) : q * r = divInt (q.num * r.num) (q.den * r.den) := by
  conv => lhs; rw [← num_divInt_den q, ← num_divInt_den r]
  rw [divInt_mul_divInt]
theorem div_eq (q r : Rat) : q / r = divInt (q.num * r.den) (q.den * r.num) := by
  rw [div_def]
  conv => lhs; rw [← num_divInt_den q, ← num_divInt_den r]
  rw [inv_divInt, divInt_mul_divInt]
theorem natAbs_add_le' (a b : Int) : (a + b).natAbs ≤ a.natAbs + b.natAbs := Int.natAbs_add_le a b
theorem sz_add (q r : Rat) : sz (q + r) ≤ sz q + sz r + 1 := by
  rw [add_eq]
  have hb : ((q.den : Int) * (r.den : Int)) ≠ 0 := Int.mul_ne_zero (den_ne q) (den_ne r)
  refine Nat.le_trans (sz_divInt _ _ hb) (Nat.max_le.mpr ⟨?_, ?_⟩)
  · refine Nat.le_trans (bl_mono (natAbs_add_le' _ _)) (Nat.le_trans (bl_add _ _) ?_)
    rw [Int.natAbs_mul, Int.natAbs_mul]
    have h1 := bl_mul q.num.natAbs (r.den : Int).natAbs
    have h2 := bl_mul r.num.natAbs (q.den : Int).natAbs
    have a1 := sz_num q
    have a2 := sz_num r
    have a3 := sz_den q
    have a4 := sz_den r
    simp only [Int.natAbs_natCast] at h1 h2 ⊢
    omega
  · rw [Int.natAbs_mul]
    have h1 := bl_mul (q.den : Int).natAbs (r.den : Int).natAbs
    have a3 := sz_den q
    have a4 := sz_den r
    simp only [Int.natAbs_natCast] at h1 ⊢
    omega
theorem sz_mul (q r : Rat) : sz (q * r) ≤ sz q + sz r := by
  rw [mul_eq]
  have hb : ((q.den : Int) * (r.den : Int)) ≠ 0 := Int.mul_ne_zero (den_ne q) (den_ne r)
  refine Nat.le_trans (sz_divInt _ _ hb) (Nat.max_le.mpr ⟨?_, ?_⟩)
  · rw [Int.natAbs_mul]
    have h1 := bl_mul q.num.natAbs r.num.natAbs
    have a1 := sz_num q
    have a2 := sz_num r
    omega
  · rw [Int.natAbs_mul]
    have h1 := bl_mul (q.den : Int).natAbs (r.den : Int).natAbs
    have a3 := sz_den q
    have a4 := sz_den r
    simp only [Int.natAbs_natCast] at h1 ⊢
    omega
theorem sz_neg (q : Rat) : sz (-q) = sz q := by
  unfold sz
  rw [Rat.neg_num, Rat.neg_den, Int.natAbs_neg]
theorem sz_sub (q r : Rat) : sz (q - r) ≤ sz q + sz r + 1 := by
  rw [Rat.sub_eq_add_neg]
  have := sz_add q (-r)
  rw [sz_neg] at this
  exact this
theorem sz_div (q r : Rat) (hr : r ≠ 0) : sz (q / r) ≤ sz q + sz r := by
  rw [div_eq]
  have hn : r.num ≠ 0 := fun h => hr (Rat.num_eq_zero.mp h)
  have hb : ((q.den : Int) * r.num) ≠ 0 := Int.mul_ne_zero (den_ne q) hn
  refine Nat.le_trans (sz_divInt _ _ hb) (Nat.max_le.mpr ⟨?_, ?_⟩)
  · rw [Int.natAbs_mul]
    have h1 := bl_mul q.num.natAbs (r.den : Int).natAbs
    have a1 := sz_num q
    have a4 := sz_den r
    simp only [Int.natAbs_natCast] at h1 ⊢
    omega
  · rw [Int.natAbs_mul]
    have h1 := bl_mul (q.den : Int).natAbs r.num.natAbs
    have a3 := sz_den q
    have a2 := sz_num r
    simp only [Int.natAbs_natCast] at h1 ⊢
    omega
theorem sz_zero : sz 0 = 1 := by decide
theorem sz_one : sz 1 = 1 := by decide
theorem gcd_step (a b : Nat) (h : b ≠ 0) : Nat.gcd a b = Nat.gcd b (a % b) := by
  rw [Nat.gcd_comm, Nat.gcd_rec, Nat.gcd_comm]
theorem fdiv_exact {a g : Int} (h : g ∣ a) : a.fdiv g = a / g := by
  obtain ⟨c, rfl⟩ := h
  by_cases hg : g = 0
  · subst hg; simp
  · rw [Int.mul_fdiv_cancel_left _ hg, Int.mul_ediv_cancel_left _ hg]
theorem low_eq (a b : Int) (hb : b ≠ 0) (share : Int) (hs : share = if b < 0 then -((Nat.gcd a.natAbs b.natAbs : Nat) : Int) else ((Nat.gcd a.natAbs b.natAbs : Nat) : Int)) :
    a.fdiv share = (divInt a b).num ∧ b.fdiv share = ((divInt a b).den : Int) := by
  have hg : Nat.gcd a.natAbs b.natAbs = Int.gcd b a := by unfold Int.gcd; exact Nat.gcd_comm _ _
  have da : ((Int.gcd b a : Nat) : Int) ∣ a := Int.gcd_dvd_right b a
  have db : ((Int.gcd b a : Nat) : Int) ∣ b := Int.gcd_dvd_left b a
  rw [hg] at hs
  rw [num_divInt, den_divInt, if_neg hb]
  by_cases h : b < 0
  · rw [if_pos h] at hs
    subst hs
    rw [fdiv_exact (Int.neg_dvd.mpr da), fdiv_exact (Int.neg_dvd.mpr db), Int.sign_eq_neg_one_of_neg h]
    refine ⟨?_, ?_⟩
    · rw [Int.ediv_neg, Int.neg_one_mul, Int.neg_ediv_of_dvd da]
    · rw [Int.ediv_neg, ← Int.neg_ediv_of_dvd db]
      have e : -b = ((b.natAbs : Nat) : Int) := by omega
      rw [e]
      norm_cast
  · rw [if_neg h] at hs
    subst hs
    have hp : 0 < b := by omega
    rw [fdiv_exact da, fdiv_exact db, Int.sign_eq_one_of_pos hp, Int.one_mul]
    refine ⟨rfl, ?_⟩
    have e : b = ((b.natAbs : Nat) : Int) := by omega
    conv => lhs; rw [e]
    norm_cast
theorem lt_eq (q r : Rat) : decide (q.num * (r.den : Int) < r.num * (q.den : Int)) = decide (q < r) := by
  by_cases h : q < r
  · rw [decide_eq_true h, decide_eq_true ((Rat.lt_iff q r).mp h)]
  · rw [decide_eq_false h, decide_eq_false (fun z => h ((Rat.lt_iff q r).mpr z))]
end RM

namespace L2
open PySem PySem.Spec PyProof.Rows
section
variable {prog : Program} {w : World} {A : Around} {R : Result → Shared → Prop} {s : Shared}
noncomputable def testsOf (ifs : List Expr) (env : Env) : Sem Bool := forIn ifs true fun c r => if r = true then do let ok ← isTrue c env (eval c env); pure (ForInStep.yield ok) else pure (ForInStep.yield r)
theorem compLoop_goT {elt target iter : Expr} {ifs : List Expr} {scope : Scope} {pos : Pos} {it acc : Value} {env : Env} (I : Nat → Shared → Prop)
    (turn : ∀ n s, I n s → wpAny (model prog w) A (pyNext it) (fun r s₁ => match r with
      | none => R (.ok .next) s₁
      | some v => wpAny (model prog w) A (letOwnedTupleGo target it v) (fun _ s₁' => wpAny (model prog w) A (assign target env v) (fun _ s₂ => wpAny (model prog w) A (testsOf ifs env) (fun ok s₂' => if ok = true then wpAny (model prog w) A (eval elt env) (fun x s₃ =>
          wpAny (model prog w) A (call (.builtin "list.append") [acc, x]) (fun _ s₄ => ∃ m, m < n ∧ I m s₄) (notedBy (model prog w) A env fun e s' => R (.error e) s') s₃)
          (notedBy (model prog w) A env fun e s' => R (.error e) s') s₂' else ∃ m, m < n ∧ I m s₂') (notedBy (model prog w) A env fun e s' => R (.error e) s') s₂) (notedBy (model prog w) A env fun e s' => R (.error e) s') s₁') (notedBy (model prog w) A env fun e s' => R (.error e) s') s₁) (notedBy (model prog w) A env fun e s' => R (.error e) s') s)
    (n : Nat) (h : I n s) :
    codeAny (model prog w) A (.compLoop (.ListComp elt [⟨target, iter, ifs, 0⟩] scope pos) 0 it acc env) R s := by
  refine codeAny_loop rfl I (fun n s hI => ?_) n h
  show wpAny _ _ ((compTurn (.ListComp elt [⟨target, iter, ifs, 0⟩] scope pos) 0 it acc env).onRaise (fun x => do noteFrame x env; theTreesLotGoes x)) _ _ s
  refine wpAny_noted ?_
  rw [compTurn_list]
  refine wpAny_bind (wpAny_standAt (wpAny_bind (wpAny_mono (turn n s hI) (fun r s₁ h₁ => ?_) fun _ _ h' => h')))
  cases r with
  | none => exact wpAny_pure h₁
  | some v =>
    refine wpAny_bind (wpAny_mono h₁ (fun _ s₁' h₁' => ?_) fun _ _ h' => h')
    refine wpAny_bind (wpAny_mono h₁' (fun _ s₂ h₂ => wpAny_bind (wpAny_mono h₂ (fun ok s₂' h₃ => ?_) fun _ _ h' => h')) fun _ _ h' => h')
    cases ok with
    | true =>
      refine wpAny_bind (wpAny_bind (wpAny_mono h₃ (fun x s₃ h₄ => wpAny_bind (wpAny_mono h₄ (fun _ s₄ h₅ => wpAny_pure (wpAny_pure ⟨rfl, h₅⟩)) fun _ _ h' => h')) fun _ _ h' => h'))
    | false => exact wpAny_bind (wpAny_pure (wpAny_pure ⟨rfl, h₃⟩))
end
noncomputable def PIfs (X : Cx) (ifs : List Expr) (t : TT) : Prop :=
  ∀ (pins : List (Addr × Obj)) (s : Shared) (σ : St) (H : Hp) (Q : Bool → Hp → Prop), Inv X pins σ H s → t σ H Q → wpAny (model X.prog X.w) X.A (testsOf ifs X.env) (TP X pins σ Q) X.xe s
noncomputable def tYes : TT := fun _ H Q => Q true H
theorem pifs_nil {X : Cx} : PIfs X [] tYes := fun pins s σ H Q I q => wpAny_pure ⟨H, I, q⟩
theorem pifs_one {X : Cx} {c : Expr} {t : TT} (h : PT X c t) : PIfs X [c] t := fun pins s σ H Q I q => wpAny_tests_one (h pins s σ H Q I q)
end L2
namespace L2
open PySem PySem.Spec PyProof.Rows
noncomputable def clFor (cells : List (Str × Addr)) : List (Str × NameKind) → List (Str × Addr) → List (Str × Addr)
  | [], acc => acc
  | (n, k) :: r, acc => if k == .free then clFor cells r ((n, (cells.lookup n).getD 0) :: acc) else clFor cells r acc
theorem closure_go {env : Env} : ∀ (names : List (Str × NameKind)) (acc : List (Str × Addr)), (∀ n, (n, NameKind.free) ∈ names → ∃ c, env.cells.lookup n = some c) →
    (forIn names acc (fun (x : Str × NameKind) (cs : List (Str × Addr)) => if (x.2 == NameKind.free) = true then (do let a ← cellOf env x.1; pure (ForInStep.yield ((x.1, a) :: cs))) else pure (ForInStep.yield cs)) : Sem (List (Str × Addr))) = pure (clFor env.cells names acc)
  | [], acc, _ => rfl
  | (n, k) :: r, acc, h => by
    rw [List.forIn_cons]
    unfold clFor
    by_cases hk : (k == NameKind.free) = true
    · have e : k = .free := by cases k <;> first | rfl | (exact absurd hk (by decide))
      subst e
      obtain ⟨c, hc⟩ := h n List.mem_cons_self
      rw [if_pos hk, if_pos hk]
      have e1 : cellOf env n = pure c := by unfold cellOf; rw [hc]
      rw [e1, pure_bind, pure_bind, hc]
      exact closure_go r _ fun m hm => h m (List.mem_cons_of_mem _ hm)
    · rw [if_neg hk, if_neg hk, pure_bind]
      exact closure_go r _ fun m hm => h m (List.mem_cons_of_mem _ hm)
theorem closure_for {scope : Scope} {env : Env} (h : ∀ n, (n, NameKind.free) ∈ scope.names → ∃ c, env.cells.lookup n = some c) : closureFor scope env = pure (clFor env.cells scope.names []) := by
  have := closure_go (env := env) scope.names [] h
  unfold closureFor
  first
    | (simp only [] at this ⊢; rw [← this]; simp only [bind_pure]; rfl)
    | (rw [← this]; rfl)
    | (simp only [bind_pure, pure_bind]; exact this)
theorem clFor_some {cells : List (Str × Addr)} {x : Str} {c : Addr} : ∀ (names : List (Str × NameKind)) (acc : List (Str × Addr)), (∀ n, (n, NameKind.free) ∈ names → ∃ c, cells.lookup n = some c) → (∀ y d, acc.lookup y = some d → cells.lookup y = some d) → (clFor cells names acc).lookup x = some c → cells.lookup x = some c
  | [], acc, _, ha, h => ha x c h
  | (n, k) :: r, acc, hn, ha, h => by
    unfold clFor at h
    by_cases hk : (k == NameKind.free) = true
    · rw [if_pos hk] at h
      have e : k = .free := by cases k <;> first | rfl | (exact absurd hk (by decide))
      subst e
      obtain ⟨d, hd⟩ := hn n List.mem_cons_self
      refine clFor_some r _ (fun m hm => hn m (List.mem_cons_of_mem _ hm)) (fun y e hy => ?_) h
      rw [List.lookup_cons] at hy
      split at hy
      · rename_i hz
        have hz' : y = n := by simpa using hz
        subst hz'
        rw [hd] at hy ⊢
        cases hy; rfl
      · exact ha y e hy
    · rw [if_neg hk] at h
      exact clFor_some r _ (fun m hm => hn m (List.mem_cons_of_mem _ hm)) ha h
theorem clFor_has {cells : List (Str × Addr)} {x : Str} : ∀ (names : List (Str × NameKind)) (acc : List (Str × Addr)), ((x, NameKind.free) ∈ names ∨ ∃ c, acc.lookup x = some c) → ∃ c, (clFor cells names acc).lookup x = some c
  | [], acc, h => by
    rcases h with h | h
    · cases h
    · exact h
  | (n, k) :: r, acc, h => by
    unfold clFor
    by_cases hk : (k == NameKind.free) = true
    · rw [if_pos hk]
      refine clFor_has r _ ?_
      by_cases hx : x = n
      · right; rw [List.lookup_cons]; simp [hx]
      · rcases h with h | ⟨c, h⟩
        · rcases List.mem_cons.mp h with z | z
          · injection z with z1 _; exact absurd z1 hx
          · exact .inl z
        · right
          refine ⟨c, ?_⟩
          rw [List.lookup_cons]
          have : (x == n) = false := by simpa using hx
          rw [this]; exact h
    · rw [if_neg hk]
      refine clFor_has r _ ?_
      rcases h with h | h
      · rcases List.mem_cons.mp h with z | z
        · injection z with _ z2
          subst z2
          exact absurd rfl hk
        · exact .inl z
      · exact .inr h
theorem relabel_mem {scope : Scope} {env : Env} {x : Str} {k : NameKind} (h : (relabel scope env).names.lookup x = some k) (hk : k = .cell ∨ k = .free) (hcell : ∀ y ∈ scope.names, y.2 ≠ .cell) : (x, NameKind.free) ∈ scope.names := by
  have go : ∀ (l : List (Str × NameKind)), (∀ y ∈ l, y.2 ≠ .cell) → (l.map fun (n, k) => if (k == NameKind.free && env.scope.kind == .function && env.kindOf n == some .cell) = true then (n, NameKind.cell) else (n, k)).lookup x = some k → (x, NameKind.free) ∈ l := by
    intro l
    induction l with
    | nil => intro _ h; cases h
    | cons p r ih =>
      intro hl h
      obtain ⟨n, j⟩ := p
      rw [List.map_cons, List.lookup_cons] at h
      by_cases hj : j = .free
      · subst hj
        by_cases hx : x = n
        · subst hx; exact List.mem_cons_self
        · refine List.mem_cons_of_mem _ (ih (fun y hy => hl y (List.mem_cons_of_mem _ hy)) ?_)
          have e : ∀ b : Bool, (x == (if b = true then (n, NameKind.cell) else (n, NameKind.free)).1) = false := fun b => by cases b <;> simpa using hx
          dsimp only at h
          rw [e] at h
          exact h
      · have e : (j == NameKind.free) = false := by simpa using hj
        have hc := hl (n, j) List.mem_cons_self
        dsimp only at h
        rw [e] at h
        simp only [Bool.false_and, Bool.false_eq_true, if_false] at h
        by_cases hx : x = n
        · have : (x == n) = true := by simpa using hx
          rw [this] at h
          have h' : j = k := by simpa using h
          subst h'
          rcases hk with z | z
          · exact absurd z hc
          · exact absurd z hj
        · have : (x == n) = false := by simpa using hx
          rw [this] at h
          exact List.mem_cons_of_mem _ (ih (fun y hy => hl y (List.mem_cons_of_mem _ hy)) h)
  exact go scope.names hcell h
noncomputable def cxF (X : Cx) (scope : Scope) (cl : List (Str × Addr)) (N' : List Str) (s3 : Shared) (H3 : Hp) (C : Addr) (fp : List Addr) (pins : List (Addr × Obj)) : Cx :=
  { X with N := N', s₀ := s3, H₀ := H3, env := compEnvC scope cl C X.env, outer := X.stack, ex := fp, fn := fun _ => false, pn := X.pn ++ pins, xe := fun _ _ => False }
noncomputable def capF (n : Nat) (caps : List Nat) (σ : St) : St := List.replicate n none ++ caps.map fun i => (σ[i]?).getD none
noncomputable def tCompF (n : Nat) (caps : List Nat) (wi : TI) (g : TG) (tc : TT) (te : TE) : TE := fun σ H Q => wi σ H fun J H1 => ∀ D, H1 D = none → ∃ W : Nat → Nat → Hp → Prop, (∃ m, W 0 m (upd H1 D (.lst []))) ∧ ∀ i m H, W i m H →
  (J.stop i H ∧ Q (.ref D) H) ∨ (J.go i H ∧ ∀ x H', J.yld i H x H' → g x (capF n caps σ) H' fun σ2 H2 => tc σ2 H2 fun b H2' => if b = true then te σ2 H2' fun v H3 => ∃ ys, H3 D = some (.lst ys) ∧ ys.length < sizeLine ∧ ∃ m', m' < m ∧ W (i + 1) m' (upd H3 D (.lst (ys ++ [v]))) else ∃ m', m' < m ∧ W (i + 1) m' H2')
section
variable {X : Cx} {elt tg iter : Expr} {scope : Scope} {cl : List (Str × Addr)} {tgs cps : List Str} {caps : List Nat} {wi : TI} {g : TG} {tc : TT} {te : TE} {pos : Pos} {ifs : List Expr}
noncomputable def CapOk (s3 : Shared) (H3 : Hp) (fp : List Addr) (cl : List (Str × Addr)) (x : Str) (v : V) : Prop :=
  ∃ (u : Value) (c : Addr) (o : Obj), RelV v u ∧ cl.lookup x = some c ∧ s3.heap.get? c = some o ∧ o.data = .cell (some u) ∧ H3 c = none ∧ c ∉ fp
theorem Inv.reset {pins pins' : List (Addr × Obj)} {σ0 σ' : St} {H3 H' : Hp} {s3 s' : Shared} {fp : List Addr} {C : Addr} (I : Inv (cxF X scope cl (tgs ++ cps) s3 H3 C fp pins) pins' σ' H' s')
    (hsc : ∀ x ∈ cps, (relabel scope X.env).names.lookup x = some .cell ∨ (relabel scope X.env).names.lookup x = some .free) (hl : caps.length = cps.length)
    (hc : ∀ (j : Nat) (x : Str) (v : V), cps[j]? = some x → (caps.map fun i => (σ0[i]?).getD none)[j]? = some (some v) → CapOk s3 H3 fp cl x v) :
    Inv (cxF X scope cl (tgs ++ cps) s3 H3 C fp pins) pins' (capF tgs.length caps σ0) H' s' := by
  obtain ⟨m, hn, _⟩ := I.loc
  refine ⟨I.ok, I.os, I.bare, I.base, ⟨m, hn, fun i x v e1 e2 e3 => ?_⟩, I.cell, I.free, I.freeC, I.pin, I.hok, by simp [capF, cxF, hl]⟩
  have e1 : (tgs ++ cps)[i]? = some x := e1
  unfold capF at e2
  rw [List.getElem?_append] at e1 e2
  rw [List.length_replicate] at e2
  by_cases hi : i < tgs.length
  · rw [if_pos hi] at e2
    rw [List.getElem?_replicate] at e2
    split at e2 <;> cases e2
  · rw [if_neg hi] at e1 e2
    obtain ⟨u, c, o, r, h1, h2, h3, h4, h5⟩ := hc (i - tgs.length) x v e1 e2
    obtain ⟨sl, k⟩ := I.base.any h2 h4 h5
    refine ⟨u, r, .inr ⟨?_, c, h1, _, k, h3⟩⟩
    rcases hsc x (List.mem_of_getElem? e1) with z | z
    · exact .inl z
    · exact .inr z
theorem compF_block {pins : List (Addr × Obj)} {σ0 : St} {σ : St} {H3 : Hp} {s3 : Shared} {fp : List Addr} {it D C : Addr} {tn : Nat → Heap → Prop} {J : It} {h₁ : Heap} {tk : Nat} {m : Str → Option Value} {R : Result → Shared → Prop} {Qd : Hp → Prop}
    (hc : X.calm = true) (hcell : ∀ x ∈ scope.names, x.2 ≠ .cell) (hkind : scope.kind = .function)
    (hcl : ∀ x c, cl.lookup x = some c → X.env.cells.lookup x = some c) (hhas : ∀ x, (x, NameKind.free) ∈ scope.names → ∃ c, cl.lookup x = some c)
    (hsc : ∀ x ∈ cps, (relabel scope X.env).names.lookup x = some .cell ∨ (relabel scope X.env).names.lookup x = some .free) (hl : caps.length = cps.length)
    (hcap : ∀ (j : Nat) (x : Str) (v : V), cps[j]? = some x → (caps.map fun i => (σ0[i]?).getD none)[j]? = some (some v) → CapOk s3 H3 fp cl x v)
    (hg : ∀ cl s3 H3 C fp pins, PG (cxF X scope cl (tgs ++ cps) s3 H3 C fp pins) tg g) (hq : ∀ cl s3 H3 C fp pins, PIfs (cxF X scope cl (tgs ++ cps) s3 H3 C fp pins) ifs tc) (he : ∀ cl s3 H3 C fp pins, PE (cxF X scope cl (tgs ++ cps) s3 H3 C fp pins) elt te)
    (I3 : Inv X pins σ H3 s3) (T : Turn X.prog X.w X.K tg J fp it tn) (st3 : tn 0 s3.heap) (f3 : ∀ b ∈ fp, FpOk X pins H3 b) (hC : C = s3.heap.objs.size) (hn : h₁.Ns C m) (hk : ∀ b o, s3.heap.get? b = some o → h₁.get? b = some o)
    (W : Nat → Nat → Hp → Prop) (m0 : Nat) (w0 : W 0 m0 H3)
    (turn : ∀ i m H, W i m H → (J.stop i H ∧ Qd H) ∨ (J.go i H ∧ ∀ x H', J.yld i H x H' → g x (capF tgs.length caps σ0) H' fun σ2 H2 => tc σ2 H2 fun b H2' => if b = true then te σ2 H2' fun v H3 => ∃ ys, H3 D = some (.lst ys) ∧ ys.length < sizeLine ∧ ∃ m', m' < m ∧ W (i + 1) m' (upd H3 D (.lst (ys ++ [v]))) else ∃ m', m' < m ∧ W (i + 1) m' H2'))
    (hR : ∀ s' H' σ', Inv (cxF X scope cl (tgs ++ cps) s3 H3 C fp pins) [] σ' H' s' → Qd H' → R (.ok .next) s') :
    codeAny (model X.prog X.w) X.A (.compStart (.ListComp elt [⟨tg, iter, ifs, 0⟩] scope pos) 0 (.ref it) (.ref D) (compEnvC scope cl C X.env)) R { s3 with heap := h₁, toks := tk } := by
  have lt3 : ∀ b ∈ fp, b < s3.heap.objs.size := fun b hb => by
    obtain ⟨o, e, _⟩ := T.obj 0 _ st3 b hb
    exact Heap.lt_size e
  have ok' : (cxF X scope cl (tgs ++ cps) s3 H3 C fp pins).Ok := {
    mod := I3.ok.mod
    kind := hkind
    glob := I3.ok.glob
    blt := I3.ok.blt
    above := Nat.le_of_eq hC.symm
    inj := fun x y c e e' => I3.ok.inj x y c (hcl x c e) (hcl y c e')
    has := fun x h => by
      rcases h with h | h
      · exact hhas x (relabel_mem h (.inl rfl) hcell)
      · exact hhas x (relabel_mem h (.inr rfl) hcell)
    cab := fun x c h => by cases h
    hd := fun _ => I3.ok.hd hc
    frames := I3.ok.frames
    stk := .inl rfl
    exf := fun b hb => ⟨fun z => by
      have z' : b = C := z
      have h1 := lt3 b hb
      rw [z', hC] at h1
      exact Nat.lt_irrefl _ h1, fun x c e => (f3 b hb).2.2.2.2.1 x c (hcl x c e)⟩
    bs := fun b o e => I3.bs b o e
    bsz := Nat.le_trans I3.ok.bsz I3.sz
    noex := fun b o e hb => by
      obtain ⟨_, _, _, q, _⟩ := f3 b hb
      rcases q with q | q
      · exact I3.ok.noex b o e q
      · have h1 := Heap.lt_size e
        exact absurd (Nat.lt_of_lt_of_le (Nat.lt_of_lt_of_le h1 I3.ok.bsz) q) (Nat.lt_irrefl _)
    exfs := fun b hb z => by
      obtain ⟨_, q1, q2, _⟩ := f3 b hb
      rcases List.mem_cons.mp (I3.stkSub b z) with y | y
      · exact q1 y
      · exact q2 y
    funs := I3.stack
    frf := I3.stkFree }
  have J0 : Inv (cxF X scope cl (tgs ++ cps) s3 H3 C fp pins) [] (List.replicate (tgs ++ cps).length none) H3 { s3 with heap := h₁, toks := tk } := {
    ok := ok'
    os := rfl
    bare := I3.bare
    base := Un.kept hk
    loc := ⟨m, hn, fun i x v _ e _ => by
      rw [List.getElem?_replicate] at e
      split at e <;> cases e⟩
    cell := fun x c e => by
      obtain ⟨v, o, ho, hd⟩ := I3.cell x c (hcl x c e)
      exact ⟨v, o, hk c o ho, hd⟩
    free := I3.hok.fresh (Nat.le_of_eq hC.symm)
    freeC := fun x c e => I3.freeC x c (hcl x c e)
    pin := fun p hp => by
      have hp' : p ∈ X.pn ++ pins := by simpa [cxF] using hp
      obtain ⟨a1, a2, a3, a4, a5⟩ := I3.pin p hp'
      refine ⟨hk _ _ a1, a2, fun z => ?_, fun z => ?_, a5⟩
      · have z' : p.1 = C := z
        have h1 := Heap.lt_size a1
        rw [z', hC] at h1
        exact Nat.lt_irrefl _ h1
      · rcases List.mem_cons.mp (I3.stkSub _ z) with y | y
        · exact a3 y
        · exact a4 y
    hok := I3.hok.kept hk
    len := by simp [cxF] }
  have stat : ∀ {H' : Hp}, (∀ b ∈ fp, H' b = none) → ∀ b ∈ fp, FpOk (cxF X scope cl (tgs ++ cps) s3 H3 C fp pins) [] H' b := fun hn b hb => by
    obtain ⟨_, _, _, _, _, q⟩ := f3 b hb
    exact ⟨hn b hb, (ok'.exf b hb).1, ok'.exfs b hb, .inl hb, (ok'.exf b hb).2, fun p hp => q p (by simpa [cxF] using hp)⟩
  have loop : codeAny (model X.prog X.w) X.A (.compLoop (.ListComp elt [⟨tg, iter, ifs, 0⟩] scope pos) 0 (.ref it) (.ref D) (compEnvC scope cl C X.env)) R { s3 with heap := h₁, toks := tk } := by
    refine compLoop_goT (fun n s' => ∃ i σ' H', Inv (cxF X scope cl (tgs ++ cps) s3 H3 C fp pins) [] σ' H' s' ∧ tn i s'.heap ∧ (∀ b ∈ fp, H' b = none) ∧ W i n H') ?_ m0
      ⟨0, _, H3, J0, T.keep _ _ _ st3 fun b hb o e => hk b o e, fun b hb => (f3 b hb).1, w0⟩
    rintro n s4 ⟨i, σ4, H4, I4, st4, fr4, w4⟩
    rcases turn i n H4 w4 with ⟨stop, qn⟩ | ⟨go, step⟩
    · refine thn (T.done (cxF X scope cl (tgs ++ cps) s3 H3 C fp pins) rfl rfl rfl hc i [] s4 σ4 H4 _ I4 (stat fr4) st4 stop) fun r s5 zz => ?_
      obtain ⟨hr, I5⟩ := zz
      subst hr
      exact hR s5 H4 σ4 I5 qn
    · refine thn (T.item (cxF X scope cl (tgs ++ cps) s3 H3 C fp pins) rfl rfl rfl hc i [] s4 σ4 H4 _ I4 (stat fr4) st4 go) fun r s5 zz => ?_
      obtain ⟨u, hr, h5⟩ := zz
      subst hr
      refine thn h5 fun _ s6 zz => ?_
      obtain ⟨x, H6, I6, r6, y6, st6, fr6⟩ := zz
      have I6w := I6.reset hsc hl hcap
      have I6' := I6w.pinned (stat fr6) (T.obj _ _ st6)
      refine wpAny_mono (hg cl s3 H3 C fp pins _ s6 _ H6 x u _ I6' r6 (step x H6 y6)) (fun _ s7 ⟨σ7, H7, I7, q7⟩ => ?_) fun _ _ z => z.elim
      refine wpAny_mono (hq cl s3 H3 C fp pins _ s7 σ7 H7 _ I7 q7) (fun b s7' ⟨H7', I7', q7'⟩ => ?_) fun _ _ z => z.elim
      cases b with
      | false =>
        obtain ⟨m', hm, w8⟩ := q7'
        refine ⟨m', hm, i + 1, σ7, H7', I7'.unpinned, T.keep _ _ _ st6 fun b hb o e => (I7'.pin (b, o) (List.mem_append_right _ (List.mem_append_right _ (mem_pinsAt hb e)))).1, fun b hb => ?_, w8⟩
        obtain ⟨o, e, d⟩ := T.obj _ _ st6 b hb
        exact (I7'.pin (b, o) (List.mem_append_right _ (List.mem_append_right _ (mem_pinsAt hb e)))).2.1
      | true =>
        refine wpAny_mono (he cl s3 H3 C fp pins _ s7' σ7 H7' _ I7' q7') (fun v s8 ⟨y, H8, I8, r8, q8⟩ => ?_) fun _ _ z => z.elim
        obtain ⟨ys, hy, hz, m', hm, w8⟩ := q8
        refine wpAny_mono (mt_append (X := cxF X scope cl (tgs ++ cps) s3 H3 C fp pins) _ s8 σ7 H8 (.ref D) [y] (.ref D) [v] (fun _ H9 => W (i + 1) m' H9) I8 rfl (.cons r8 .nil) ⟨D, ys, y, rfl, rfl, hy, hz, w8⟩) (fun _ s9 ⟨_, H9, I9, _, w9⟩ => ?_) fun _ _ z => z.elim
        refine ⟨m', hm, i + 1, σ7, H9, I9.unpinned, T.keep _ _ _ st6 fun b hb o e => (I9.pin (b, o) (List.mem_append_right _ (List.mem_append_right _ (mem_pinsAt hb e)))).1, fun b hb => ?_, w9⟩
        obtain ⟨o, e, d⟩ := T.obj _ _ st6 b hb
        exact (I9.pin (b, o) (List.mem_append_right _ (List.mem_append_right _ (mem_pinsAt hb e)))).2.1
  exact codeAny_compStart_list loop (T.self _ 0 _ _ _ (T.keep _ _ _ st3 fun b hb o e => hk b o e) loop)
theorem compF_gen (hc : X.calm = true) (hcell : ∀ x ∈ scope.names, x.2 ≠ .cell) (hkind : scope.kind = .function) (hnames : ∀ x ∈ scope.names, x.2 = .local → scope.names.lookup x.1 = some .local)
    (hfr : ∀ x ∈ scope.names, x.2 = .free → x.1 ∈ cps) (hN : caps.map (fun i => X.N[i]?) = cps.map some) (hX : ∀ x ∈ cps, X.env.scope.names.lookup x = some .cell ∧ scope.names.lookup x = some .free)
    (hsc : ∀ x ∈ cps, (relabel scope X.env).names.lookup x = some .cell ∨ (relabel scope X.env).names.lookup x = some .free)
    (hi : PI X tg iter wi) (hg : ∀ cl s3 H3 C fp pins, PG (cxF X scope cl (tgs ++ cps) s3 H3 C fp pins) tg g) (hq : ∀ cl s3 H3 C fp pins, PIfs (cxF X scope cl (tgs ++ cps) s3 H3 C fp pins) ifs tc) (he : ∀ cl s3 H3 C fp pins, PE (cxF X scope cl (tgs ++ cps) s3 H3 C fp pins) elt te)
    (hs : ∀ x, foldedSetIterable iter X.env x = pure x) {use : Option (Value → Sem Unit)} {Qf : Value → Shared → Prop} {pins : List (Addr × Obj)} {s : Shared} {σ : St} {H : Hp} {Q : VK} (I : Inv X pins σ H s) (h : tCompF tgs.length caps wi g tc te σ H Q)
    (hU : ∀ (D C : Addr) (s' : Shared) (H4 : Hp) (m4 : Str → Option Value), s'.heap.Ns C m4 → FpOk X pins H4 C → (∀ h', Heap.SameBut C s'.heap h' → Inv X pins σ H4 { s' with heap := h' }) → Q (.ref D) H4 → compPost (model X.prog X.w) X.A X.xe use Qf (.ref D) C (.ok .next) s') :
    wpAny (model X.prog X.w) X.A (comprehension (.ListComp elt [⟨tg, iter, ifs, 0⟩] scope pos) scope X.env (firstIterPos [⟨tg, iter, ifs, 0⟩] pos) (newList []) false (eval iter X.env) use) Qf X.xe s := by
  have hl : caps.length = cps.length := by
    have := congrArg List.length hN
    simpa using this
  have hcells : ∀ n, (n, NameKind.free) ∈ scope.names → ∃ c, X.env.cells.lookup n = some c := fun n hn => I.ok.has n (.inl (hX n (hfr _ hn rfl)).1)
  refine wpAny_comprehension_free (use := use) rfl hs (closure_for hcells) hkind hnames (thn (hi pins s σ H _ I h) fun v s1 h1 => thn h1 fun itv s2 h2 => ?_)
  obtain ⟨it, fp, tn, J, H', e, I2, T, st2, f2, hW⟩ := h2
  subst e
  refine wpAny_newObj_type (hd := by size_fits) (wpAny_newFunctionEnv hcell (by intro y hy; simp at hy) (fun h₁ hns₁ hsb₁ => ?_) hkind)
  dsimp only at hns₁ hsb₁ ⊢
  have I3 := I2.lnew (ys := []) (its := []) (t' := s2.toks) .nil (Nat.zero_le _)
  obtain ⟨W, ⟨m0, w0⟩, turn⟩ := hW _ I2.fresh
  have st3 : tn 0 (s2.heap.push { cls := .type "list", data := .seq ([] : List Value).toArray }) := T.keep _ _ _ st2 fun b hb o e => Heap.get?_push_of_some _ e
  have f3 : ∀ b ∈ fp, FpOk X pins (upd H' s2.heap.objs.size (.lst [])) b := fun b hb => by
    obtain ⟨q0, q⟩ := f2 b hb
    obtain ⟨o, e, _⟩ := T.obj 0 _ st2 b hb
    exact ⟨by rw [upd_ne (Nat.ne_of_lt (Heap.lt_size e))]; exact q0, q⟩
  have old : ∀ b o, (s2.heap.push { cls := .type "list", data := .seq ([] : List Value).toArray }).get? b = some o → h₁.get? b = some o := fun b o e =>
    hsb₁.extBut b o (Nat.ne_of_lt (Heap.lt_size e)) (Heap.get?_push_of_some _ e)
  have hcap : ∀ (j : Nat) (x : Str) (v : V), cps[j]? = some x → (caps.map fun i => (σ[i]?).getD none)[j]? = some (some v) →
      CapOk { s2 with heap := s2.heap.push { cls := .type "list", data := .seq ([] : List Value).toArray }, toks := s2.toks } (upd H' s2.heap.objs.size (.lst [])) fp (clFor X.env.cells scope.names []) x v := fun j x v ex ev => by
    have hx := hX x (List.mem_of_getElem? ex)
    have hj : (caps.map (fun i => X.N[i]?))[j]? = some (some x) := by rw [hN, List.getElem?_map, ex]; rfl
    rw [List.getElem?_map] at ev hj
    cases hcj : caps[j]? with
    | none => rw [hcj] at ev; cases ev
    | some i =>
      rw [hcj] at ev hj
      have ev' : (σ[i]?).getD none = some v := by simpa using ev
      have hj' : X.N[i]? = some x := by simpa using hj
      have es : σ[i]? = some (some v) := by
        cases q : σ[i]? with
        | none => rw [q] at ev'; cases ev'
        | some w => rw [q] at ev'; have : w = some v := by simpa using ev'
                    rw [this]
      obtain ⟨m, hn, hlook⟩ := I3.loc
      obtain ⟨u, ru, lk⟩ := hlook i x v hj' es (.inr (.inl hx.1))
      rcases lk with ⟨k1, _⟩ | ⟨_, c, hc1, o, ho, hd⟩
      · have k1' : X.env.scope.names.lookup x = some .local := k1
        rw [hx.1] at k1'; cases k1'
      · have hmem : (x, NameKind.free) ∈ scope.names := by
          have hlk := hx.2
          have go : ∀ l : List (Str × NameKind), l.lookup x = some .free → (x, NameKind.free) ∈ l := by
            intro l
            induction l with
            | nil => intro z; cases z
            | cons p r ih =>
              intro z
              obtain ⟨n, k⟩ := p
              rw [List.lookup_cons] at z
              split at z
              · rename_i q; have q' : x = n := by simpa using q
                have z' : k = .free := by simpa using z
                rw [q', z']; exact List.mem_cons_self
              · exact List.mem_cons_of_mem _ (ih z)
          exact go _ hlk
        obtain ⟨c', hc'⟩ := clFor_has (cells := X.env.cells) scope.names [] (.inl hmem)
        have := clFor_some scope.names [] hcells (fun y d z => by cases z) hc'
        rw [hc1] at this
        cases this
        refine ⟨u, c, o, ru, hc', ho, hd, I3.freeC x c hc1, fun hb => ?_⟩
        exact (f3 c hb).2.2.2.2.1 x c hc1 rfl
  refine compF_block (s3 := { s2 with heap := s2.heap.push { cls := .type "list", data := .seq ([] : List Value).toArray }, toks := s2.toks }) (Qd := fun H => Q (.ref s2.heap.objs.size) H) (tk := s2.toks + ([] : List (Str × Value)).length) (cl := clFor X.env.cells scope.names [])
    hc hcell hkind (fun x c z => clFor_some scope.names [] hcells (fun y d z => by cases z) z) (fun x z => clFor_has scope.names [] (.inl z)) hsc hl hcap hg hq he I3 T st3 f3 rfl hns₁ old W m0 w0 turn fun s' H4 σ4 I4 q4 => ?_
  obtain ⟨m4, hn4, _⟩ := I4.loc
  have hCfree : H4 _ = none := I4.free
  have nC : ∀ b u, H4 b = some u → b ≠ (s2.heap.push { cls := .type "list", data := .seq ([] : List Value).toArray }).objs.size := fun b u e z => by
    rw [z] at e
    have := e.symm.trans hCfree
    cases this
  have lt : ∀ b o, (s2.heap.push { cls := .type "list", data := .seq ([] : List Value).toArray }).get? b = some o → b ≠ (s2.heap.push { cls := .type "list", data := .seq ([] : List Value).toArray }).objs.size := fun b o e => Nat.ne_of_lt (Heap.lt_size e)
  have ub := I4.base
  have fC : FpOk X pins H4 (s2.heap.push { cls := .type "list", data := .seq ([] : List Value).toArray }).objs.size := I3.fpOk (Nat.le_refl _) hCfree
  refine hU _ _ s' H4 m4 hn4 fC (fun h' hsb => ?_) q4
  have un : Un (frs X.stack) fp (upd H' s2.heap.objs.size (.lst [])) H4 (s2.heap.push { cls := .type "list", data := .seq ([] : List Value).toArray }) h' := {
    keep := fun b o e n x y => (hsb.2 b (lt b o e)).trans (ub.keep b o e n x y)
    slot := fun b o e n x y => let ⟨q, z⟩ := ub.slot b o e n x y; ⟨q, (hsb.2 b (lt b o e)).trans z⟩
    free := ub.free
    there := fun b o e y => let ⟨q, z⟩ := ub.there b o e y; ⟨q, (hsb.2 b (lt b o e)).trans z⟩
    tups := ub.tups
    frzs := ub.frzs
    tbls := ub.tbls }
  refine I3.call' (s' := { s' with heap := h' }) I4.os un (fun b u e => ?_) I4.bare fun b hb => ?_
  · refine (I4.hok b u e).stay (fun c v hcv q => (hsb.2 c ?_).trans q) (fun _ q => q) fun _ _ q => q
    rcases hcv with z | z
    · rw [z]; exact nC b u e
    · exact nC c _ z
  · obtain ⟨q0, q1, q2, q3, q4, q5⟩ := f3 b hb
    exact ⟨q3, q1, q4, q5⟩
theorem pe_compF (hc : X.calm = true) (hcell : ∀ x ∈ scope.names, x.2 ≠ .cell) (hkind : scope.kind = .function) (hnames : ∀ x ∈ scope.names, x.2 = .local → scope.names.lookup x.1 = some .local)
    (hfr : ∀ x ∈ scope.names, x.2 = .free → x.1 ∈ cps) (hN : caps.map (fun i => X.N[i]?) = cps.map some) (hX : ∀ x ∈ cps, X.env.scope.names.lookup x = some .cell ∧ scope.names.lookup x = some .free)
    (hsc : ∀ x ∈ cps, (relabel scope X.env).names.lookup x = some .cell ∨ (relabel scope X.env).names.lookup x = some .free)
    (hi : PI X tg iter wi) (hg : ∀ cl s3 H3 C fp pins, PG (cxF X scope cl (tgs ++ cps) s3 H3 C fp pins) tg g) (hq : ∀ cl s3 H3 C fp pins, PIfs (cxF X scope cl (tgs ++ cps) s3 H3 C fp pins) ifs tc) (he : ∀ cl s3 H3 C fp pins, PE (cxF X scope cl (tgs ++ cps) s3 H3 C fp pins) elt te)
    (hs : ∀ x, foldedSetIterable iter X.env x = pure x := by intro _; rfl) : PE X (.ListComp elt [⟨tg, iter, ifs, 0⟩] scope pos) (tCompF tgs.length caps wi g tc te) := by
  intro pins s σ H Q I h
  rw [eval_ListComp]
  exact compF_gen hc hcell hkind hnames hfr hN hX hsc hi hg hq he hs I h fun D C s' H4 m4 hn4 fC hI q4 => ⟨m4, hn4, fun h' hsb => ⟨.ref D, H4, hI h' hsb, rfl, q4⟩⟩
noncomputable def PU (X : Cx) (i : Nat) (x : Str) (pos' : Pos) (e : Expr) (te : TE) : Prop := ∀ (pins : List (Addr × Obj)) (s : Shared) (σ : St) (H : Hp) (Q : VK), Inv X pins σ H s → te σ H Q →
  wpAny (model X.prog X.w) X.A (evalThenUse e X.env (assign (.Name x pos') X.env)) (fun _ s' => ∃ v H', Inv X pins (σ.set i (some v)) H' s' ∧ Q v H') X.xe s
theorem PU.imp {X : Cx} {i : Nat} {x : Str} {pos' : Pos} {e : Expr} {t t' : TE} (h : PU X i x pos' e t) (f : ∀ σ H Q, t' σ H Q → t σ H Q) : PU X i x pos' e t' := fun pins s σ H Q I q => h pins s σ H Q I (f σ H Q q)
theorem ps_setU {i : Nat} {x : Str} {pos' pos : Pos} {e : Expr} {te : TE} (h : PU X i x pos' e te) (hs : swapsWith e (some (.Name x pos')) pos.line X.env = pure true) : PS X (.Assign [.Name x pos'] e pos) (tAsg te (gName i)) := by
  intro pins s σ H D I q
  rw [exec_Assign_Name_used _ _ _ _ hs]
  refine wpAny_bind (wpAny_standAt (wpAny_bind (thn (h pins s σ H _ I q) fun _ s1 ⟨v, H1, I1, q1⟩ => wpAny_pure ?_)))
  exact ⟨_, H1, I1, q1⟩
theorem pu_compF (hc : X.calm = true) (hcell : ∀ x ∈ scope.names, x.2 ≠ .cell) (hkind : scope.kind = .function) (hnames : ∀ x ∈ scope.names, x.2 = .local → scope.names.lookup x.1 = some .local)
    (hfr : ∀ x ∈ scope.names, x.2 = .free → x.1 ∈ cps) (hN : caps.map (fun i => X.N[i]?) = cps.map some) (hX : ∀ x ∈ cps, X.env.scope.names.lookup x = some .cell ∧ scope.names.lookup x = some .free)
    (hsc : ∀ x ∈ cps, (relabel scope X.env).names.lookup x = some .cell ∨ (relabel scope X.env).names.lookup x = some .free)
    (hi : PI X tg iter wi) (hg : ∀ cl s3 H3 C fp pins, PG (cxF X scope cl (tgs ++ cps) s3 H3 C fp pins) tg g) (hq : ∀ cl s3 H3 C fp pins, PIfs (cxF X scope cl (tgs ++ cps) s3 H3 C fp pins) ifs tc) (he : ∀ cl s3 H3 C fp pins, PE (cxF X scope cl (tgs ++ cps) s3 H3 C fp pins) elt te)
    {i : Nat} {x : Str} {pos' : Pos} (hNd : X.N.Nodup) (hxi : X.N[i]? = some x) (hx : Loc X.env.scope x) (hf : X.fn x = true ∨ X.env.scope.names.lookup x = some .local)
    (hs : ∀ x, foldedSetIterable iter X.env x = pure x := by intro _; rfl) : PU X i x pos' (.ListComp elt [⟨tg, iter, ifs, 0⟩] scope pos) (tCompF tgs.length caps wi g tc te) := by
  intro pins s σ H Q I h
  refine wpAny_bind (thn (compF_gen (use := some (assign (.Name x pos') X.env)) (Qf := fun _ s' => ∃ v H', Inv X pins (σ.set i (some v)) H' s' ∧ Q v H') hc hcell hkind hnames hfr hN hX hsc hi hg hq he hs I h fun D C s' H4 m4 hn4 fC hI q4 => ?_) fun _ s1 z => wpAny_pure z)
  have I4 : Inv X pins σ H4 s' := hI s'.heap (Heap.SameBut.refl _ _)
  show wpAny _ _ (assign (.Name x pos') X.env (.ref D)) _ _ s'
  refine wpAny_assign_Name (store_ok2 (v := .ref D) I4 hNd hxi hx rfl (fun s2 I2 ⟨a, hsb, ha⟩ => ?_) hf)
  have hac : C ≠ a := by
    rcases ha with ha | ha
    · rw [ha]; exact fC.2.1
    · exact Ne.symm (fC.2.2.2.2.1 x a ha)
  refine ⟨m4, hn4.sameBut hsb hac, fun h' hs' => ⟨.ref D, H4, ?_, q4⟩⟩
  exact I2.turned (t' := s2.toks) (fun b o hb e => hs'.extBut b o hb e) fC.1 fC.2.1 fC.2.2.2.1 fC.2.2.2.2.1 fC.2.2.2.2.2
end
end L2

namespace L2
open PySem
noncomputable def SI : Bool → Heap → Addr → Addr → Nat → Prop
  | true, h, it, a, i => h.IsListIter it a i
  | false, h, it, a, i => h.IsTupleIter it a i
noncomputable def SS : Bool → Heap → Addr → Array Value → Prop
  | true, h, a, xs => h.IsList a xs
  | false, h, a, xs => h.IsTuple a xs
theorem SI.at {k : Bool} {h h' : Heap} {it a : Addr} {i : Nat} (x : SI k h it a i) (f : ∀ o, h.get? it = some o → h'.get? it = some o) : SI k h' it a i := by
  cases k <;> (obtain ⟨o, e, r⟩ := x; exact ⟨o, f o e, r⟩)
theorem SS.at {k : Bool} {h h' : Heap} {a : Addr} {xs : Array Value} (x : SS k h a xs) (f : ∀ o, h.get? a = some o → h'.get? a = some o) : SS k h' a xs := by
  cases k <;> (obtain ⟨o, e, r⟩ := x; exact ⟨o, f o e, r⟩)
theorem SI.obj {k : Bool} {h : Heap} {it a : Addr} {i : Nat} (x : SI k h it a i) : ∃ o, h.get? it = some o ∧ ∀ v, o.data ≠ .cell v := by
  cases k <;> (obtain ⟨o, e, c, d⟩ := x; exact ⟨o, e, fun v z => by rw [d] at z; cases z⟩)
theorem SS.obj {k : Bool} {h : Heap} {a : Addr} {xs : Array Value} (x : SS k h a xs) : ∃ o, h.get? a = some o := by
  cases k <;> (obtain ⟨o, e, _⟩ := x; exact ⟨o, e⟩)
section
variable {prog : Program} {w : World} {A : Around} {E : Value → Shared → Prop} {s : Shared}
theorem tupleStep {p t : Addr} {n : Nat} {xs : Array Value} {v : Value} {Q : Value → Shared → Prop} (hp : s.heap.IsTupleIter p t n) (ht : s.heap.IsTuple t xs) (hv : xs[n]? = some v)
    (q : ∀ h', h'.IsTupleIter p t (n + 1) → Heap.SameBut p s.heap h' → Q v { s with heap := h' }) : wpAny (model prog w) A (Builtin.SmallTypes.nextOf (.ref p)) Q E s := by
  obtain ⟨ob, e1, e2, e3⟩ := id hp
  obtain ⟨ot, f1, _, cap, f2⟩ := ht
  unfold Builtin.SmallTypes.nextOf
  refine wpAny_bind (wpAny_callSpecial?_slot (name := Str.ofString "__next__") hp.typeIs F.slot_tuple_iterator_next (wpAny_call_entry F.slot_tuple_iterator_next hp.typeIs F.entry_tuple_iterator_next ?_ (F.args_tuple_iterator_next_1 _)))
  show wpAny _ _ (field (.ref p) 0 >>= _) _ _ s
  refine wpAny_bind (wpAny_field e1 e3 (x := .ref t) rfl ?_)
  show wpAny _ _ (if (Value.ref t == Value.none) = true then _ else _) _ _ s
  rw [if_neg (fun z : (Value.ref t == Value.none) = true => nomatch z)]
  show wpAny _ _ (field (.ref p) 1 >>= _) _ _ s
  refine wpAny_bind (wpAny_field e1 e3 (x := .int n 0) rfl ?_)
  show wpAny _ _ (seqItems? (.ref t) >>= _) _ _ s
  refine wpAny_bind (wpAny_seqItems f1 f2 ?_)
  simp only [Int.toNat_natCast, hv]
  refine wpAny_bind (wpAny_setField e1 e3 (by simp) (wpAny_pure ⟨v, rfl, wpAny_pure (q _ ⟨_, Heap.get?_update_self _ e1 (Obj.isFreed_of_fields (Obj.data_mapFields e3 _)), (Obj.cls_mapFields ..).trans e2, ?_⟩ (Heap.SameBut.update ..))⟩))
  rw [Obj.data_mapFields e3]; simp [rawInt]
theorem tupleEnd {p t : Addr} {n : Nat} {xs : Array Value} {Q : Value → Shared → Prop} (hA : A.handled = none) (hp : s.heap.IsTupleIter p t n) (ht : s.heap.IsTuple t xs) (hv : xs[n]? = none)
    (q : ∀ h' e, Heap.ExtBut p s.heap h' → (∃ o, h'.get? e = some o ∧ o.cls = .type "StopIteration") → E (.ref e) { s with heap := h' }) : wpAny (model prog w) A (Builtin.SmallTypes.nextOf (.ref p)) Q E s := by
  obtain ⟨ob, e1, e2, e3⟩ := id hp
  obtain ⟨ot, f1, _, cap, f2⟩ := ht
  unfold Builtin.SmallTypes.nextOf
  refine wpAny_bind (wpAny_callSpecial?_slot (name := Str.ofString "__next__") hp.typeIs F.slot_tuple_iterator_next (wpAny_call_entry F.slot_tuple_iterator_next hp.typeIs F.entry_tuple_iterator_next ?_ (F.args_tuple_iterator_next_1 _)))
  show wpAny _ _ (field (.ref p) 0 >>= _) _ _ s
  refine wpAny_bind (wpAny_field e1 e3 (x := .ref t) rfl ?_)
  show wpAny _ _ (if (Value.ref t == Value.none) = true then _ else _) _ _ s
  rw [if_neg (fun z : (Value.ref t == Value.none) = true => nomatch z)]
  show wpAny _ _ (field (.ref p) 1 >>= _) _ _ s
  refine wpAny_bind (wpAny_field e1 e3 (x := .int n 0) rfl ?_)
  show wpAny _ _ (seqItems? (.ref t) >>= _) _ _ s
  refine wpAny_bind (wpAny_seqItems f1 f2 ?_)
  simp only [Int.toNat_natCast, hv]
  refine wpAny_bind (wpAny_rule (wpAny_bind (wpAny_setField e1 e3 (by simp) ?_)))
  show wpAny _ _ (newExc (.type "StopIteration") [] >>= _) _ _ _
  refine wpAny_bind ?_; simp only [newExc, newTuple]
  refine wpAny_bind (wpAny_newObj_type ?_ (by size_fits)); refine wpAny_bind (m := firstArgMember _ _) (wpAny_of_eq (a := Value.none) (by first | rfl | (simp only [firstArgMember]; rfl)) ?_)
  refine wpAny_newObj_type ?_ (by size_fits); simp only [raiseNew]; refine wpAny_bind (wpAny_handled ?_)
  first | rw [show A.in1.handled = none from hA] | rw [hA]
  refine wpAny_bind (wpAny_pure (wpAny_throw (q _ _ (((Heap.SameBut.update ..).extBut.push _).push _) ⟨_, Heap.get?_push_size _ rfl, rfl⟩)))
theorem seqStep {k : Bool} {p a : Addr} {n : Nat} {xs : Array Value} {v : Value} {Q : Value → Shared → Prop} (hp : SI k s.heap p a n) (ha : SS k s.heap a xs) (hv : xs[n]? = some v)
    (q : ∀ h', SI k h' p a (n + 1) → Heap.SameBut p s.heap h' → Q v { s with heap := h' }) : wpAny (model prog w) A (Builtin.SmallTypes.nextOf (.ref p)) Q E s := by
  cases k with
  | true => exact wpAny_nextOf_list_item hp ha hv q
  | false => exact tupleStep hp ha hv q
theorem seqEnd {k : Bool} {p a : Addr} {n : Nat} {xs : Array Value} {Q : Value → Shared → Prop} (hA : A.handled = none) (hp : SI k s.heap p a n) (ha : SS k s.heap a xs) (hv : xs[n]? = none)
    (q : ∀ h' e, Heap.ExtBut p s.heap h' → (∃ o, h'.get? e = some o ∧ o.cls = .type "StopIteration") → E (.ref e) { s with heap := h' }) : wpAny (model prog w) A (Builtin.SmallTypes.nextOf (.ref p)) Q E s := by
  cases k with
  | true => exact wpAny_nextOf_list_end hA hp ha hv q
  | false => exact tupleEnd hA hp ha hv q
theorem SI.but {k : Bool} {h h' : Heap} {it a b : Addr} {i : Nat} (x : SI k h it a i) (e : Heap.ExtBut b h h') (n : it ≠ b) : SI k h' it a i := x.at fun o z => e it o n z
theorem SS.but {k : Bool} {h h' : Heap} {a b : Addr} {xs : Array Value} (x : SS k h a xs) (e : Heap.ExtBut b h h') (n : a ≠ b) : SS k h' a xs := x.at fun o z => e a o n z
theorem zipTurn {z TI TO p1 p2 l1 l2 : Addr} {c1 c2 : Bool} {n1 n2 : Nat} {xs ys : Array Value} {v1 v2 u1 u2 : Value} {Q : Option Value → Shared → Prop} (D : ZipApart z TI TO p1 p2 l1 l2)
    (iz : IsZip s.heap z TI TO .none) (iI : IsPair s.heap TI (.ref p1) (.ref p2)) (iO : IsPair s.heap TO u1 u2) (g1 : SI c1 s.heap p1 l1 n1) (g2 : SI c2 s.heap p2 l2 n2) (m1 : SS c1 s.heap l1 xs) (m2 : SS c2 s.heap l2 ys) (w1 : xs[n1]? = some v1) (w2 : ys[n2]? = some v2)
    (q : ∀ h', IsZip h' z TI TO (rawInt s.heap.objs.size) → IsPair h' TO v1 v2 → SI c1 h' p1 l1 (n1 + 1) → SI c2 h' p2 l2 (n2 + 1) → IsPair h' s.heap.objs.size v1 v2 → h'.objs.size = s.heap.objs.size + 1 →
      (∀ b o, b ≠ z → b ≠ TO → b ≠ p1 → b ≠ p2 → s.heap.get? b = some o → h'.get? b = some o) → Q (some (.ref s.heap.objs.size)) { s with heap := h' }) : wpAny (model prog w) A (pyNext (.ref z)) Q E s := by
  have ty : s.TypeIs (.ref z) "zip" := ⟨_, iz, rfl⟩
  unfold pyNext
  refine wpAny_bind (wpAny_attempt (wpAny_callSpecial?_slot (name := Str.ofString "__next__") ty F.slot_zip_next (wpAny_call_entry F.slot_zip_next ty F.entry_zip_next ?_ (F.args_zip_next_1 _))))
  show wpAny _ _ (field (.ref z) 2 >>= _) _ _ _
  refine wpAny_bind (wpAny_field iz rfl (x := .bool false) rfl ?_)
  show wpAny _ _ (field (.ref z) 3 >>= _) _ _ _
  refine wpAny_bind (wpAny_field iz rfl (x := .ref TI) rfl (wpAny_bind (wpAny_seqItems iI rfl ?_)))
  show wpAny _ _ (Builtin.SmallTypes.ownedTupleIsFree (.ref z) >>= _) _ _ _
  refine wpAny_bind ?_; unfold Builtin.SmallTypes.ownedTupleIsFree
  refine wpAny_bind (wpAny_field iz rfl (x := .none) rfl (wpAny_pure ?_)); simp only [if_true]
  refine wpAny_bind (wpAny_rule (wpAny_bind (wpAny_field iz rfl (x := .ref TO) rfl (wpAny_bind (wpAny_setField_rec iz (by simp) fun ha za sa => ?_)))))
  replace za : IsZip ha z TI TO .ellipsis := za
  refine wpAny_bind ?_; simp only [List.zipIdx_cons, List.zipIdx_nil, List.forIn_cons, List.forIn_nil]
  refine wpAny_bind (wpAny_bind (wpAny_onRaise ?_))
  show wpAny _ _ (Builtin.SmallTypes.nextOf (.ref p1) >>= _) _ _ _
  refine wpAny_bind (seqStep (g1.but sa.extBut D.i1z) (m1.but sa.extBut D.l1z) w1 fun hb gb sb => wpAny_pure ?_)
  have oB : IsPair hb TO u1 u2 := sb.extBut _ _ D.TOi1 (sa.extBut _ _ D.TOz iO)
  refine wpAny_bind (wpAny_seqItems oB rfl (wpAny_bind (wpAny_updateSeq_pair oB fun hc oC sc => ?_)))
  replace oC : IsPair hc TO v1 u2 := oC
  refine wpAny_bind (wpAny_letGo (wpAny_pure (wpAny_bind (wpAny_bind (wpAny_onRaise ?_)))))
  show wpAny _ _ (Builtin.SmallTypes.nextOf (.ref p2) >>= _) _ _ _
  refine wpAny_bind (seqStep (((g2.but sa.extBut D.i2z).but sb.extBut D.i12.symm).but sc.extBut D.TOi2.symm) (((m2.but sa.extBut D.l2z).but sb.extBut D.l2i1).but sc.extBut D.l2TO) w2 fun hd gd sd => wpAny_pure ?_)
  have oD : IsPair hd TO v1 u2 := sd.extBut _ _ D.TOi2 oC
  refine wpAny_bind (wpAny_seqItems oD rfl (wpAny_bind (wpAny_updateSeq_pair oD fun he oE se => ?_)))
  replace oE : IsPair he TO v1 v2 := oE
  refine wpAny_bind (wpAny_letGo (wpAny_pure (wpAny_pure (wpAny_bind (wpAny_seqItems oE rfl (wpAny_bind (wpAny_newTuple ?_)))))))
  have zs : he.objs.size = s.heap.objs.size := by rw [se.1, sd.1, sc.1, sb.1, sa.1]
  have zE : IsZip he z TI TO .ellipsis := se.extBut _ _ D.TOz.symm (sd.extBut _ _ D.i2z.symm (sc.extBut _ _ D.TOz.symm (sb.extBut _ _ D.i1z.symm za)))
  have kE : ∀ b o, b ≠ z → b ≠ TO → b ≠ p1 → b ≠ p2 → s.heap.get? b = some o → he.get? b = some o := fun b o b1 b2 b3 b4 e => se.extBut _ _ b2 (sd.extBut _ _ b4 (sc.extBut _ _ b2 (sb.extBut _ _ b3 (sa.extBut _ _ b1 e))))
  have gE1 : SI c1 he p1 l1 (n1 + 1) := ((gb.but sc.extBut D.TOi1.symm).but sd.extBut D.i12).but se.extBut D.TOi1.symm
  have gE2 : SI c2 he p2 l2 (n2 + 1) := gd.but se.extBut D.TOi2.symm
  have ltz : z < he.objs.size := Heap.lt_size zE
  show wpAny _ _ (Builtin.SmallTypes.ownedTupleHandOut (.ref z) (.ref he.objs.size) >>= _) _ _ _
  refine wpAny_bind ?_; unfold Builtin.SmallTypes.ownedTupleHandOut
  refine wpAny_bind (wpAny_setField_rec (Heap.get?_push_of_some _ zE) (by simp) fun hf zf sf => ?_)
  replace zf : IsZip hf z TI TO (rawInt he.objs.size) := zf
  refine wpAny_setField_rec zf (by simp) fun hg zg sg => ?_
  replace zg : IsZip hg z TI TO (rawInt he.objs.size) := zg
  have lift : ∀ b o, b ≠ z → he.get? b = some o → hg.get? b = some o := fun b o b1 e => sg.extBut _ _ b1 (sf.extBut _ _ b1 (Heap.get?_push_of_some _ e))
  have tG : IsPair hg he.objs.size v1 v2 := sg.extBut _ _ (Nat.ne_of_gt ltz) (sf.extBut _ _ (Nat.ne_of_gt ltz) (Heap.get?_push_size _ rfl))
  have zz : hg.objs.size = he.objs.size + 1 := by rw [sg.1, sf.1, Heap.size_push]
  rw [zs] at zg tG zz
  refine wpAny_pure ⟨_, rfl, wpAny_pure ?_⟩
  show Q (some (.ref he.objs.size)) _
  rw [zs]
  exact q hg zg (lift _ _ D.TOz oE) (gE1.at fun o e => lift _ o D.i1z e) (gE2.at fun o e => lift _ o D.i2z e) tG zz fun b o b1 b2 b3 b4 e => lift b o b1 (kE b o b1 b2 b3 b4 e)
theorem zipEnd {z TI TO p1 p2 l1 l2 : Addr} {c1 c2 : Bool} {n1 n2 : Nat} {xs ys : Array Value} {u1 u2 : Value} {Q : Option Value → Shared → Prop} (hA : A.handled = none) (D : ZipApart z TI TO p1 p2 l1 l2)
    (iz : IsZip s.heap z TI TO .none) (iI : IsPair s.heap TI (.ref p1) (.ref p2)) (iO : IsPair s.heap TO u1 u2) (g1 : SI c1 s.heap p1 l1 n1) (g2 : SI c2 s.heap p2 l2 n2) (m1 : SS c1 s.heap l1 xs) (m2 : SS c2 s.heap l2 ys) (fin : xs[n1]? = none ∨ ys[n2]? = none)
    (q : ∀ h', (∀ b o, b ≠ z → b ≠ TO → b ≠ p1 → b ≠ p2 → s.heap.get? b = some o → h'.get? b = some o) → Q none { s with heap := h' }) : wpAny (model prog w) A (pyNext (.ref z)) Q E s := by
  have ty : s.TypeIs (.ref z) "zip" := ⟨_, iz, rfl⟩
  unfold pyNext
  have out : ∀ (h' : Heap) (e : Addr), (∀ b o, b ≠ z → b ≠ TO → b ≠ p1 → b ≠ p2 → s.heap.get? b = some o → h'.get? b = some o) → (∃ o, h'.get? e = some o ∧ o.cls = .type "StopIteration") →
      wpAny (model prog w) A (do if ← isInstance (.ref e) (.type "StopIteration") then pure none else throw (.ref e) : Sem (Option Value)) Q E { s with heap := h' } := fun h' e k ⟨o, e1, e2⟩ =>
    wpAny_bind (wpAny_isInstance (T := "StopIteration") (b := true) ⟨o, e1, e2⟩ isSubtype_stop (wpAny_pure (q h' k)))
  refine wpAny_bind (wpAny_attempt (wpAny_callSpecial?_slot (name := Str.ofString "__next__") ty F.slot_zip_next (wpAny_call_entry F.slot_zip_next ty F.entry_zip_next ?_ (F.args_zip_next_1 _))))
  show wpAny _ _ (field (.ref z) 2 >>= _) _ _ _
  refine wpAny_bind (wpAny_field iz rfl (x := .bool false) rfl ?_)
  show wpAny _ _ (field (.ref z) 3 >>= _) _ _ _
  refine wpAny_bind (wpAny_field iz rfl (x := .ref TI) rfl (wpAny_bind (wpAny_seqItems iI rfl ?_)))
  show wpAny _ _ (Builtin.SmallTypes.ownedTupleIsFree (.ref z) >>= _) _ _ _
  refine wpAny_bind ?_; unfold Builtin.SmallTypes.ownedTupleIsFree
  refine wpAny_bind (wpAny_field iz rfl (x := .none) rfl (wpAny_pure ?_)); simp only [if_true]
  refine wpAny_bind (wpAny_rule (wpAny_bind (wpAny_field iz rfl (x := .ref TO) rfl (wpAny_bind (wpAny_setField_rec iz (by simp) fun ha za sa => ?_)))))
  replace za : IsZip ha z TI TO .ellipsis := za
  refine wpAny_bind ?_; simp only [List.zipIdx_cons, List.zipIdx_nil, List.forIn_cons, List.forIn_nil]
  refine wpAny_bind (wpAny_bind (wpAny_onRaise ?_))
  show wpAny _ _ (Builtin.SmallTypes.nextOf (.ref p1) >>= _) _ _ _
  cases w1 : xs[n1]? with
  | none =>
    refine wpAny_bind (seqEnd hA (g1.but sa.extBut D.i1z) (m1.but sa.extBut D.l1z) w1 fun hb e sb zz => ?_)
    obtain ⟨oe, oe1, oe2⟩ := zz
    have zb : IsZip hb z TI TO .ellipsis := sb _ _ D.i1z.symm za
    have nz : e ≠ z := fun y => by subst y; rw [zb] at oe1; cases oe1; simp at oe2
    refine wpAny_setField_rec zb (by simp) fun hc _ sc => out hc e (fun b o b1 _ b3 _ y => sc.extBut _ _ b1 (sb _ _ b3 (sa.extBut _ _ b1 y))) ⟨oe, sc.extBut _ _ nz oe1, oe2⟩
  | some v1 =>
    have w2 : ys[n2]? = none := fin.resolve_left (by rw [w1]; exact fun y => nomatch y)
    refine wpAny_bind (seqStep (g1.but sa.extBut D.i1z) (m1.but sa.extBut D.l1z) w1 fun hb gb sb => wpAny_pure ?_)
    have oB : IsPair hb TO u1 u2 := sb.extBut _ _ D.TOi1 (sa.extBut _ _ D.TOz iO)
    refine wpAny_bind (wpAny_seqItems oB rfl (wpAny_bind (wpAny_updateSeq_pair oB fun hc oC sc => ?_)))
    refine wpAny_bind (wpAny_letGo (wpAny_pure (wpAny_bind (wpAny_bind (wpAny_onRaise ?_)))))
    show wpAny _ _ (Builtin.SmallTypes.nextOf (.ref p2) >>= _) _ _ _
    refine wpAny_bind (seqEnd hA (((g2.but sa.extBut D.i2z).but sb.extBut D.i12.symm).but sc.extBut D.TOi2.symm) (((m2.but sa.extBut D.l2z).but sb.extBut D.l2i1).but sc.extBut D.l2TO) w2 fun hd e sd zz => ?_)
    obtain ⟨oe, oe1, oe2⟩ := zz
    have zd : IsZip hd z TI TO .ellipsis := sd _ _ D.i2z.symm (sc.extBut _ _ D.TOz.symm (sb.extBut _ _ D.i1z.symm za))
    have nz : e ≠ z := fun y => by subst y; rw [zd] at oe1; cases oe1; simp at oe2
    refine wpAny_setField_rec zd (by simp) fun he _ se => out he e (fun b o b1 b2 b3 b4 y => se.extBut _ _ b1 (sd _ _ b4 (sc.extBut _ _ b2 (sb.extBut _ _ b3 (sa.extBut _ _ b1 y))))) ⟨oe, se.extBut _ _ nz oe1, oe2⟩
end
noncomputable abbrev itO (k : Bool) (a : Addr) : Obj := { cls := .type (if k then "list_iterator" else "tuple_iterator"), data := .fields #[.ref a, .int 0 0] }
noncomputable abbrev zA (k1 : Bool) (h : Heap) (l1 : Addr) : Heap := h.push (itO k1 l1)
noncomputable abbrev zB (k1 k2 : Bool) (h : Heap) (l1 l2 : Addr) : Heap := (zA k1 h l1).push (itO k2 l2)
noncomputable abbrev zC (k1 k2 : Bool) (h : Heap) (l1 l2 : Addr) : Heap := (zB k1 k2 h l1 l2).push { cls := .type "tuple", data := .seq #[.ref h.objs.size, .ref (zA k1 h l1).objs.size] }
noncomputable abbrev zD (k1 k2 : Bool) (h : Heap) (l1 l2 : Addr) : Heap := (zC k1 k2 h l1 l2).push { cls := .type "tuple", data := .seq #[.none, .none] }
noncomputable abbrev zE (k1 k2 : Bool) (h : Heap) (l1 l2 : Addr) : Heap := (zD k1 k2 h l1 l2).push { cls := .type "zip", data := .fields #[.none, .bool false, .bool false, .ref (zB k1 k2 h l1 l2).objs.size, .ref (zC k1 k2 h l1 l2).objs.size] }
set_option maxHeartbeats 2000000 in
theorem zipNew (k1 k2 : Bool) (l1 l2 : Addr) (xs ys : Array Value) :
    Meets (Builtin.«zip.__new__» ⟨[.type "zip", .ref l1, .ref l2], []⟩) (fun _ R s => SS k1 s.heap l1 xs ∧ SS k2 s.heap l2 ys ∧ R (.ok (.ret (.ref (zD k1 k2 s.heap l1 l2).objs.size))) { s with heap := zE k1 k2 s.heap l1 l2 }) :=
  .of_wp fun prog w A R s h => by
    obtain ⟨hp, g, d, tk, os⟩ := s
    obtain ⟨ha, hb, h⟩ := h
    have hsub := sub_zip
    cases k1 with
    | true =>
      have a1 : Heap.IsList (Shared.heap ⟨hp, g, d, tk, os⟩) l1 xs := ha
      cases k2 with
      | true =>
        have a2 : Heap.IsList (Shared.heap ⟨hp.push { cls := .type "list_iterator", data := .fields #[.ref l1, .int 0 0] }, g, d, tk, os⟩) l2 ys := Heap.IsList.push hb _
        wp_walk using wpAny_pyIter_list a1, wpAny_pyIter_list a2
        exact ⟨_, rfl, h⟩
      | false =>
        have a2 : Heap.IsTuple (Shared.heap ⟨hp.push { cls := .type "list_iterator", data := .fields #[.ref l1, .int 0 0] }, g, d, tk, os⟩) l2 ys := Heap.IsTuple.push hb _
        wp_walk using wpAny_pyIter_list a1, wpAny_pyIter_tuple a2
        exact ⟨_, rfl, h⟩
    | false =>
      have a1 : Heap.IsTuple (Shared.heap ⟨hp, g, d, tk, os⟩) l1 xs := ha
      cases k2 with
      | true =>
        have a2 : Heap.IsList (Shared.heap ⟨hp.push { cls := .type "tuple_iterator", data := .fields #[.ref l1, .int 0 0] }, g, d, tk, os⟩) l2 ys := Heap.IsList.push hb _
        wp_walk using wpAny_pyIter_tuple a1, wpAny_pyIter_list a2
        exact ⟨_, rfl, h⟩
      | false =>
        have a2 : Heap.IsTuple (Shared.heap ⟨hp.push { cls := .type "tuple_iterator", data := .fields #[.ref l1, .int 0 0] }, g, d, tk, os⟩) l2 ys := Heap.IsTuple.push hb _
        wp_walk using wpAny_pyIter_tuple a1, wpAny_pyIter_tuple a2
        exact ⟨_, rfl, h⟩
section
variable {prog : Program} {w : World} {A : Around} {E : Value → Shared → Prop} {s : Shared}
theorem callZip {k1 k2 : Bool} {l1 l2 : Addr} {xs ys : Array Value} {Q : Value → Shared → Prop} (ha : SS k1 s.heap l1 xs) (hb : SS k2 s.heap l2 ys)
    (q : ∀ h', IsZip h' (s.heap.objs.size + 4) (s.heap.objs.size + 2) (s.heap.objs.size + 3) .none → IsPair h' (s.heap.objs.size + 2) (.ref s.heap.objs.size) (.ref (s.heap.objs.size + 1)) → IsPair h' (s.heap.objs.size + 3) .none .none →
      SI k1 h' s.heap.objs.size l1 0 → SI k2 h' (s.heap.objs.size + 1) l2 0 → h'.objs.size = s.heap.objs.size + 5 → (∀ b o, s.heap.get? b = some o → h'.get? b = some o) → Q (.ref (s.heap.objs.size + 4)) { s with heap := h' }) :
    wpAny (model prog w) A (call (.type "zip") [.ref l1, .ref l2]) Q E s := by
  refine callType_new F.called_zip (by decide) (F.typeCall_zip_2 _ _) (F.newCall_zip_2 _ _) (fun obj => F.args_object_init_3 obj _ _) F.entry_zip_new (zipNew k1 k2 l1 l2 xs ys) ⟨ha, hb, ?_⟩
  have s1 : (zA k1 s.heap l1).objs.size = s.heap.objs.size + 1 := Heap.size_push ..
  have s2 : (zB k1 k2 s.heap l1 l2).objs.size = s.heap.objs.size + 2 := (Heap.size_push ..).trans (by rw [s1])
  have s3 : (zC k1 k2 s.heap l1 l2).objs.size = s.heap.objs.size + 3 := (Heap.size_push ..).trans (by rw [s2])
  have s4 : (zD k1 k2 s.heap l1 l2).objs.size = s.heap.objs.size + 4 := (Heap.size_push ..).trans (by rw [s3])
  have s5 : (zE k1 k2 s.heap l1 l2).objs.size = s.heap.objs.size + 5 := (Heap.size_push ..).trans (by rw [s4])
  have o5 : (zE k1 k2 s.heap l1 l2).get? (zD k1 k2 s.heap l1 l2).objs.size = some _ := Heap.get?_push_size _ rfl
  have up1 : ∀ b o, (zD k1 k2 s.heap l1 l2).get? b = some o → (zE k1 k2 s.heap l1 l2).get? b = some o := fun b o e => Heap.get?_push_of_some _ e
  have o4 : (zE k1 k2 s.heap l1 l2).get? (zC k1 k2 s.heap l1 l2).objs.size = some _ := up1 _ _ (Heap.get?_push_size _ rfl)
  have up2 : ∀ b o, (zC k1 k2 s.heap l1 l2).get? b = some o → (zE k1 k2 s.heap l1 l2).get? b = some o := fun b o e => up1 b o (Heap.get?_push_of_some _ e)
  have o3 : (zE k1 k2 s.heap l1 l2).get? (zB k1 k2 s.heap l1 l2).objs.size = some _ := up2 _ _ (Heap.get?_push_size _ rfl)
  have up3 : ∀ b o, (zB k1 k2 s.heap l1 l2).get? b = some o → (zE k1 k2 s.heap l1 l2).get? b = some o := fun b o e => up2 b o (Heap.get?_push_of_some _ e)
  have o2 : (zE k1 k2 s.heap l1 l2).get? (zA k1 s.heap l1).objs.size = some (itO k2 l2) := up3 _ _ (Heap.get?_push_size _ rfl)
  have up4 : ∀ b o, (zA k1 s.heap l1).get? b = some o → (zE k1 k2 s.heap l1 l2).get? b = some o := fun b o e => up3 b o (Heap.get?_push_of_some _ e)
  have o1 : (zE k1 k2 s.heap l1 l2).get? s.heap.objs.size = some (itO k1 l1) := up4 _ _ (Heap.get?_push_size _ rfl)
  have mk : ∀ (k : Bool) (b a : Addr), (zE k1 k2 s.heap l1 l2).get? b = some (itO k a) → SI k (zE k1 k2 s.heap l1 l2) b a 0 := fun k b a e => by cases k <;> exact ⟨_, e, rfl, rfl⟩
  show _ ∧ _
  rw [s2, s3, s4] at o5
  rw [s1, s2] at o3
  rw [s3] at o4
  rw [s1] at o2
  rw [s4]
  exact ⟨⟨_, o5, rfl⟩, q _ o5 o3 o4 (mk _ _ _ o1) (mk _ _ _ o2) s5 fun b o e => up4 b o (Heap.get?_push_of_some _ e)⟩
end
end L2

namespace L2
open PySem PySem.Spec PyProof.Rows
section
variable {X : Cx} {pins : List (Addr × Obj)} {σ : St} {H : Hp} {s : Shared} {h' : Heap}
theorem Inv.turnedN {t' : Nat} {ch : List Addr} (I : Inv X pins σ H s) (k : ∀ b o, b ∉ ch → s.heap.get? b = some o → h'.get? b = some o) (hf : ∀ b ∈ ch, FpOk X pins H b) : Inv X pins σ H { s with heap := h', toks := t' } := by
  have nit : ∀ b u, H b = some u → b ∉ ch := fun b u e z => by rw [(hf b z).1] at e; cases e
  refine I.step (g' := s.gens) (d' := s.drawn) (ch := ch) (fun b hb => ?_) (fun b o _ _ hc e _ => k b o hc e) (fun b o _ _ hc e _ => ⟨o.slots, k b o hc e⟩) (fun _ _ _ _ n => n)
    (fun b o hc e => ⟨o, k b o hc e⟩) (fun _ _ e => e) (fun _ _ _ e => e) (fun b ps e => ⟨#[], by rw [e]; simp⟩) (fun m hm => ?_) (fun b u e => ?_) I.bare
  · obtain ⟨_, q1, _, q3, q4, q5⟩ := hf b hb
    exact ⟨q3, q1, q4, q5⟩
  · obtain ⟨o, es, ep, ho, r⟩ := hm
    exact ⟨o, es, ep, k _ o (fun z => (hf _ z).2.1 rfl) ho, r⟩
  · refine (I.hok b u e).stay (fun c v hc q => k c v ?_ q) (fun _ q => q) fun _ _ q => q
    rcases hc with z | z
    · rw [z]; exact nit b u e
    · exact nit c _ z
end
noncomputable def SqK (K : PySem.W.Frag) (k : Bool) (H : Hp) (a : Addr) (xs : List V) : Prop := if k = true then SqL K H a xs else SqT K H a xs
theorem Inv.sqk {X : Cx} {pins : List (Addr × Obj)} {σ : St} {H : Hp} {s : Shared} (I : Inv X pins σ H s) {k : Bool} {a : Addr} {xs : List V} (h : SqK X.K k H a xs) : ∃ its : List Value, Vals xs its ∧ SS k s.heap a its.toArray := by
  cases k with
  | true =>
    obtain ⟨its, r, p, _⟩ := I.list (show SqL X.K H a xs from h)
    exact ⟨its, r, p.isList⟩
  | false =>
    obtain ⟨its, r, p, _⟩ := I.tuple (show SqT X.K H a xs from h)
    exact ⟨its, r, p⟩
theorem Inv.sqk_inj {X : Cx} {pins : List (Addr × Obj)} {σ : St} {H : Hp} {s : Shared} (I : Inv X pins σ H s) {k : Bool} {a : Addr} {xs ys : List V} (h : SqK X.K k H a xs) (h2 : SqK X.K k H a ys) : xs = ys := by
  cases k with
  | true => exact I.list_inj (show SqL X.K H a xs from h) (show SqL X.K H a ys from h2)
  | false => exact I.tuple_inj (show SqT X.K H a xs from h) (show SqT X.K H a ys from h2)
noncomputable def Itz (K : PySem.W.Frag) (k1 k2 : Bool) (l1 l2 : Addr) : It :=
  ⟨fun i H => ∃ xs ys x y, SqK K k1 H l1 xs ∧ SqK K k2 H l2 ys ∧ xs[i]? = some x ∧ ys[i]? = some y,
   fun i H v H' => ∃ T x y, H T = none ∧ v = .ref T ∧ H' = upd H T (.tup [x, y]) ∧ (∀ xs, SqK K k1 H l1 xs → xs[i]? = some x) ∧ ∀ ys, SqK K k2 H l2 ys → ys[i]? = some y,
   fun i H => ∃ xs ys, SqK K k1 H l1 xs ∧ SqK K k2 H l2 ys ∧ (xs.length ≤ i ∨ ys.length ≤ i)⟩
noncomputable def ZipSt (k1 k2 : Bool) (z TI TO p1 p2 l1 l2 : Addr) (i : Nat) (h : Heap) : Prop := IsZip h z TI TO .none ∧ IsPair h TI (.ref p1) (.ref p2) ∧ (∃ a b, IsPair h TO a b) ∧ SI k1 h p1 l1 i ∧ SI k2 h p2 l2 i
theorem turn_zip {P : Program} {w : World} {K : PySem.W.Frag} {elts : List Expr} {kx : Nat} {tp : Pos} {k1 k2 : Bool} {z TI TO p1 p2 l1 l2 : Addr} (D : ZipApart z TI TO p1 p2 l1 l2) :
    Turn P w K (.Tuple elts kx tp) (Itz K k1 k2 l1 l2) [z, TI, TO, p1, p2] z (ZipSt k1 k2 z TI TO p1 p2 l1 l2) where
  mem := by simp
  obj := fun i h ⟨iz, iI, ⟨a, b, iO⟩, g1, g2⟩ c hc => by
    simp only [List.mem_cons, List.not_mem_nil, or_false] at hc
    rcases hc with rfl | rfl | rfl | rfl | rfl
    · exact ⟨_, iz, fun v e => by cases e⟩
    · exact ⟨_, iI, fun v e => by cases e⟩
    · exact ⟨_, iO, fun v e => by cases e⟩
    · exact g1.obj
    · exact g2.obj
  keep := fun i h h' ⟨iz, iI, ⟨a, b, iO⟩, g1, g2⟩ k => ⟨k z (by simp) _ iz, k TI (by simp) _ iI, ⟨a, b, k TO (by simp) _ iO⟩, g1.at fun o e => k p1 (by simp) o e, g2.at fun o e => k p2 (by simp) o e⟩
  item := by
    intro X hP hw hK hc i pins s σ H E I hf st hg
    subst hP hw hK
    obtain ⟨iz, iI, ⟨a, b, iO⟩, g1, g2⟩ := st
    obtain ⟨xs, ys, x, y, q1, q2, hx, hy⟩ := hg
    obtain ⟨is1, r1, m1⟩ := I.sqk q1
    obtain ⟨is2, r2, m2⟩ := I.sqk q2
    obtain ⟨u1, hu1, ru1⟩ := r1.get hx
    obtain ⟨u2, hu2, ru2⟩ := r2.get hy
    refine zipTurn D iz iI iO g1 g2 m1 m2 (v1 := u1) (v2 := u2) (by simpa using hu1) (by simpa using hu2) fun h' a1 a2 a3 a4 a5 a6 kk => ?_
    refine ⟨_, rfl, ?_⟩
    refine wpAny_letOwnedTupleGo_zip (s := { s with heap := h' }) a1 fun h2 b1 b2 => ?_
    have lt : ∀ {c o}, s.heap.get? c = some o → c ≠ s.heap.objs.size := fun e => Nat.ne_of_lt (Heap.lt_size e)
    have nz : s.heap.objs.size ≠ z := Ne.symm (lt iz)
    have I1 : Inv X pins σ (upd H s.heap.objs.size (.tup [x, y])) { s with heap := s.heap.push { cls := .type "tuple", data := .seq #[u1, u2] }, toks := s.toks } :=
      I.laid (o := .tup [x, y]) (fun b ob q => Heap.get?_push_of_some _ q) (Nat.le_refl _) ⟨(show 2 ≤ sizeLine by decide), [u1, u2], .cons ru1 (.cons ru2 .nil), IsTup.new _ _⟩
    have nfp : ∀ c ∈ [z, TI, TO, p1, p2], c ≠ s.heap.objs.size := fun c hc => by
      simp only [List.mem_cons, List.not_mem_nil, or_false] at hc
      rcases hc with rfl | rfl | rfl | rfl | rfl
      · exact lt iz
      · exact lt iI
      · exact lt iO
      · obtain ⟨o, e, _⟩ := g1.obj; exact lt e
      · obtain ⟨o, e, _⟩ := g2.obj; exact lt e
    have hf' : ∀ c ∈ [z, TI, TO, p1, p2], FpOk X pins (upd H s.heap.objs.size (.tup [x, y])) c := fun c hc => by
      obtain ⟨f0, f1⟩ := hf c hc
      exact ⟨by rw [upd_ne (nfp c hc)]; exact f0, f1⟩
    have I2 : Inv X pins σ (upd H s.heap.objs.size (.tup [x, y])) { s with heap := h2, toks := s.toks } := by
      refine Inv.turnedN (s := { s with heap := s.heap.push { cls := .type "tuple", data := .seq #[u1, u2] }, toks := s.toks }) (t' := s.toks) (h' := h2) (ch := [z, TI, TO, p1, p2]) I1 (fun c o hcn e => ?_) hf'
      simp only [List.mem_cons, List.not_mem_nil, or_false, not_or] at hcn
      obtain ⟨n1, n2, n3, n4, n5⟩ := hcn
      refine b2.extBut c o n1 ?_
      by_cases hcs : c = s.heap.objs.size
      · subst hcs
        have e' : (s.heap.push { cls := .type "tuple", data := .seq #[u1, u2] }).get? s.heap.objs.size = some o := e
        rw [Heap.get?_push_size _ rfl] at e'
        cases e'
        exact a5
      · have e' : (s.heap.push { cls := .type "tuple", data := .seq #[u1, u2] }).get? c = some o := e
        have hlt : c < s.heap.objs.size := by
          have := Heap.lt_size e'
          rw [Heap.size_push] at this
          exact Nat.lt_of_le_of_ne (Nat.le_of_lt_succ this) hcs
        have hold : s.heap.get? c = some o := by
          have : ∃ o', s.heap.get? c = some o' := by
            cases q : s.heap.get? c with
            | some o' => exact ⟨o', rfl⟩
            | none => exact absurd e' (by rw [Heap.get?_push_ne _ _ _ hcs]; rw [q]; exact fun z => nomatch z)
          obtain ⟨o', ho'⟩ := this
          have := Heap.get?_push_of_some { cls := .type "tuple", data := .seq #[u1, u2] } ho'
          rw [e'] at this
          cases this; exact ho'
        exact kk c o n1 n3 n4 n5 hold
    refine ⟨.ref s.heap.objs.size, _, I2, rfl, ⟨_, x, y, I.hok.fresh (Nat.le_refl _), rfl, rfl, fun zs hz => by rw [I.sqk_inj hz q1]; exact hx, fun zs hz => by rw [I.sqk_inj hz q2]; exact hy⟩, ?_, fun c hc => (hf' c hc).1⟩
    have lift : ∀ c o, c ≠ z → h'.get? c = some o → h2.get? c = some o := fun c o n e => b2.extBut c o n e
    exact ⟨b1, lift _ _ D.TIz (kk _ _ D.TIz D.TITO D.TIi1 D.TIi2 iI), ⟨_, _, lift _ _ D.TOz a2⟩, a3.at fun o e => lift _ o D.i1z e, a4.at fun o e => lift _ o D.i2z e⟩
  done := by
    intro X hP hw hK hc i pins s σ H E I hf st hg
    subst hP hw hK
    obtain ⟨iz, iI, ⟨a, b, iO⟩, g1, g2⟩ := st
    obtain ⟨xs, ys, q1, q2, hx⟩ := hg
    obtain ⟨is1, r1, m1⟩ := I.sqk q1
    obtain ⟨is2, r2, m2⟩ := I.sqk q2
    have e1 := r1.length
    have e2 := r2.length
    refine zipEnd (I.ok.hd hc) D iz iI iO g1 g2 m1 m2 (hx.elim (fun h => .inl (by simp; omega)) fun h => .inr (by simp; omega)) fun h' kk => ⟨rfl, ?_⟩
    refine I.turnedN (t' := s.toks) (ch := [z, TI, TO, p1, p2]) (fun c o hcn e => ?_) hf
    simp only [List.mem_cons, List.not_mem_nil, or_false, not_or] at hcn
    obtain ⟨n1, n2, n3, n4, n5⟩ := hcn
    exact kk c o n1 n3 n4 n5 e
  self := fun _ _ _ _ _ st h => wpAny_pyIter_zip st.1 h
noncomputable def iZip (K : PySem.W.Frag) (ta : TA) : TI := fun σ H R => ta σ H fun vs H1 => ∃ k1 k2 l1 l2, vs = [.ref l1, .ref l2] ∧ (∃ xs, SqK K k1 H1 l1 xs) ∧ (∃ ys, SqK K k2 H1 l2 ys) ∧ R (Itz K k1 k2 l1 l2) H1
theorem pi_zip {X : Cx} {elts : List Expr} {kx : Nat} {tp : Pos} {a b : Expr} {ta : TA} {p pos : Pos} (hg : Gl X "zip") (hm : X.mg "zip" = none) (ha : PA X [a, b] ta)
    (hs : starEach [a, b] X.env = [(false, eval a X.env), (false, eval b X.env)] := by rfl) (hs2 : starEach [b] X.env = [(false, eval b X.env)] := by rfl) : PI X (.Tuple elts kx tp) (.Call (.Name "zip" p) [a, b] [] pos) (iZip X.K ta) := by
  intro pins s σ H R I h
  refine Call_ (ld_blt I hg hm PyProof.Rows.boot_zip (PyProof.Rows.callWith_type1 (thn (ha pos pins s σ H _ I h) fun us s1 ⟨vs, H1, I1, r1, q1⟩ => ?_) (by rw [hs, hs2]) (by rw [hs2]; rfl)))
  obtain ⟨k1, k2, l1, l2, e, ⟨xs, q2⟩, ⟨ys, q3⟩, q⟩ := q1
  subst e
  cases r1 with
  | cons r rr =>
    cases rr with
    | cons r' rr =>
      cases rr
      cases r
      cases r'
      obtain ⟨is1, _, m1⟩ := I1.sqk q2
      obtain ⟨is2, _, m2⟩ := I1.sqk q3
      have lt1 : l1 < s1.heap.objs.size := by obtain ⟨o, e⟩ := m1.obj; exact Heap.lt_size e
      have lt2 : l2 < s1.heap.objs.size := by obtain ⟨o, e⟩ := m2.obj; exact Heap.lt_size e
      refine callZip m1 m2 fun h' a1 a2 a3 a4 a5 a6 kk => ?_
      refine wpAny_pyIter_zip (s := { s1 with heap := h' }) a1 ?_
      have D : ZipApart (s1.heap.objs.size + 4) (s1.heap.objs.size + 2) (s1.heap.objs.size + 3) s1.heap.objs.size (s1.heap.objs.size + 1) l1 l2 := PyProof.Rows.zipApart_new lt1 lt2
      refine ⟨s1.heap.objs.size + 4, _, _, _, H1, rfl, I1.kept (t' := s1.toks) kk, turn_zip D, ⟨a1, a2, ⟨_, _, a3⟩, a4, a5⟩, fun c hc => ?_, q⟩
      have hge : s1.heap.objs.size ≤ c := by
        simp only [List.mem_cons, List.not_mem_nil, or_false] at hc
        rcases hc with rfl | rfl | rfl | rfl | rfl
        · exact Nat.le_add_right _ _
        · exact Nat.le_add_right _ _
        · exact Nat.le_add_right _ _
        · exact Nat.le_refl _
        · exact Nat.le_add_right _ _
      exact I1.fpOk hge (I1.hok.fresh hge)
end L2

namespace L2
open PySem PySem.Spec PyProof.Rows
section
variable {X : Cx} {pins : List (Addr × Obj)} {σ : St} {H : Hp} {s : Shared} {p : Addr}
theorem Inv.swap {a b : HO} (I : Inv X pins σ H s) (hp : H p = some a) (ha : (∀ x, a ≠ .own x) ∧ ∀ xs, a ≠ .tup xs) (h1 : ∀ xs, X.H₀ p ≠ some (.tup xs)) (h2 : ∀ o u, X.H₀ p ≠ some (.frz o u)) (h3 : ∀ ps, X.H₀ p ≠ some (.tbl ps))
    (new : ObjOk X.prog X.w H s.heap p b) : Inv X pins σ (upd H p b) s := by
  have ne : ∀ {c : Addr}, H c = none → c ≠ p := fun {c} q z => by subst z; rw [hp] at q; cases q
  have st : ∀ {c : Addr} {o : HO}, ObjOk X.prog X.w H s.heap c o → ObjOk X.prog X.w (upd H p b) s.heap c o := fun {c o} x =>
    x.stay (fun _ _ _ q => q) (fun d q => by
      have : d ≠ p := by intro z; subst z; rw [hp] at q; cases q; exact ha.1 _ rfl
      rw [upd_ne this]; exact q) fun d xs q => by
      have : d ≠ p := by intro z; subst z; rw [hp] at q; cases q; exact ha.2 _ rfl
      rw [upd_ne this]; exact q
  refine ⟨I.ok, I.os, I.bare, ⟨I.base.keep, I.base.slot, fun c o e n x => ?_, I.base.there, fun c xs q => ?_, fun c o u q => ?_, fun c ps q => ?_⟩, I.loc, I.cell, ?_, fun x c e => ?_, fun q hq => ?_, fun c o q => ?_, I.len⟩
  · have := I.base.free c o e n x
    rw [upd_ne (ne this)]; exact this
  · have : c ≠ p := by intro z; subst z; exact h1 xs q
    rw [upd_ne this]; exact I.base.tups c xs q
  · have : c ≠ p := by intro z; subst z; exact h2 o u q
    rw [upd_ne this]; exact I.base.frzs c o u q
  · have : c ≠ p := by intro z; subst z; exact h3 ps q
    rw [upd_ne this]; exact I.base.tbls c ps q
  · rw [upd_ne (ne I.free)]; exact I.free
  · rw [upd_ne (ne (I.freeC x c e))]; exact I.freeC x c e
  · obtain ⟨a1, a2, a3, a4, a5⟩ := I.pin q hq
    exact ⟨a1, by rw [upd_ne (ne a2)]; exact a2, a3, a4, a5⟩
  · by_cases z : c = p
    · subst z; rw [upd_same] at q; cases q; exact st new
    · rw [upd_ne z] at q; exact st (I.hok c o q)
theorem Inv.freeze {xs : List V} (I : Inv X pins σ H s) (hp : H p = some (.lst xs)) : ∃ o, Inv X pins σ (upd H p (.frz o (.lst xs))) s := by
  have k := I.hok p _ hp
  obtain ⟨z, its, n, r, e⟩ := id k
  refine ⟨_, I.swap hp ⟨fun _ q => (nomatch q), fun _ q => (nomatch q)⟩ (fun ys q => ?_) (fun o u q => ?_) (fun ps q => ?_) ⟨e, k⟩⟩
  · rw [I.base.tups p ys q] at hp; cases hp
  · rw [I.base.frzs p o u q] at hp; cases hp
  · obtain ⟨more, q⟩ := I.base.tbls p ps q; rw [q] at hp; cases hp
structure Loose (X : Cx) (p : Addr) : Prop where
  t : ∀ xs, X.H₀ p ≠ some (.tup xs)
  f : ∀ o u, X.H₀ p ≠ some (.frz o u)
  b : ∀ ps, X.H₀ p ≠ some (.tbl ps)
theorem Inv.loose {xs : List V} (I : Inv X pins σ H s) (hp : H p = some (.lst xs)) : Loose X p :=
  ⟨fun ys q => (by rw [I.base.tups p ys q] at hp; cases hp), fun o u q => (by rw [I.base.frzs p o u q] at hp; cases hp), fun ps q => (by obtain ⟨more, q⟩ := I.base.tbls p ps q; rw [q] at hp; cases hp)⟩
noncomputable def tFrz (t : TE) : TE := fun σ H Q => t σ H fun v H1 => ∃ p xs, v = .ref p ∧ H1 p = some (.lst xs) ∧ ∀ o, Q v (upd H1 p (.frz o (.lst xs)))
theorem pe_frz {x : Expr} {t : TE} (h : PE X x t) : PE X x (tFrz t) := fun pins s σ H Q I q =>
  wpAny_mono (h pins s σ H _ I q) (fun u s1 zz => by
    obtain ⟨v, H1, I1, r, p, xs, e, hp, q1⟩ := zz
    obtain ⟨o, I2⟩ := I1.freeze hp
    exact ⟨v, _, I2, r, q1 o⟩) fun _ _ z => z
theorem pu_frz {i : Nat} {y : Str} {pos' : Pos} {x : Expr} {t : TE} (h : PU X i y pos' x t) : PU X i y pos' x (tFrz t) := fun pins s σ H Q I q =>
  wpAny_mono (h pins s σ H _ I q) (fun u s1 zz => by
    obtain ⟨v, H1, I1, p, xs, e, hp, q1⟩ := zz
    obtain ⟨o, I2⟩ := I1.freeze hp
    exact ⟨v, _, I2, q1 o⟩) fun _ _ z => z
noncomputable def tFrzM (t : TE) : TE := fun σ H Q => t σ H fun v H1 => (∃ p xs, v = .ref p ∧ H1 p = some (.lst xs) ∧ ∀ o, Q v (upd H1 p (.frz o (.lst xs)))) ∨ Q v H1
theorem pe_frzM {x : Expr} {t : TE} (h : PE X x t) : PE X x (tFrzM t) := fun pins s σ H Q I q =>
  wpAny_mono (h pins s σ H _ I q) (fun u s1 zz => by
    obtain ⟨v, H1, I1, r, z⟩ := zz
    rcases z with ⟨p, xs, e, hp, q1⟩ | q1
    · obtain ⟨o, I2⟩ := I1.freeze hp
      exact ⟨v, _, I2, r, q1 o⟩
    · exact ⟨v, H1, I1, r, q1⟩) fun _ _ z => z
noncomputable def hidO (p : Addr) (xs : List V) : HO := .ext fun h => xs.length ≤ sizeLine ∧ ∃ (its : List Value) (n : Nat), Vals xs its ∧ h.get? p = some { cls := .type "list", data := .seq its.toArray n }
theorem Inv.hide {xs : List V} (I : Inv X pins σ H s) (hp : H p = some (.lst xs)) : Inv X pins σ (upd H p (hidO p xs)) s := by
  have k := I.hok p _ hp
  have l := I.loose hp
  obtain ⟨z, its, n, r, e⟩ := id k
  exact I.swap hp ⟨fun _ q => (nomatch q), fun _ q => (nomatch q)⟩ l.t l.f l.b ⟨⟨z, its, n, r, e⟩, ⟨_, e⟩, fun h1 h2 ⟨z, its, n, r, e⟩ k => ⟨z, its, n, r, k _ e⟩⟩
theorem Inv.show' {xs : List V} (I : Inv X pins σ H s) (l : Loose X p) (hp : H p = some (hidO p xs)) : Inv X pins σ (upd H p (.lst xs)) s := by
  obtain ⟨k, _, _⟩ := I.hok p _ hp
  exact I.swap hp ⟨fun _ q => (nomatch q), fun _ q => (nomatch q)⟩ l.t l.f l.b k
noncomputable def tHide (p : Addr) (t : TE) : TE := fun σ H Q => ∃ xs, H p = some (.lst xs) ∧ t σ (upd H p (hidO p xs)) fun v H1 => H1 p = some (hidO p xs) ∧ Q v (upd H1 p (.lst xs))
theorem pe_hide {x : Expr} {t : TE} (h : PE X x t) : PE X x fun σ H Q => ∃ p, tHide p t σ H Q := fun pins s σ H Q I ⟨p, xs, hp, q⟩ =>
  wpAny_mono (h pins s σ _ _ (I.hide hp) q) (fun u s1 ⟨v, H1, I2, r, hp1, q1⟩ => ⟨v, _, I2.show' (I.loose hp) hp1, r, q1⟩) fun _ _ z => z
noncomputable def tHideT (p : Addr) (t : TT) : TT := fun σ H Q => ∃ xs, H p = some (.lst xs) ∧ t σ (upd H p (hidO p xs)) fun v H1 => H1 p = some (hidO p xs) ∧ Q v (upd H1 p (.lst xs))
theorem pifs_hide {ifs : List Expr} {t : TT} (h : PIfs X ifs t) : PIfs X ifs fun σ H Q => ∃ p, tHideT p t σ H Q := fun pins s σ H Q I ⟨p, xs, hp, q⟩ =>
  wpAny_mono (h pins s σ _ _ (I.hide hp) q) (fun u s1 ⟨H1, I2, hp1, q1⟩ => ⟨_, I2.show' (I.loose hp) hp1, q1⟩) fun _ _ z => z
noncomputable def tHideG (p : Addr) (g : TG) : TG := fun v σ H Q => ∃ xs, H p = some (.lst xs) ∧ g v σ (upd H p (hidO p xs)) fun σ1 H1 => H1 p = some (hidO p xs) ∧ Q σ1 (upd H1 p (.lst xs))
theorem pg_hide {tg : Expr} {g : TG} (h : PG X tg g) : PG X tg fun v σ H Q => ∃ p, tHideG p g v σ H Q := fun pins s σ H v u Q I r ⟨p, xs, hp, q⟩ =>
  wpAny_mono (h pins s σ _ v u _ (I.hide hp) r q) (fun u s1 ⟨σ1, H1, I2, hp1, q1⟩ => ⟨σ1, _, I2.show' (I.loose hp) hp1, q1⟩) fun _ _ z => z
end
section
variable {X : Cx} {pos : Pos}
end
end L2

namespace L2
open PySem PySem.Spec PyProof.Rows
section
variable {X : Cx} {e : Expr} {te : TE} {st : Expr} {ts : TO} {pos p2 : Pos}
end
end L2

namespace L2
open PySem PySem.Spec PyProof.Rows
section
variable {prog : Program} {w : World} {A : Around} {E : Value → Shared → Prop} {s : Shared}
noncomputable abbrev Fin2 (prog : Program) (w : World) (A : Around) (R : Result → Shared → Prop) : Fin → Shared → Prop := fun z s' => match z with | .done f => R (.ok f) s' | .again c' => c'.quiet = true ∧ codeAny (model prog w) A c' R s'
end
section
variable {X : Cx}
end
section
variable {X : Cx}
end
section
variable {prog : Program} {w : World} {A : Around} {E : Value → Shared → Prop} {s : Shared}
end
section
variable {prog : Program} {w : World} {A : Around} {E : Value → Shared → Prop} {s : Shared}
end
section
variable {X : Cx}
end
end L2

namespace L2
open PySem PySem.Spec PyProof.Rows
section
variable {prog : Program} {w : World} {A : Around} {E : Value → Shared → Prop} {s : Shared}
end
end L2
namespace L2
open PySem PySem.Spec PyProof.Rows
section
variable {X : Cx}
end
end L2

namespace L2
open PySem PySem.Spec PyProof.Rows
section
variable {prog : Program} {w : World} {A : Around} {E : Value → Shared → Prop} {s : Shared}
theorem lst_ext {h h2 : Heap} {a b : Addr} {its : Array Value} (x : h.IsList a its) (hs : Heap.ExtBut b h h2) (ne : a ≠ b) : h2.IsList a its := x.at fun o e => hs a o ne e
theorem draw_lst {it l : Addr} {its : Array Value} (hne : l ≠ it) : ∀ (n i : Nat) (s : Shared) (Q : List Value → Shared → Prop), s.heap.IsListIter it l i → s.heap.IsList l its → i + n ≤ its.size →
    (∀ h2, h2.IsListIter it l (i + n) → Heap.SameBut it s.heap h2 → Q ((its.toList.drop i).take n) { s with heap := h2 }) → wpAny (model prog w) A (draw (.ref it) n) Q E s
  | 0, i, s, Q, hi, _, _, k => by
    show wpAny _ _ (pure []) Q E s
    refine wpAny_pure ?_
    simpa using k s.heap hi (Heap.SameBut.refl ..)
  | n + 1, i, s, Q, hi, hl, hle, k => by
    have lt : i < its.size := by omega
    show wpAny _ _ (pyNext (.ref it) >>= _) Q E s
    refine wpAny_bind (wpAny_pyNext_list_item hi hl (x := its[i]) (by simp [lt]) fun h1 hi1 hs1 => wpAny_bind (wpAny_holding ?_))
    refine draw_lst hne n (i + 1) _ _ hi1 (lst_ext hl hs1.extBut hne) (by omega) fun h2 hi2 hs2 => wpAny_pure ?_
    have e : its.toList.drop i = its[i] :: its.toList.drop (i + 1) := by simp [List.drop_eq_getElem_cons, lt]
    have z := k h2 (by rw [show i + (n + 1) = i + 1 + n by omega]; exact hi2) (hs1.trans hs2)
    rw [e, List.take_succ_cons] at z
    exact z
theorem unpack_lst {l : Addr} {its : Array Value} {ts : List (Bool × (Value → Sem Unit))} {Q : Unit → Shared → Prop} (hh : A.handled = none) (hl : s.heap.IsList l its) (hn : ts.length = its.size) (hst : ts.findIdx? (·.1) = none)
    (k : ∀ h2, Heap.ExtBut s.heap.objs.size s.heap h2 → wpAny (model prog w) A (assignInOrder (ts.map (·.2)) its.toList) Q E { s with heap := h2 }) : wpAny (model prog w) A (unpack (.ref l) ts) Q E s := by
  have ne : l ≠ s.heap.objs.size := by obtain ⟨o, ho, _⟩ := hl; exact Nat.ne_of_lt (Heap.lt_size ho)
  unfold unpack
  rw [hn, hst]
  refine wpAny_bind (wpAny_holding ?_)
  unfold unpackItems
  refine wpAny_bind ?_
  unfold notIterableAtAll
  refine wpAny_bind (wpAny_specialOf hl.typeIs F.slot_list_iter.lookup (wpAny_pure ?_))
  simp only [Bool.false_eq_true, if_false]
  refine wpAny_bind (wpAny_holding (wpAny_pyIter_list hl ?_))
  refine wpAny_bind (wpAny_holding (draw_lst ne its.size 0 _ _ ⟨_, Heap.get?_push_size _ rfl, rfl, rfl⟩ (hl.at fun o e => Heap.get?_push_of_some _ e) (by omega) fun h1 hi1 hs1 => ?_))
  have all : List.take its.size (List.drop 0 its.toList) = its.toList := by
    rw [List.drop_zero]; exact List.take_of_length_le (by simp)
  rw [all, if_neg (by simp)]
  have hl1 : h1.IsList l its := lst_ext (hl.at fun o e => Heap.get?_push_of_some _ e) hs1.extBut ne
  refine wpAny_bind (wpAny_holding (wpAny_pyNext_list_end hh hi1 hl1 (by simp) fun h2 he => ?_))
  simp only [Option.isSome_none, Bool.false_eq_true, if_false]
  exact wpAny_pure (k h2 fun b o hb e => he b o hb (hs1.extBut b o hb (Heap.get?_push_of_some _ e)))
end
section
variable {X : Cx} {pos : Pos}
noncomputable def gTupLs (K : PySem.W.Frag) (n : Nat) (t : TGs) : TG := fun v σ H Q => ∃ a xs, v = .ref a ∧ SqL K H a xs ∧ xs.length = n ∧ t xs σ H Q
theorem pg_tupL {es : List Expr} {k : Nat} {t : TGs} {n : Nat} (hc : X.calm = true) (h : PGs X es t) (hn : (assignEach es X.env).length = n := by rfl)
    (hst : (assignEach es X.env).findIdx? (·.1) = none := by rfl) : PG X (.Tuple es k pos) (gTupLs X.K n t) := by
  intro pins s σ H v u Q I r hw
  obtain ⟨a, xs, e1, hq, hl, hw⟩ := hw
  subst e1
  cases r
  obtain ⟨its, rv, ht, hz⟩ := I.list hq
  rw [assign_Tuple]
  refine wpAny_bind (wpAny_standAt (unpack_lst (I.ok.hd hc) ht.isList (by simp [hn, ← hl, rv.length]) hst fun h2 hx => ?_))
  have I1 : Inv X pins σ H { s with heap := h2 } := I.kept (t' := s.toks) fun b o e => hx b o (Nat.ne_of_lt (Heap.lt_size e)) e
  exact h pins _ σ H xs _ Q I1 (by simpa using rv) hw
end
end L2

namespace L2
open PySem PySem.Spec PyProof.Rows
section
variable {X : Cx}
end
end L2

namespace L2
open PySem PySem.Spec PyProof.Rows
section
variable {prog : Program} {w : World} {A : Around} {E : Value → Shared → Prop} {s : Shared}
end
end L2

namespace L2
open PySem
section
variable {prog : Program} {w : World} {A : Around} {E : Value → Shared → Prop} {s : Shared}
end
section
variable {prog : Program} {w : World} {A : Around} {E : Value → Shared → Prop} {s : Shared}
end
end L2
namespace L2
open PySem PySem.Spec PyProof.Rows
end L2

namespace L2
open PySem
theorem PE.imp {X : Cx} {x : Expr} {t t' : TE} (h : PE X x t) (i : ∀ σ H Q, t' σ H Q → t σ H Q) : PE X x t' := fun pins s σ H Q I q => h pins s σ H Q I (i σ H Q q)
theorem PT.imp {X : Cx} {x : Expr} {t t' : TT} (h : PT X x t) (i : ∀ σ H Q, t' σ H Q → t σ H Q) : PT X x t' := fun pins s σ H Q I q => h pins s σ H Q I (i σ H Q q)
theorem PW.imp {X : Cx} {x : Expr} {t t' : TT} (h : PW X x t) (i : ∀ σ H Q, t' σ H Q → t σ H Q) : PW X x t' := fun wh pins s σ H Q I q => h wh pins s σ H Q I (i σ H Q q)
theorem PA.imp {X : Cx} {x : List Expr} {t t' : TA} (h : PA X x t) (i : ∀ σ H Q, t' σ H Q → t σ H Q) : PA X x t' := fun pos pins s σ H Q I q => h pos pins s σ H Q I (i σ H Q q)
theorem PS.imp {X : Cx} {x : Stmt} {t t' : TS} (h : PS X x t) (i : ∀ E σ H, t' E σ H → t E σ H) : PS X x t' := fun pins s σ H D I q => h pins s σ H D I (i D σ H q)
theorem PSs.imp {X : Cx} {x : List Stmt} {t t' : TS} (h : PSs X x t) (i : ∀ E σ H, t' E σ H → t E σ H) : PSs X x t' := fun pins s σ H D I q => h pins s σ H D I (i D σ H q)
theorem OpR.imp {X : Cx} {f : Value → Value → Sem Value} {r r' : R2} (h : OpR X f r) (i : ∀ x y H Q, r' x y H Q → r x y H Q) : OpR X f r' := fun pins s σ H x y v u Q I rx ry q => h pins s σ H x y v u Q I rx ry (i x y H Q q)
theorem IxR.imp {X : Cx} {r r' : R2} (h : IxR X r) (i : ∀ x y H Q, r' x y H Q → r x y H Q) : IxR X r' := fun va sl pins s σ H x y v u Q I rx ry q => h va sl pins s σ H x y v u Q I rx ry (i x y H Q q)
theorem PG.imp {X : Cx} {x : Expr} {t t' : TG} (h : PG X x t) (i : ∀ v σ H Q, t' v σ H Q → t v σ H Q) : PG X x t' := fun pins s σ H v u Q I r q => h pins s σ H v u Q I r (i v σ H Q q)
theorem PGs.imp {X : Cx} {x : List Expr} {t t' : TGs} (h : PGs X x t) (i : ∀ v σ H Q, t' v σ H Q → t v σ H Q) : PGs X x t' := fun pins s σ H v u Q I r q => h pins s σ H v u Q I r (i v σ H Q q)
end L2
namespace DL
open PySem PySem.Spec L2
open PyProof.Rows hiding St


inductive D where
  | non | bl (b : Bool) | int (i : Int) | str (x : Str) | ref (a : Addr) | tup (ds : List D) | vl (ds : List D) | ty (n : String) | dic

noncomputable def KL (K : PySem.W.Frag) (a : Addr) (xs : List V) : Prop := ∀ H : Hp, SqL K H a xs

mutual
inductive Has (K : PySem.W.Frag) (H : Hp) : V → D → Prop
  | non : Has K H .non .non
  | bl (b : Bool) : Has K H (.bl b) (.bl b)
  | int (i : Int) : Has K H (.int i) (.int i)
  | str (x : Str) : Has K H (.str x) (.str x)
  | ref (a : Addr) : Has K H (.ref a) (.ref a)
  | ty (n : String) : Has K H (.ty n) (.ty n)
  | tup {a : Addr} {xs : List V} {ds : List D} : SqT K H a xs → HasL K H xs ds → Has K H (.ref a) (.tup ds)
  | vl {a : Addr} {xs : List V} {ds : List D} : ((∃ o, H a = some (.frz o (.lst xs))) ∨ KL K a xs) → HasL K H xs ds → Has K H (.ref a) (.vl ds)
  | dic {a : Addr} : (∃ o : Obj, H a = some (.frz o (.own 0)) ∧ o.cls = .type "dict") → Has K H (.ref a) .dic
inductive HasL (K : PySem.W.Frag) (H : Hp) : List V → List D → Prop
  | nil : HasL K H [] []
  | cons {v : V} {d : D} {vs : List V} {ds : List D} : Has K H v d → HasL K H vs ds → HasL K H (v :: vs) (d :: ds)
end

structure KT0 (H H' : Hp) : Prop where
  tp : ∀ a xs, Rd H a (.tup xs) → Rd H' a (.tup xs)
  fz : ∀ a o u, H a = some (.frz o u) → H' a = some (.frz o u)
structure KT (H H' : Hp) : Prop extends KT0 H H' where
  ex : ∀ a φ, H a = some (.ext φ) → H' a = some (.ext φ)
theorem KT.refl (H : Hp) : KT H H := ⟨⟨fun _ _ h => h, fun _ _ _ h => h⟩, fun _ _ h => h⟩
theorem KT.trans {H H1 H2 : Hp} (a : KT H H1) (b : KT H1 H2) : KT H H2 := ⟨⟨fun p xs h => b.tp p xs (a.tp p xs h), fun p o xs h => b.fz p o xs (a.fz p o xs h)⟩, fun p φ h => b.ex p φ (a.ex p φ h)⟩
theorem KT0.sq {K : PySem.W.Frag} {H H' : Hp} (k : KT0 H H') {a : Addr} {xs : List V} (h : SqT K H a xs) : SqT K H' a xs := h.elim (fun z => .inl (k.tp a xs z)) .inr
theorem KT.sq {K : PySem.W.Frag} {H H' : Hp} (k : KT H H') {a : Addr} {xs : List V} (h : SqT K H a xs) : SqT K H' a xs := k.toKT0.sq h
theorem KT0.at {H : Hp} {p : Addr} {o : HO} (h1 : ∀ xs, ¬ Rd H p (.tup xs)) (h2 : ∀ q u, H p ≠ some (.frz q u)) : KT0 H (upd H p o) where
  tp := fun a xs r => by
    have hn : a ≠ p := by intro e; subst e; exact h1 xs r
    rcases r with r | ⟨q, r⟩
    · exact .inl (by rw [upd_ne hn]; exact r)
    · exact .inr ⟨q, by rw [upd_ne hn]; exact r⟩
  fz := fun a q xs r => by
    have hn : a ≠ p := by intro e; subst e; exact h2 q xs r
    rw [upd_ne hn]; exact r
theorem KT.at {H : Hp} {p : Addr} {o : HO} (h1 : ∀ xs, ¬ Rd H p (.tup xs)) (h2 : ∀ q u, H p ≠ some (.frz q u)) (h3 : ∀ φ, H p ≠ some (.ext φ)) : KT H (upd H p o) := ⟨KT0.at h1 h2, fun a φ r => by
    have hn : a ≠ p := by intro e; subst e; exact h3 φ r
    rw [upd_ne hn]; exact r⟩
theorem KT.alloc {H : Hp} {p : Addr} {o : HO} (h : H p = none) : KT H (upd H p o) := KT.at (fun xs r => by rcases r with r | ⟨_, r⟩ <;> (rw [h] at r; cases r)) (fun q xs r => by rw [h] at r; cases r) fun φ r => by rw [h] at r; cases r
theorem KT.any {H : Hp} {p : Addr} {xs : List V} {o : HO} (h : H p = some (.lst xs)) : KT H (upd H p o) := KT.at (fun xs r => by rcases r with r | ⟨_, r⟩ <;> (rw [h] at r; cases r)) (fun q xs r => by rw [h] at r; cases r) fun φ r => by rw [h] at r; cases r
theorem KT.write {H : Hp} {p : Addr} {xs ys : List V} (h : H p = some (.lst xs)) : KT H (upd H p (.lst ys)) := KT.any h
theorem KT0.ext {H : Hp} {p : Addr} {φ : Heap → Prop} {o : HO} (h : H p = some (.ext φ)) : KT0 H (upd H p o) := KT0.at (fun xs r => by rcases r with r | ⟨_, r⟩ <;> (rw [h] at r; cases r)) fun q xs r => by rw [h] at r; cases r
theorem KT.new {H H' : Hp} {p : Addr} {o : HO} (k : KT H H') (h : H p = none) : KT H (upd H' p o) where
  tp := fun a xs r => by
    have hn : a ≠ p := by intro e; subst e; rcases r with r | ⟨_, r⟩ <;> (rw [h] at r; cases r)
    rcases k.tp a xs r with r | ⟨q, r⟩
    · exact .inl (by rw [upd_ne hn]; exact r)
    · exact .inr ⟨q, by rw [upd_ne hn]; exact r⟩
  fz := fun a q xs r => by
    have hn : a ≠ p := by intro e; subst e; rw [h] at r; cases r
    rw [upd_ne hn]; exact k.fz a q xs r
  ex := fun a φ r => by
    have hn : a ≠ p := by intro e; subst e; rw [h] at r; cases r
    rw [upd_ne hn]; exact k.ex a φ r

mutual
theorem Has.mono0 {K : PySem.W.Frag} {H H' : Hp} (k : KT0 H H') : ∀ {v : V} {d : D}, Has K H v d → Has K H' v d
  | _, _, .non => .non
  | _, _, .bl b => .bl b
  | _, _, .int i => .int i
  | _, _, .str x => .str x
  | _, _, .ref a => .ref a
  | _, _, .ty n => .ty n
  | _, _, .tup s l => .tup (k.sq s) (HasL.mono0 k l)
  | _, _, .vl h l => .vl (h.elim (fun ⟨o, e⟩ => .inl ⟨o, k.fz _ _ _ e⟩) .inr) (HasL.mono0 k l)
  | _, _, .dic h => .dic (let ⟨o, e, c⟩ := h; ⟨o, k.fz _ _ _ e, c⟩)
theorem HasL.mono0 {K : PySem.W.Frag} {H H' : Hp} (k : KT0 H H') : ∀ {v : List V} {d : List D}, HasL K H v d → HasL K H' v d
  | _, _, .nil => .nil
  | _, _, .cons a b => .cons (Has.mono0 k a) (HasL.mono0 k b)
end
theorem Has.mono {K : PySem.W.Frag} {H H' : Hp} (k : KT H H') {v : V} {d : D} (h : Has K H v d) : Has K H' v d := h.mono0 k.toKT0
theorem HasL.mono {K : PySem.W.Frag} {H H' : Hp} (k : KT H H') {v : List V} {d : List D} (h : HasL K H v d) : HasL K H' v d := h.mono0 k.toKT0
section
variable {K : PySem.W.Frag} {H H' : Hp}
theorem HasL.length : ∀ {vs : List V} {ds : List D}, HasL K H vs ds → vs.length = ds.length
  | _, _, .nil => rfl
  | _, _, .cons _ b => congrArg Nat.succ (HasL.length b)
theorem HasL.get : ∀ {vs : List V} {ds : List D} {i : Nat} {d : D}, HasL K H vs ds → ds[i]? = some d → ∃ v, vs[i]? = some v ∧ Has K H v d
  | _, _, _, _, .nil, e => by simp at e
  | _, _, 0, _, .cons a _, e => by simp at e; subst e; exact ⟨_, rfl, a⟩
  | _, _, i + 1, d, .cons _ b, e => by
    obtain ⟨v, h1, h2⟩ := HasL.get (i := i) (d := d) b (by simpa using e)
    exact ⟨v, by simpa using h1, h2⟩
theorem HasL.getV : ∀ {vs : List V} {ds : List D} {i : Nat} {v : V}, HasL K H vs ds → vs[i]? = some v → ∃ d, ds[i]? = some d ∧ Has K H v d
  | _, _, _, _, .nil, e => by simp at e
  | _, _, 0, _, .cons a _, e => by simp at e; subst e; exact ⟨_, rfl, a⟩
  | _, _, i + 1, d, .cons _ b, e => by
    obtain ⟨v, h1, h2⟩ := HasL.getV (i := i) (v := d) b (by simpa using e)
    exact ⟨v, by simpa using h1, h2⟩
theorem HasL.set {v : V} {d : D} (r : Has K H v d) : ∀ {vs : List V} {ds : List D} (i : Nat), HasL K H vs ds → HasL K H (vs.set i v) (ds.set i d)
  | _, _, _, .nil => .nil
  | _, _, 0, .cons _ t => .cons r t
  | _, _, i + 1, .cons q t => .cons q (HasL.set r i t)
theorem HasL.append : ∀ {xs ys : List V} {us ws : List D}, HasL K H xs us → HasL K H ys ws → HasL K H (xs ++ ys) (us ++ ws)
  | _, _, _, _, .nil, s => s
  | _, _, _, _, .cons r t, s => .cons r (HasL.append t s)
theorem HasL.take : ∀ {xs : List V} {us : List D} (n : Nat), HasL K H xs us → HasL K H (xs.take n) (us.take n)
  | _, _, 0, _ => .nil
  | _, _, _ + 1, .nil => .nil
  | _, _, n + 1, .cons r t => .cons r (HasL.take n t)
theorem HasL.drop : ∀ {xs : List V} {us : List D} (n : Nat), HasL K H xs us → HasL K H (xs.drop n) (us.drop n)
  | _, _, 0, r => r
  | _, _, _ + 1, .nil => .nil
  | _, _, n + 1, .cons _ t => HasL.drop n t
theorem HasL.ints : ∀ (ns : List Int), HasL K H (ns.map V.int) (ns.map D.int)
  | [] => .nil
  | n :: r => .cons (.int n) (HasL.ints r)
end


inductive MO where
  | lst (ds : List D)
noncomputable abbrev Mem := Addr → Option MO
noncomputable def updM (M : Mem) (a : Addr) (o : MO) : Mem := fun b => if b = a then some o else M b
theorem updM_same {M : Mem} {a : Addr} {o : MO} : updM M a o a = some o := by unfold updM; rw [if_pos rfl]
theorem updM_ne {M : Mem} {a b : Addr} {o : MO} (h : b ≠ a) : updM M a o b = M b := by unfold updM; rw [if_neg h]
noncomputable def MOk (K : PySem.W.Frag) (H : Hp) (a : Addr) : MO → Prop
  | .lst ds => ∃ xs, H a = some (.lst xs) ∧ HasL K H xs ds
noncomputable def AbsM (K : PySem.W.Frag) (H : Hp) (M : Mem) : Prop := ∀ a o, M a = some o → MOk K H a o
section
variable {K : PySem.W.Frag} {H H' : Hp} {M : Mem}
theorem AbsM.fresh (h : AbsM K H M) {p : Addr} (e : H p = none) : M p = none := by
  cases q : M p with
  | none => rfl
  | some o =>
    cases o with
    | lst ds => obtain ⟨xs, z, _⟩ := h p _ q; rw [e] at z; cases z
theorem AbsM.alloc (h : AbsM K H M) {p : Addr} {u : HO} (e : H p = none) : AbsM K (upd H p u) M := fun a o m => by
  have k : KT H (upd H p u) := KT.alloc e
  cases o with
  | lst ds =>
    obtain ⟨xs, z, l⟩ := h a _ m
    have hn : a ≠ p := ne_of_none z e
    exact ⟨xs, by rw [upd_ne hn]; exact z, l.mono k⟩
theorem AbsM.new (h : AbsM K H M) {p : Addr} {xs : List V} {ds : List D} (e : H p = none) (l : HasL K H xs ds) : AbsM K (upd H p (.lst xs)) (updM M p (.lst ds)) := fun a o m => by
  by_cases q : a = p
  · subst q
    rw [updM_same] at m; cases m
    exact ⟨xs, upd_same, l.mono (KT.alloc e)⟩
  · rw [updM_ne q] at m
    exact h.alloc e a o m
theorem AbsM.write (h : AbsM K H M) {p : Addr} {xs ys : List V} {ds : List D} (e : H p = some (.lst xs)) (l : HasL K H ys ds) : AbsM K (upd H p (.lst ys)) (updM M p (.lst ds)) := fun a o m => by
  have k : KT H (upd H p (.lst ys)) := KT.write e
  by_cases q : a = p
  · subst q
    rw [updM_same] at m; cases m
    exact ⟨ys, upd_same, l.mono k⟩
  · rw [updM_ne q] at m
    cases o with
    | lst es =>
      obtain ⟨zs, z, l⟩ := h a _ m
      exact ⟨zs, by rw [upd_ne q]; exact z, l.mono k⟩
theorem AbsM.lst (h : AbsM K H M) {a : Addr} {ds : List D} (m : M a = some (.lst ds)) : ∃ xs, H a = some (.lst xs) ∧ HasL K H xs ds := h a _ m
end


noncomputable abbrev Ev := List (Option D)
structure EnvOk (K : PySem.W.Frag) (H : Hp) (σ : St) (e : Ev) : Prop where
  len : σ.length = e.length
  has : ∀ (i : Nat) (d : D), e[i]? = some (some d) → ∃ v, σ[i]? = some (some v) ∧ Has K H v d
section
variable {K : PySem.W.Frag} {H H' : Hp} {σ : St} {e : Ev}
theorem EnvOk.mono (k : KT H H') (h : EnvOk K H σ e) : EnvOk K H' σ e := ⟨h.len, fun i d z => let ⟨v, a, b⟩ := h.has i d z; ⟨v, a, b.mono k⟩⟩
theorem EnvOk.set (h : EnvOk K H σ e) {v : V} {d : D} (r : Has K H v d) (i : Nat) : EnvOk K H (σ.set i (some v)) (e.set i (some d)) := by
  refine ⟨by simp [h.len], fun j x z => ?_⟩
  rw [List.getElem?_set] at z ⊢
  by_cases q : i = j
  · subst q
    rw [if_pos rfl] at z ⊢
    by_cases l : i < e.length
    · rw [if_pos l] at z
      rw [if_pos (by rw [h.len]; exact l)]
      cases z
      exact ⟨v, rfl, r⟩
    · rw [if_neg l] at z; cases z
  · rw [if_neg q] at z ⊢
    exact h.has j x z
end
noncomputable def dstart (N : List Str) (ds : List D) : Ev := ds.map some ++ List.replicate (N.length - ds.length) none
theorem EnvOk.start0 {K : PySem.W.Frag} {H : Hp} {N : List Str} {vs : List V} {ds : List D} (h : HasL K H vs ds) : EnvOk K H (L2.start N vs) (dstart N ds) := by
  have hl := h.length
  refine ⟨by simp [L2.start, dstart, hl], fun i d z => ?_⟩
  unfold dstart at z
  unfold L2.start
  rw [List.getElem?_append] at z ⊢
  simp only [List.length_map] at z ⊢
  rw [hl]
  by_cases q : i < ds.length
  · rw [if_pos q] at z ⊢
    rw [List.getElem?_map] at z ⊢
    cases e : ds[i]? with
    | none => rw [e] at z; cases z
    | some x =>
      rw [e] at z
      have z' : x = d := by simpa using z
      subst z'
      obtain ⟨v, a, b⟩ := h.get e
      exact ⟨v, by rw [a]; rfl, b⟩
  · rw [if_neg q] at z
    rw [List.getElem?_replicate] at z
    split at z <;> cases z


noncomputable abbrev DK := D → Mem → Prop
noncomputable abbrev DTE := Ev → Mem → DK → Prop
noncomputable abbrev DTT := Ev → Mem → (Bool → Mem → Prop) → Prop
noncomputable abbrev DTA := Ev → Mem → (List D → Mem → Prop) → Prop
structure DEnds where
  nx : Ev → Mem → Prop
  rt : DK
  bk : Ev → Mem → Prop := fun _ _ => False
  ct : Ev → Mem → Prop := fun _ _ => False
noncomputable abbrev DTS := DEnds → Ev → Mem → Prop
noncomputable def FitV (K : PySem.W.Frag) (H : Hp) (R : DK) (Q : VK) : Prop := ∀ d M', R d M' → ∀ v H', KT H H' → AbsM K H' M' → Has K H' v d → Q v H'
noncomputable def FitB (K : PySem.W.Frag) (H : Hp) (R : Bool → Mem → Prop) (Q : Bool → Hp → Prop) : Prop := ∀ b M', R b M' → ∀ H', KT H H' → AbsM K H' M' → Q b H'
noncomputable def FitL (K : PySem.W.Frag) (H : Hp) (R : List D → Mem → Prop) (Q : List V → Hp → Prop) : Prop := ∀ ds M', R ds M' → ∀ vs H', KT H H' → AbsM K H' M' → HasL K H' vs ds → Q vs H'
noncomputable def FitN (K : PySem.W.Frag) (H : Hp) (R : Ev → Mem → Prop) (Q : St → Hp → Prop) : Prop := ∀ e M', R e M' → ∀ σ H', KT H H' → AbsM K H' M' → EnvOk K H' σ e → Q σ H'
structure Fit (K : PySem.W.Frag) (H : Hp) (F : DEnds) (E : Ends) : Prop where
  nx : FitN K H F.nx E.nx
  rt : FitV K H F.rt E.rt
  bk : FitN K H F.bk E.bk
  ct : FitN K H F.ct E.ct
section
variable {K : PySem.W.Frag} {H H' : Hp}
theorem FitV.mono {R : DK} {Q : VK} (h : FitV K H R Q) (k : KT H H') : FitV K H' R Q := fun d M r v H2 k2 a b => h d M r v H2 (k.trans k2) a b
theorem FitB.mono {R : Bool → Mem → Prop} {Q : Bool → Hp → Prop} (h : FitB K H R Q) (k : KT H H') : FitB K H' R Q := fun d M r H2 k2 a => h d M r H2 (k.trans k2) a
theorem FitL.mono {R : List D → Mem → Prop} {Q : List V → Hp → Prop} (h : FitL K H R Q) (k : KT H H') : FitL K H' R Q := fun d M r v H2 k2 a b => h d M r v H2 (k.trans k2) a b
theorem FitN.mono {R : Ev → Mem → Prop} {Q : St → Hp → Prop} (h : FitN K H R Q) (k : KT H H') : FitN K H' R Q := fun d M r v H2 k2 a b => h d M r v H2 (k.trans k2) a b
theorem Fit.mono {F : DEnds} {E : Ends} (h : Fit K H F E) (k : KT H H') : Fit K H' F E := ⟨h.nx.mono k, h.rt.mono k, h.bk.mono k, h.ct.mono k⟩
end
noncomputable def up (K : PySem.W.Frag) (t : DTE) : TE := fun σ H Q => ∃ e M R, EnvOk K H σ e ∧ AbsM K H M ∧ t e M R ∧ FitV K H R Q
noncomputable def upT (K : PySem.W.Frag) (t : DTT) : TT := fun σ H Q => ∃ e M R, EnvOk K H σ e ∧ AbsM K H M ∧ t e M R ∧ FitB K H R Q
noncomputable def upA (K : PySem.W.Frag) (t : DTA) : TA := fun σ H Q => ∃ e M R, EnvOk K H σ e ∧ AbsM K H M ∧ t e M R ∧ FitL K H R Q
noncomputable def upS (K : PySem.W.Frag) (t : DTS) : TS := fun E σ H => ∃ e M F, EnvOk K H σ e ∧ AbsM K H M ∧ t F e M ∧ Fit K H F E
noncomputable abbrev DPE (X : Cx) (x : Expr) (t : DTE) : Prop := PE X x (up X.K t)
noncomputable abbrev DPT (X : Cx) (x : Expr) (t : DTT) : Prop := PT X x (upT X.K t)
noncomputable abbrev DPW (X : Cx) (x : Expr) (t : DTT) : Prop := PW X x (upT X.K t)
noncomputable abbrev DPA (X : Cx) (x : List Expr) (t : DTA) : Prop := PA X x (upA X.K t)
noncomputable abbrev DPS (X : Cx) (x : Stmt) (t : DTS) : Prop := PS X x (upS X.K t)
noncomputable abbrev DPSs (X : Cx) (x : List Stmt) (t : DTS) : Prop := PSs X x (upS X.K t)
structure JE (X : Cx) (x : Expr) (t : DTE) : Prop where
  out : DPE X x t
structure JT (X : Cx) (x : Expr) (t : DTT) : Prop where
  out : DPT X x t
structure JW (X : Cx) (x : Expr) (t : DTT) : Prop where
  out : DPW X x t
structure JA (X : Cx) (x : List Expr) (t : DTA) : Prop where
  out : DPA X x t
structure JS (X : Cx) (x : Stmt) (t : DTS) : Prop where
  out : DPS X x t
structure JSs (X : Cx) (x : List Stmt) (t : DTS) : Prop where
  out : DPSs X x t

section
variable {X : Cx} {a b c : Expr} {ta tb tc : DTE} {pos : Pos}

noncomputable def dVar (i : Nat) : DTE := fun e M R => ∃ d, e[i]? = some (some d) ∧ R d M
noncomputable def dC (d : D) : DTE := fun _ M R => R d M
theorem d_var (i : Nat) {x : Str} {pos : Pos} (hN : X.N[i]? = some x := by rfl) (hv : Vis X.env.scope x := by first | exact Or.inl rfl | exact Or.inr (Or.inl rfl) | exact Or.inr (Or.inr rfl)) (hd : (x == ("__debug__" : Str)) = false := by decide)
    (hcd : (x == ("__classdict__" : Str)) = false := by decide) : DPE X (.Name x pos) (dVar i) :=
  (pe_var hN hv hd hcd).imp (by
    rintro σ H Q ⟨e, M, R, ok, am, ⟨d, z, r⟩, f⟩
    obtain ⟨v, h1, h2⟩ := ok.has i d z
    exact ⟨v, h1, f d M r v H (KT.refl H) am h2⟩)
theorem jd_var (i : Nat) {x : Str} {pos : Pos} (hN : X.N[i]? = some x := by rfl) (hv : Vis X.env.scope x := by first | exact Or.inl rfl | exact Or.inr (Or.inl rfl) | exact Or.inr (Or.inr rfl)) (hd : (x == ("__debug__" : Str)) = false := by decide)
    (hcd : (x == ("__classdict__" : Str)) = false := by decide) : JE X (.Name x pos) (dVar i) := ⟨d_var (i := i) (hN := hN) (hv := hv) (hd := hd) (hcd := hcd)⟩
theorem d_const {v : V} {d : D} (h : PE X a (tC v)) (r : ∀ H, Has X.K H v d) : DPE X a (dC d) :=
  h.imp (by rintro σ H Q ⟨e, M, R, ok, am, z, f⟩; exact f d M z v H (KT.refl H) am (r H))
theorem d_int {i j pos} : DPE X (.Constant (.int i) j pos) (dC (.int i)) := d_const pe_int fun _ => .int i
theorem jd_int {i j pos} : JE X (.Constant (.int i) j pos) (dC (.int i)) := ⟨d_int ⟩
theorem d_bl {b j pos} : DPE X (.Constant (.bool b) j pos) (dC (.bl b)) := d_const pe_bl fun _ => .bl b
theorem jd_bl {b j pos} : JE X (.Constant (.bool b) j pos) (dC (.bl b)) := ⟨d_bl ⟩
theorem d_non {j pos} : DPE X (.Constant .none j pos) (dC .non) := d_const pe_non fun _ => .non
theorem jd_non {j pos} : JE X (.Constant .none j pos) (dC .non) := ⟨d_non ⟩
noncomputable def HasK (K : PySem.W.Frag) (v : V) (d : D) : Prop := ∀ H, Has K H v d
theorem d_glob {x : Str} {v : V} {d : D} {u : Value} {pos : Pos} (hg : Gl X x) (hm : X.mg x = some u) (r : RelV v u) (hk : HasK X.K v d) (hd : (x == ("__debug__" : Str)) = false := by decide) : DPE X (.Name x pos) (dC d) :=
  d_const (pe_glob hg hm r hd) hk

noncomputable abbrev DR2 := D → D → Mem → DK → Prop
noncomputable def upR (K : PySem.W.Frag) (g : DR2) : R2 := fun x y H Q => ∃ dx dy M R, Has K H x dx ∧ Has K H y dy ∧ AbsM K H M ∧ g dx dy M R ∧ FitV K H R Q
noncomputable def DOp (X : Cx) (f : Value → Value → Sem Value) (g : DR2) : Prop := OpR X f (upR X.K g)
noncomputable def dOp (g : DR2) (ta tb : DTE) : DTE := fun e M R => ta e M fun x M1 => tb e M1 fun y M2 => g x y M2 R
theorem two_up {ta tb : DTE} {g : DR2} {σ : St} {H : Hp} {Q : VK} (h : up X.K (dOp g ta tb) σ H Q) : tOp (upR X.K g) (up X.K ta) (up X.K tb) σ H Q := by
  obtain ⟨e, M, R, ok, am, t, f⟩ := h
  refine ⟨e, M, _, ok, am, t, fun x M1 h1 v H1 k1 a1 r1 => ?_⟩
  refine ⟨e, M1, _, ok.mono k1, a1, h1, fun y M2 h2 u H2 k2 a2 r2 => ?_⟩
  exact ⟨x, y, M2, R, r1.mono k2, r2, a2, h2, f.mono (k1.trans k2)⟩
theorem d_op {op : Operator} {g : DR2} (ho : DOp X (binaryOp op) g) (ha : DPE X a ta) (hb : DPE X b tb) : DPE X (.BinOp a op b pos) (dOp g ta tb) :=
  (pe_op ho ha hb).imp fun _ _ _ h => two_up h
theorem jd_op {op : Operator} {g : DR2} (ho : DOp X (binaryOp op) g) (ha : JE X a ta) (hb : JE X b tb) : JE X (.BinOp a op b pos) (dOp g ta tb) := ⟨d_op (ho := ho) (ha := ha.out) (hb := hb.out)⟩
theorem d_cmp {op : CmpOp} {g : DR2} (ho : DOp X (compareOp op) g) (ha : DPE X a ta) (hb : DPE X b tb) (hm : behindInMarks op b = false) : DPE X (.Compare a [op] [b] pos) (dOp g ta tb) :=
  (pe_cmpR ho ha hb hm).imp fun _ _ _ h => two_up h
theorem jd_cmp {op : CmpOp} {g : DR2} (ho : DOp X (compareOp op) g) (ha : JE X a ta) (hb : JE X b tb) (hm : behindInMarks op b = false) : JE X (.Compare a [op] [b] pos) (dOp g ta tb) := ⟨d_cmp (ho := ho) (ha := ha.out) (hb := hb.out) (hm := hm)⟩
noncomputable def dTest (t : DTE) : DTT := fun e M R => t e M fun x M' => ∃ k, x = .bl k ∧ R k M'
theorem test_fit {K : PySem.W.Frag} {H : Hp} {R : Bool → Mem → Prop} {Q : Bool → Hp → Prop} (f : FitB K H R Q) : FitV K H (fun x M' => ∃ k, x = .bl k ∧ R k M') (fun x H' => ∃ k, x = .bl k ∧ Q k H') := by
  rintro d M' ⟨k, rfl, r⟩ v H' kt am h
  cases h
  exact ⟨k, rfl, f k M' r H' kt am⟩
theorem d_tcmp {op : CmpOp} {g : DR2} (ho : DOp X (compareOp op) g) (ha : DPE X a ta) (hb : DPE X b tb) (hm : behindInMarks op b = false) : DPT X (.Compare a [op] [b] pos) (dTest (dOp g ta tb)) :=
  (pt_cmpR ho ha hb hm).imp (by rintro σ H Q ⟨e, M, R, ok, am, t, f⟩; exact two_up (Q := fun x H' => ∃ k, x = .bl k ∧ Q k H') ⟨e, M, _, ok, am, t, test_fit f⟩)
theorem jd_tcmp {op : CmpOp} {g : DR2} (ho : DOp X (compareOp op) g) (ha : JE X a ta) (hb : JE X b tb) (hm : behindInMarks op b = false) : JT X (.Compare a [op] [b] pos) (dTest (dOp g ta tb)) := ⟨d_tcmp (ho := ho) (ha := ha.out) (hb := hb.out) (hm := hm)⟩
theorem d_tval {x : Expr} {t : DTE} (h : DPE X x t) (he : ∀ whole, isTrue x X.env whole = (do let v ← whole; standAt x.pos; holding [v] (truthy v)) := by intro _; rfl) : DPT X x (dTest t) :=
  (pt_val h he).imp (by rintro σ H Q ⟨e, M, R, ok, am, t, f⟩; exact ⟨e, M, _, ok, am, t, test_fit f⟩)
theorem jd_tval {x : Expr} {t : DTE} (h : JE X x t) (he : ∀ whole, isTrue x X.env whole = (do let v ← whole; standAt x.pos; holding [v] (truthy v)) := by intro _; rfl) : JT X x (dTest t) := ⟨d_tval (h := h.out) (he := he)⟩

noncomputable def fI (f : Int → Int → D) : D → D → Option D
  | .int i, .int j => some (f i j)
  | _, _ => none
noncomputable def gF (f : D → D → Option D) : DR2 := fun x y M R => ∃ z, f x y = some z ∧ R z M
noncomputable def gI (C : Int → Int → Prop) (f : Int → Int → D) : DR2 := fun x y M R => ∃ i j, x = .int i ∧ y = .int j ∧ C i j ∧ R (f i j) M
theorem fI_some {f : Int → Int → D} {x y z : D} (h : fI f x y = some z) : ∃ i j, x = .int i ∧ y = .int j ∧ z = f i j := by
  cases x with
  | int i =>
    cases y with
    | int j => exact ⟨i, j, rfl, rfl, (Option.some.inj h).symm⟩
    | _ => cases h
  | _ => cases h
theorem dop_I {f : Value → Value → Sem Value} {C : Int → Int → Prop} {g : Int → Int → V} {g' : Int → Int → D} (h : OpR X f (rI C g)) (hg : ∀ i j H, Has X.K H (g i j) (g' i j)) : DOp X f (gI C g') :=
  OpR.imp h (by
    rintro x y H Q ⟨dx, dy, M, R, hx, hy, am, ⟨i, j, e1, e2, hc, r⟩, f⟩
    subst e1; subst e2
    cases hx; cases hy
    exact ⟨i, j, rfl, rfl, hc, f _ M r _ H (KT.refl H) am (hg i j H)⟩)
theorem dop_I0 {f : Value → Value → Sem Value} {g : Int → Int → V} {g' : Int → Int → D} (h : OpR X f (rI0 g)) (hg : ∀ i j H, Has X.K H (g i j) (g' i j)) : DOp X f (gF (fI g')) :=
  OpR.imp h (by
    rintro x y H Q ⟨dx, dy, M, R, hx, hy, am, ⟨z, e, r⟩, f⟩
    obtain ⟨i, j, e1, e2, e3⟩ := fI_some e
    subst e1; subst e2; subst e3
    cases hx; cases hy
    exact ⟨i, j, rfl, rfl, f _ M r _ H (KT.refl H) am (hg i j H)⟩)
theorem o_add : DOp X (binaryOp .Add) (gF (fI fun i j => .int (i + j))) := dop_I0 op_add fun _ _ _ => .int _
theorem o_sub : DOp X (binaryOp .Sub) (gF (fI fun i j => .int (i - j))) := dop_I0 op_sub fun _ _ _ => .int _
theorem o_lt : DOp X (compareOp .Lt) (gF (fI fun i j => .bl (decide (i < j)))) := dop_I0 op_lt fun _ _ _ => .bl _
theorem o_le : DOp X (compareOp .LtE) (gF (fI fun i j => .bl (decide (i ≤ j)))) := dop_I0 op_le fun _ _ _ => .bl _
theorem o_gt : DOp X (compareOp .Gt) (gF (fI fun i j => .bl (decide (j < i)))) := dop_I0 op_gt fun _ _ _ => .bl _
theorem o_mod : DOp X (binaryOp .Mod) (gI (fun _ j => 0 < j) fun i j => .int (i % j)) := dop_I op_mod fun _ _ _ => .int _
theorem o_pow : DOp X (binaryOp .Pow) (gI CPow fun i j => .int (i ^ j.toNat)) := dop_I op_pow fun _ _ _ => .int _
noncomputable def gU (f : Int → D) : D → Mem → DK → Prop := fun x M R => ∃ i, x = .int i ∧ R (f i) M
noncomputable def dUn (g : D → Mem → DK → Prop) (ta : DTE) : DTE := fun e M R => ta e M fun x M1 => g x M1 R
theorem d_neg (ha : DPE X a ta) : DPE X (.UnaryOp .USub a pos) (dUn (gU fun i => .int (-i)) ta) :=
  (pe_un un_neg ha).imp (by rintro σ H Q ⟨e, M, R, ok, am, t, f⟩; exact ⟨e, M, _, ok, am, t, fun x M1 ⟨i, z, r⟩ v H1 k1 a1 r1 => by
    subst z; cases r1; exact ⟨i, rfl, f _ M1 r _ H1 k1 a1 (.int _)⟩⟩)
theorem jd_neg (ha : JE X a ta) : JE X (.UnaryOp .USub a pos) (dUn (gU fun i => .int (-i)) ta) := ⟨d_neg (ha := ha.out)⟩

variable {tA tB' : DTT} {rest : List Expr}
noncomputable def dOr (t u : DTT) : DTT := fun e M R => t e M fun c M1 => if c = true then R true M1 else u e M1 R
noncomputable def dNot (t : DTT) : DTT := fun e M R => t e M fun c M1 => R (!c) M1
theorem d_or1 (ha : DPT X a tA) : DPW X (.BoolOp .Or [a] pos) tA := pw_or1 ha
theorem jd_or1 (ha : JT X a tA) : JW X (.BoolOp .Or [a] pos) tA := ⟨d_or1 (ha := ha.out)⟩
theorem d_or (ha : DPT X a tA) (hb : DPW X (.BoolOp .Or (b :: rest) pos) tB') : DPW X (.BoolOp .Or (a :: b :: rest) pos) (dOr tA tB') :=
  (pw_or ha hb).imp (by rintro σ H Q ⟨e, M, R, ok, am, t, f⟩; exact ⟨e, M, _, ok, am, t, fun k M1 h1 H1 k1 a1 => by
    cases k with
    | true => exact f true M1 h1 H1 k1 a1
    | false => exact ⟨e, M1, R, ok.mono k1, a1, h1, f.mono k1⟩⟩)
theorem jd_or (ha : JT X a tA) (hb : JW X (.BoolOp .Or (b :: rest) pos) tB') : JW X (.BoolOp .Or (a :: b :: rest) pos) (dOr tA tB') := ⟨d_or (ha := ha.out) (hb := hb.out)⟩
theorem d_not (ha : DPT X a tA) : DPT X (.UnaryOp .Not a pos) (dNot tA) :=
  (pt_not ha).imp (by rintro σ H Q ⟨e, M, R, ok, am, t, f⟩; exact ⟨e, M, _, ok, am, t, fun k M1 h1 H1 k1 a1 => f (!k) M1 h1 H1 k1 a1⟩)
theorem jd_not (ha : JT X a tA) : JT X (.UnaryOp .Not a pos) (dNot tA) := ⟨d_not (ha := ha.out)⟩
theorem d_tw {x : Expr} {t : DTT} (h : DPW X x t) : DPT X x t := PW.pt h
theorem jd_tw {x : Expr} {t : DTT} (h : JW X x t) : JT X x t := ⟨d_tw (h := h.out)⟩
noncomputable def dAndV (ta tb : DTE) : DTE := fun e M R => ta e M fun x M1 => ∃ c, x = .bl c ∧ if c = true then tb e M1 R else R (.bl false) M1
noncomputable def dNotV (ta : DTE) : DTE := fun e M R => ta e M fun x M1 => ∃ c, x = .bl c ∧ R (.bl (!c)) M1
theorem d_vone {op} {t : DTE} (h : DPE X a t) : DPE X (.BoolOp op [a] pos) t := pe_one h
theorem jd_vone {op} {t : DTE} (h : JE X a t) : JE X (.BoolOp op [a] pos) t := ⟨d_vone (h := h.out)⟩
theorem d_vand (ha : DPE X a ta) (hb : DPE X (.BoolOp .And (b :: rest) pos) tb) : DPE X (.BoolOp .And (a :: b :: rest) pos) (dAndV ta tb) :=
  (pe_and ha hb).imp (by rintro σ H Q ⟨e, M, R, ok, am, t, f⟩; exact ⟨e, M, _, ok, am, t, fun x M1 ⟨k, z, h1⟩ v H1 k1 a1 r1 => by
    subst z; cases r1
    refine ⟨k, rfl, ?_⟩
    cases k with
    | true => exact ⟨e, M1, R, ok.mono k1, a1, h1, f.mono k1⟩
    | false => exact f _ M1 h1 _ H1 k1 a1 (.bl _)⟩)
theorem jd_vand (ha : JE X a ta) (hb : JE X (.BoolOp .And (b :: rest) pos) tb) : JE X (.BoolOp .And (a :: b :: rest) pos) (dAndV ta tb) := ⟨d_vand (ha := ha.out) (hb := hb.out)⟩
theorem d_vnot (ha : DPE X a ta) : DPE X (.UnaryOp .Not a pos) (dNotV ta) :=
  (pe_not ha).imp (by rintro σ H Q ⟨e, M, R, ok, am, t, f⟩; exact ⟨e, M, _, ok, am, t, fun x M1 ⟨k, z, h1⟩ v H1 k1 a1 r1 => by
    subst z; cases r1
    exact ⟨k, rfl, f _ M1 h1 _ H1 k1 a1 (.bl _)⟩⟩)
theorem jd_vnot (ha : JE X a ta) : JE X (.UnaryOp .Not a pos) (dNotV ta) := ⟨d_vnot (ha := ha.out)⟩
noncomputable def dIf (t : DTT) (ta tb : DTE) : DTE := fun e M R => t e M fun c M1 => if c = true then ta e M1 R else tb e M1 R
theorem d_ifExp (hc : DPT X c tA) (ha : DPE X a ta) (hb : DPE X b tb) : DPE X (.IfExp c a b pos) (dIf tA ta tb) :=
  (pe_ifExp hc ha hb).imp (by rintro σ H Q ⟨e, M, R, ok, am, t, f⟩; exact ⟨e, M, _, ok, am, t, fun k M1 h1 H1 k1 a1 => by
    cases k with
    | true => exact ⟨e, M1, R, ok.mono k1, a1, h1, f.mono k1⟩
    | false => exact ⟨e, M1, R, ok.mono k1, a1, h1, f.mono k1⟩⟩)
theorem jd_ifExp (hc : JT X c tA) (ha : JE X a ta) (hb : JE X b tb) : JE X (.IfExp c a b pos) (dIf tA ta tb) := ⟨d_ifExp (hc := hc.out) (ha := ha.out) (hb := hb.out)⟩

noncomputable def dNil : DTA := fun _ M R => R [] M
noncomputable def dCons (ta : DTE) (tr : DTA) : DTA := fun e M R => ta e M fun x M1 => tr e M1 fun xs M2 => R (x :: xs) M2
variable {es : List Expr} {tr : DTA}
theorem da_nil : DPA X [] dNil := pa_nil.imp (by rintro σ H Q ⟨e, M, R, ok, am, t, f⟩; exact f [] M t [] H (KT.refl H) am .nil)
theorem jda_nil  : JA X [] dNil := ⟨da_nil ⟩
theorem da_cons (ha : DPE X a ta) (hr : DPA X es tr) (hs : starEach (a :: es) X.env = (false, eval a X.env) :: starEach es X.env := by rfl) : DPA X (a :: es) (dCons ta tr) :=
  (pa_cons ha hr hs).imp (by rintro σ H Q ⟨e, M, R, ok, am, t, f⟩; exact ⟨e, M, _, ok, am, t, fun x M1 h1 v H1 k1 a1 r1 =>
    ⟨e, M1, _, ok.mono k1, a1, h1, fun xs M2 h2 vs H2 k2 a2 r2 => f _ M2 h2 _ H2 (k1.trans k2) a2 (.cons (r1.mono k2) r2)⟩⟩)
theorem jda_cons (ha : JE X a ta) (hr : JA X es tr) (hs : starEach (a :: es) X.env = (false, eval a X.env) :: starEach es X.env := by rfl) : JA X (a :: es) (dCons ta tr) := ⟨da_cons (ha := ha.out) (hr := hr.out) (hs := hs)⟩
noncomputable def dTup (t : DTA) : DTE := fun e M R => t e M fun ds M1 => ds.length ≤ sizeLine ∧ R (.tup ds) M1
noncomputable def dLst (t : DTA) : DTE := fun e M R => t e M fun ds M1 => ds.length ≤ sizeLine ∧ ∀ p, M1 p = none → R (.ref p) (updM M1 p (.lst ds))
theorem d_tup {x1} (h : DPA X es tr) : DPE X (.Tuple es x1 pos) (dTup tr) :=
  (pe_tup h).imp (by rintro σ H Q ⟨e, M, R, ok, am, t, f⟩; exact ⟨e, M, _, ok, am, t, fun ds M1 ⟨hz, h1⟩ vs H1 k1 a1 r1 => by
    refine ⟨by rw [r1.length]; exact hz, fun p hp => ?_⟩
    have k2 : KT H1 (upd H1 p (.tup vs)) := KT.alloc hp
    exact f _ M1 h1 _ _ (k1.trans k2) (a1.alloc hp) (.tup (SqT.of upd_same) (r1.mono k2))⟩)
theorem jd_tup {x1} (h : JA X es tr) : JE X (.Tuple es x1 pos) (dTup tr) := ⟨d_tup (h := h.out)⟩
theorem d_lst (h : DPA X es tr) : DPE X (.List es pos) (dLst tr) :=
  (pe_lst h).imp (by rintro σ H Q ⟨e, M, R, ok, am, t, f⟩; exact ⟨e, M, _, ok, am, t, fun ds M1 ⟨hz, h1⟩ vs H1 k1 a1 r1 => by
    refine ⟨by rw [r1.length]; exact hz, fun p hp => ?_⟩
    have k2 : KT H1 (upd H1 p (.lst vs)) := KT.alloc hp
    exact f _ _ (h1 p (a1.fresh hp)) _ _ (k1.trans k2) (a1.new hp r1) (.ref p)⟩)
theorem jd_lst (h : JA X es tr) : JE X (.List es pos) (dLst tr) := ⟨d_lst (h := h.out)⟩

theorem HasL.at {K : PySem.W.Frag} {H : Hp} {vs : List V} {ds : List D} (h : HasL K H vs ds) {i : Int} {z : D} (e : atI ds i = some z) : ∃ v, atI vs i = some v ∧ Has K H v z := by
  unfold atI at e ⊢
  rw [h.length]
  cases q : ixN ds.length i with
  | none => rw [q] at e; cases e
  | some j =>
    rw [q] at e
    exact h.get e
noncomputable def DIx (X : Cx) (g : DR2) : Prop := IxR X (upR X.K g)
theorem d_ix {g : DR2} (hr : DIx X g) (ha : DPE X a ta) (hb : DPE X b tb) (hs : PlainIx b) : DPE X (.Subscript a b pos) (dOp g ta tb) :=
  (pe_ix hr ha hb hs).imp fun _ _ _ h => two_up h

theorem jd_ix {g : DR2} (hr : DIx X g) (ha : JE X a ta) (hb : JE X b tb) (hs : PlainIx b) : JE X (.Subscript a b pos) (dOp g ta tb) := ⟨d_ix (hr := hr) (ha := ha.out) (hb := hb.out) (hs := hs)⟩

noncomputable abbrev DXK := Value → Mem → Prop
noncomputable abbrev DSp := List D → Mem → DK → DXK → Prop
noncomputable def FitX (K : PySem.W.Frag) (H : Hp) (Y : DXK) (E : XK) : Prop := ∀ c M', Y c M' → ∀ o H', KT H H' → AbsM K H' M' → E c o H'
noncomputable def upSp (K : PySem.W.Frag) (sp : DSp) : Sp := fun vs H Q E => ∃ ds M R Y, HasL K H vs ds ∧ AbsM K H M ∧ sp ds M R Y ∧ FitV K H R Q ∧ FitX K H Y E
noncomputable def dCall (sp : DSp) (dds : List D) (Y : DXK) (t : DTA) : DTE := fun e M R => t e M fun ds M1 => sp (ds ++ dds) M1 R Y
end
section
variable {X : Cx} {CX : CXT} {k : Nat} {f C : Addr} {fd : FuncData} {ps : List Str} {sp : DSp} {dvs : List V} {dds : List D} {ds : List Value} {E : XK} {Y : DXK} {x m : Str} {p pos apos : Pos} {e o : Expr} {es : List Expr} {t : DTA}
theorem d_call (F : FnOk X.prog X.w X.K X.mg X.base CX k f fd ps (upSp X.K sp)) (hr : Room k X.A) (hg : Gl X x) (hm : X.mg x = some (.ref f)) (hk : PySem.W.keepIn X.K (.ref f) = true) (hb : Binds X.K fd ps ds) (hd : Vals dvs ds) (hdd : ∀ H, HasL X.K H dvs dds) (hx : Passes CX X E) (hY : ∀ H, FitX X.K H Y E)
    (ha : DPA X (e :: es) t) (hdb : (x == ("__debug__" : Str)) = false := by decide) (he : starEach (e :: es) X.env = (false, eval e X.env) :: starEach es X.env := by rfl) (hpl : (backTo pos (starEach es X.env)).any (·.1) = false := by rfl) :
    DPE X (.Call (.Name x p) (e :: es) [] pos) (dCall sp dds Y t) :=
  (pe_call F hr hg hm hk hb hd hx ha hdb he hpl).imp (by rintro σ H Q ⟨e, M, R, ok, am, t, f⟩; exact ⟨e, M, _, ok, am, t, fun xs M1 h1 vs H1 k1 a1 r1 =>
    ⟨xs ++ dds, M1, R, Y, r1.append (hdd H1), a1, h1, f.mono k1, hY H1⟩⟩)
end


section
variable {X : Cx} {st : Stmt} {rest : List Stmt} {t u : DTS} {e : Expr} {te : DTE} {pos : Pos}
noncomputable def dNext : DTS := fun F e M => F.nx e M
noncomputable def dSeq (t u : DTS) : DTS := fun F e M => t { F with nx := u F } e M
theorem ds_nil : DPSs X [] dNext := pss_nil.imp (by rintro E σ H ⟨e, M, F, ok, am, t, f⟩; exact f.nx e M t σ H (KT.refl H) am ok)
theorem jds_nil  : JSs X [] dNext := ⟨ds_nil ⟩
theorem ds_cons (h1 : DPS X st t) (h2 : DPSs X rest u) : DPSs X (st :: rest) (dSeq t u) :=
  (pss_cons h1 h2).imp (by rintro E σ H ⟨e, M, F, ok, am, t, f⟩; exact ⟨e, M, { F with nx := u F }, ok, am, t, ⟨fun e' M' h σ' H' k a o => ⟨e', M', F, o, a, h, f.mono k⟩, f.rt, f.bk, f.ct⟩⟩)
theorem jds_cons (h1 : JS X st t) (h2 : JSs X rest u) : JSs X (st :: rest) (dSeq t u) := ⟨ds_cons (h1 := h1.out) (h2 := h2.out)⟩
theorem ds_one (h1 : DPS X st t) : DPSs X [st] t := pss_one h1
theorem jds_one (h1 : JS X st t) : JSs X [st] t := ⟨ds_one (h1 := h1.out)⟩
noncomputable def dDrop (te : DTE) : DTS := fun F e M => te e M fun _ M1 => F.nx e M1
theorem ds_expr (he : DPE X e te) (hs : swapsWith e none pos.line X.env = pure false := by rfl) : DPS X (.Expr e pos) (dDrop te) :=
  (ps_expr he hs).imp (by rintro E σ H ⟨e, M, F, ok, am, t, f⟩; exact ⟨e, M, _, ok, am, t, fun d M1 h1 v H1 k1 a1 r1 => f.nx e M1 h1 σ H1 k1 a1 (ok.mono k1)⟩)
theorem jds_expr (he : JE X e te) (hs : swapsWith e none pos.line X.env = pure false := by rfl) : JS X (.Expr e pos) (dDrop te) := ⟨ds_expr (he := he.out) (hs := hs)⟩
noncomputable def dRet (te : DTE) : DTS := fun F e M => te e M F.rt
theorem ds_ret (he : DPE X e te) : DPS X (.Return (some e) pos) (dRet te) :=
  (ps_ret he).imp (by rintro E σ H ⟨e, M, F, ok, am, t, f⟩; exact ⟨e, M, _, ok, am, t, f.rt⟩)
theorem jds_ret (he : JE X e te) : JS X (.Return (some e) pos) (dRet te) := ⟨ds_ret (he := he.out)⟩
noncomputable def dIfS (c : DTT) (t u : DTS) : DTS := fun F e M => c e M fun b M1 => if b = true then t F e M1 else u F e M1
theorem ds_if {c : Expr} {a b : List Stmt} {tc : DTT} (hc : DPT X c tc) (ha : DPSs X a t) (hb : DPSs X b u) : DPS X (.If c a b pos) (dIfS tc t u) :=
  (ps_if hc ha hb).imp (by rintro E σ H ⟨e, M, F, ok, am, t, f⟩; exact ⟨e, M, _, ok, am, t, fun k M1 h1 H1 k1 a1 => by
    cases k with
    | true => exact ⟨e, M1, F, ok.mono k1, a1, h1, f.mono k1⟩
    | false => exact ⟨e, M1, F, ok.mono k1, a1, h1, f.mono k1⟩⟩)
theorem jds_if {c : Expr} {a b : List Stmt} {tc : DTT} (hc : JT X c tc) (ha : JSs X a t) (hb : JSs X b u) : JS X (.If c a b pos) (dIfS tc t u) := ⟨ds_if (hc := hc.out) (ha := ha.out) (hb := hb.out)⟩
noncomputable def dNever : DTS := fun _ _ _ => False
theorem ds_never : DPS X st dNever := ps_never.imp (by rintro E σ H ⟨_, _, _, _, _, t, _⟩; exact t)
theorem jds_never  : JS X st dNever := ⟨ds_never ⟩
theorem dss_never {sts : List Stmt} : DPSs X sts dNever := pss_never.imp (by rintro E σ H ⟨_, _, _, _, _, t, _⟩; exact t)
theorem jdss_never {sts : List Stmt} : JSs X sts dNever := ⟨dss_never ⟩

noncomputable abbrev DTG := D → Ev → Mem → (Ev → Mem → Prop) → Prop
noncomputable abbrev DTGs := List D → Ev → Mem → (Ev → Mem → Prop) → Prop
noncomputable def upG (K : PySem.W.Frag) (g : DTG) : TG := fun v σ H Q => ∃ d e M R, Has K H v d ∧ EnvOk K H σ e ∧ AbsM K H M ∧ g d e M R ∧ FitN K H R Q
noncomputable def upGs (K : PySem.W.Frag) (g : DTGs) : TGs := fun vs σ H Q => ∃ ds e M R, HasL K H vs ds ∧ EnvOk K H σ e ∧ AbsM K H M ∧ g ds e M R ∧ FitN K H R Q
noncomputable abbrev DPG (X : Cx) (x : Expr) (g : DTG) : Prop := PG X x (upG X.K g)
noncomputable abbrev DPGs (X : Cx) (x : List Expr) (g : DTGs) : Prop := PGs X x (upGs X.K g)
structure JG (X : Cx) (x : Expr) (g : DTG) : Prop where
  out : DPG X x g
structure JGs (X : Cx) (x : List Expr) (g : DTGs) : Prop where
  out : DPGs X x g
noncomputable def dgName (i : Nat) : DTG := fun d e M R => R (e.set i (some d)) M
theorem dg_name {i : Nat} {x : Str} (hN : X.N.Nodup) (hi : X.N[i]? = some x) (hx : Loc X.env.scope x) (hf : X.fn x = true ∨ X.env.scope.names.lookup x = some .local := by first | exact .inl rfl | exact .inr rfl | assumption) : DPG X (.Name x pos) (dgName i) :=
  PG.imp (pg_name hN hi hx hf) (by rintro v σ H Q ⟨d, e, M, R, r, ok, am, g, f⟩; exact f _ M g _ H (KT.refl H) am (ok.set r i))
theorem jdg_name {i : Nat} {x : Str} (hN : X.N.Nodup) (hi : X.N[i]? = some x) (hx : Loc X.env.scope x) (hf : X.fn x = true ∨ X.env.scope.names.lookup x = some .local := by first | exact .inl rfl | exact .inr rfl | assumption) : JG X (.Name x pos) (dgName i) := ⟨dg_name (hN := hN) (hi := hi) (hx := hx) (hf := hf)⟩
noncomputable def dgNil : DTGs := fun ds e M R => ds = [] ∧ R e M
noncomputable def dgCons (t : DTG) (u : DTGs) : DTGs := fun ds e M R => ∃ d r, ds = d :: r ∧ t d e M fun e' M' => u r e' M' R
theorem dgs_nil : DPGs X [] dgNil := PGs.imp pgs_nil (by
  rintro v σ H Q ⟨ds, e, M, R, r, ok, am, ⟨z, g⟩, f⟩
  subst z; cases r; exact ⟨rfl, f e M g σ H (KT.refl H) am ok⟩)
theorem jdgs_nil  : JGs X [] dgNil := ⟨dgs_nil ⟩
end
end DL

namespace DL
open PySem PySem.Spec L2
open PyProof.Rows hiding St
section
variable {X : Cx} {st : Stmt} {rest : List Stmt} {t u : DTS} {e : Expr} {te : DTE} {pos : Pos}
theorem dgs_cons {x : Expr} {xs : List Expr} {t : DTG} {u : DTGs} (h1 : DPG X x t) (h2 : DPGs X xs u)
    (hs : (assignEach (x :: xs) X.env).map (·.2) = assign x X.env :: (assignEach xs X.env).map (·.2) := by rfl) : DPGs X (x :: xs) (dgCons t u) :=
  PGs.imp (pgs_cons h1 h2 hs) (by
    rintro vs σ H Q ⟨ds, e, M, R, r, ok, am, ⟨d, dr, z, g⟩, f⟩
    subst z
    cases r with
    | cons r rr => exact ⟨_, _, rfl, d, e, M, _, r, ok, am, g, fun e1 M1 h1 σ1 H1 k1 a1 ok1 => ⟨dr, e1, M1, R, rr.mono k1, ok1, a1, h1, f.mono k1⟩⟩)
theorem jdgs_cons {x : Expr} {xs : List Expr} {t : DTG} {u : DTGs} (h1 : JG X x t) (h2 : JGs X xs u)
    (hs : (assignEach (x :: xs) X.env).map (·.2) = assign x X.env :: (assignEach xs X.env).map (·.2) := by rfl) : JGs X (x :: xs) (dgCons t u) := ⟨dgs_cons (h1 := h1.out) (h2 := h2.out) (hs := hs)⟩
noncomputable def dgTup (n : Nat) (t : DTGs) : DTG := fun d e M R => ∃ ds, d = .tup ds ∧ ds.length = n ∧ t ds e M R
theorem dg_tup {xs : List Expr} {k : Nat} {t : DTGs} {n : Nat} (hc : X.calm = true) (h : DPGs X xs t)
    (hn : (assignEach xs X.env).length = n := by rfl) (hst : (assignEach xs X.env).findIdx? (·.1) = none := by rfl) : DPG X (.Tuple xs k pos) (dgTup n t) :=
  PG.imp (pg_tup hc h hn hst) (by
    rintro v σ H Q ⟨d, e, M, R, r, ok, am, ⟨ds, z, hl, g⟩, f⟩
    subst z
    cases r with
    | tup s l => exact ⟨_, _, rfl, s, by rw [l.length]; exact hl, ds, e, M, R, l, ok, am, g, f⟩)
theorem jdg_tup {xs : List Expr} {k : Nat} {t : DTGs} {n : Nat} (hc : X.calm = true) (h : JGs X xs t)
    (hn : (assignEach xs X.env).length = n := by rfl) (hst : (assignEach xs X.env).findIdx? (·.1) = none := by rfl) : JG X (.Tuple xs k pos) (dgTup n t) := ⟨dg_tup (hc := hc) (h := h.out) (hn := hn) (hst := hst)⟩
noncomputable abbrev DTSet := D → D → D → Mem → (Mem → Prop) → Prop
noncomputable def gSetL : DTSet := fun o i v M R => ∃ p ds k j, o = .ref p ∧ i = .int k ∧ M p = some (.lst ds) ∧ ixN ds.length k = some j ∧ R (updM M p (.lst (ds.set j v)))
noncomputable def dgSub (to ti : DTE) (t : DTSet) : DTG := fun d e M R => to e M fun o M1 => ti e M1 fun i M2 => t o i d M2 fun M3 => R e M3
theorem dg_sub {o i : Expr} {to ti : DTE} (ho : DPE X o to) (hi : DPE X i ti)
    (ha : ∀ v, assign (.Subscript o i pos) X.env v = (do
      let ov ← holding [v] (eval o X.env)
      let iv ← holding [v, ov] (eval i X.env)
      standAt pos
      holding [v, ov, iv] (setItem ov iv v)
      release [v, ov, iv] []) := by intro _; rfl) : DPG X (.Subscript o i pos) (dgSub to ti gSetL) :=
  PG.imp (pg_sub ho hi set_list ha) fun v σ H Q ⟨d, e, M, R, r, ok, am, g, f⟩ =>
    ⟨e, M, _, ok, am, g, fun x M1 h1 vo H1 k1 a1 r1 => ⟨e, M1, _, ok.mono k1, a1, h1, fun y M2 ⟨p, ds, k, j, e1, e2, e3, e4, h2⟩ vi H2 k2 a2 r2 => by
      subst e1; subst e2
      cases r1; cases r2
      obtain ⟨xs, hx, l⟩ := a2.lst e3
      have kt : KT H H2 := k1.trans k2
      have kw : KT H2 (upd H2 p (.lst (xs.set j v))) := KT.write hx
      exact ⟨p, xs, k, j, rfl, rfl, hx, by rw [l.length]; exact e4, f e _ h2 σ _ (kt.trans kw) (a2.write hx (l.set (r.mono kt) j)) ((ok.mono kt).mono kw)⟩⟩⟩
theorem jdg_sub {o i : Expr} {to ti : DTE} (ho : JE X o to) (hi : JE X i ti)
    (ha : ∀ v, assign (.Subscript o i pos) X.env v = (do
      let ov ← holding [v] (eval o X.env)
      let iv ← holding [v, ov] (eval i X.env)
      standAt pos
      holding [v, ov, iv] (setItem ov iv v)
      release [v, ov, iv] []) := by intro _; rfl) : JG X (.Subscript o i pos) (dgSub to ti gSetL) := ⟨dg_sub (ho := ho.out) (hi := hi.out) (ha := ha)⟩
noncomputable def dAsg (te : DTE) (g : DTG) : DTS := fun F e M => te e M fun x M1 => g x e M1 F.nx
theorem ds_asg {tg x : Expr} {tx : DTE} {g : DTG} (he : DPE X x tx) (hg : DPG X tg g) (hs : swapsWithSole [tg] x pos.line X.env = pure false := by rfl) (hw : swappedStores [tg] x X.env = pure none := by rfl)
    (h1 : (assignEach [tg] X.env).map (·.2) = [assign tg X.env] := by rfl) : DPS X (.Assign [tg] x pos) (dAsg tx g) :=
  (ps_asg he hg hs hw h1).imp (by rintro E σ H ⟨e, M, F, ok, am, t, f⟩; exact ⟨e, M, _, ok, am, t, fun d M1 h1 v H1 k1 a1 r1 => ⟨d, e, M1, F.nx, r1, ok.mono k1, a1, h1, f.nx.mono k1⟩⟩)
theorem jds_asg {tg x : Expr} {tx : DTE} {g : DTG} (he : JE X x tx) (hg : JG X tg g) (hs : swapsWithSole [tg] x pos.line X.env = pure false := by rfl) (hw : swappedStores [tg] x X.env = pure none := by rfl)
    (h1 : (assignEach [tg] X.env).map (·.2) = [assign tg X.env] := by rfl) : JS X (.Assign [tg] x pos) (dAsg tx g) := ⟨ds_asg (he := he.out) (hg := hg.out) (hs := hs) (hw := hw) (h1 := h1)⟩
theorem ds_set {i : Nat} {x : Str} {tx : DTE} {pos' : Pos} (hN : X.N.Nodup) (hi : X.N[i]? = some x) (hx : Loc X.env.scope x) (he : DPE X e tx) (hs : swapsWith e (some (.Name x pos')) pos.line X.env = pure false := by rfl) (hf : X.fn x = true ∨ X.env.scope.names.lookup x = some .local := by first | exact .inl rfl | exact .inr rfl | assumption) :
    DPS X (.Assign [.Name x pos'] e pos) (dAsg tx (dgName i)) :=
  (ps_set hN hi hx he hs hf).imp (by rintro E σ H ⟨e, M, F, ok, am, t, f⟩; exact ⟨e, M, _, ok, am, t, fun d M1 h1 v H1 k1 a1 r1 => f.nx _ M1 h1 _ H1 k1 a1 ((ok.mono k1).set r1 i)⟩)
theorem jds_set {i : Nat} {x : Str} {tx : DTE} {pos' : Pos} (hN : X.N.Nodup) (hi : X.N[i]? = some x) (hx : Loc X.env.scope x) (he : JE X e tx) (hs : swapsWith e (some (.Name x pos')) pos.line X.env = pure false := by rfl) (hf : X.fn x = true ∨ X.env.scope.names.lookup x = some .local := by first | exact .inl rfl | exact .inr rfl | assumption) : JS X (.Assign [.Name x pos'] e pos) (dAsg tx (dgName i)) := ⟨ds_set (hN := hN) (hi := hi) (hx := hx) (he := he.out) (hs := hs) (hf := hf)⟩
noncomputable def dPar (i j : Nat) (ta : DTA) : DTS := fun F e M => ta e M fun ds M1 => ∃ x y, ds = [x, y] ∧ F.nx ((e.set i (some x)).set j (some y)) M1
theorem ds_par {i j : Nat} {x y : Str} {a b : Expr} {ta : DTA} {px py pt : Pos} {kt k2 pt2} (hc : X.calm = true) (hN : X.N.Nodup) (hi : X.N[i]? = some x) (hj : X.N[j]? = some y) (hij : i ≠ j)
    (hx : X.env.scope.names.lookup x = some .local) (hy : X.env.scope.names.lookup y = some .local) (ha : DPA X [a, b] ta)
    (hw : swappedStores [.Tuple [.Name x px, .Name y py] kt pt] (.Tuple [a, b] k2 pt2) X.env = pure (some [x, y]) := by rfl)
    (hs : swapsWithSole [.Tuple [.Name x px, .Name y py] kt pt] (.Tuple [a, b] k2 pt2) pos.line X.env = pure false := by rfl) : DPS X (.Assign [.Tuple [.Name x px, .Name y py] kt pt] (.Tuple [a, b] k2 pt2) pos) (dPar i j ta) :=
  (ps_par hc hN hi hj hij hx hy ha hw hs).imp (by rintro E σ H ⟨e, M, F, ok, am, t, f⟩; exact ⟨e, M, _, ok, am, t, fun ds M1 ⟨x, y, z, h1⟩ vs H1 k1 a1 r1 => by
    subst z
    cases r1 with
    | cons r1 rr =>
      cases rr with
      | cons r2 rr =>
        cases rr
        exact ⟨_, _, rfl, f.nx _ M1 h1 _ H1 k1 a1 (((ok.mono k1).set r1 i).set r2 j)⟩⟩)
theorem jds_par {i j : Nat} {x y : Str} {a b : Expr} {ta : DTA} {px py pt : Pos} {kt k2 pt2} (hc : X.calm = true) (hN : X.N.Nodup) (hi : X.N[i]? = some x) (hj : X.N[j]? = some y) (hij : i ≠ j)
    (hx : X.env.scope.names.lookup x = some .local) (hy : X.env.scope.names.lookup y = some .local) (ha : JA X [a, b] ta)
    (hw : swappedStores [.Tuple [.Name x px, .Name y py] kt pt] (.Tuple [a, b] k2 pt2) X.env = pure (some [x, y]) := by rfl)
    (hs : swapsWithSole [.Tuple [.Name x px, .Name y py] kt pt] (.Tuple [a, b] k2 pt2) pos.line X.env = pure false := by rfl) : JS X (.Assign [.Tuple [.Name x px, .Name y py] kt pt] (.Tuple [a, b] k2 pt2) pos) (dPar i j ta) := ⟨ds_par (hc := hc) (hN := hN) (hi := hi) (hj := hj) (hij := hij) (hx := hx) (hy := hy) (ha := ha.out) (hw := hw) (hs := hs)⟩

noncomputable def dWhile (c : DTT) (tb : DTS) : DTS := fun F e M => ∃ W : Nat → Ev → Mem → Prop, (∃ m, W m e M) ∧ ∀ m e M, W m e M →
  c e M fun b M1 => if b = true then tb { F with nx := fun e' M' => ∃ m', m' < m ∧ W m' e' M', ct := fun e' M' => ∃ m', m' < m ∧ W m' e' M', bk := F.nx } e M1 else F.nx e M1
theorem ds_while {c : Expr} {body : List Stmt} {tc : DTT} {tb : DTS} (hp : PassesOwn (model X.prog X.w) X.A X.env X.xe) (hc : DPT X c tc) (hb : DPSs X body tb) : DPS X (.While c body [] pos) (dWhile tc tb) :=
  (ps_while hp hc hb).imp (by
    rintro E σ H ⟨e, M, F, ok, am, ⟨W, ⟨m0, w0⟩, turn⟩, f⟩
    refine ⟨fun m σ' H' => ∃ e' M', KT H H' ∧ EnvOk X.K H' σ' e' ∧ AbsM X.K H' M' ∧ W m e' M', ⟨m0, e, M, KT.refl H, ok, am, w0⟩, ?_⟩
    rintro m σ1 H1 ⟨e1, M1, k1, ok1, a1, w1⟩
    refine ⟨e1, M1, _, ok1, a1, turn m e1 M1 w1, fun b M2 h2 H2 k2 a2 => ?_⟩
    cases b with
    | false => exact f.nx e1 M2 h2 σ1 H2 (k1.trans k2) a2 (ok1.mono k2)
    | true =>
      refine ⟨fun σ' H' => ∃ m', m' < m ∧ ∃ e' M', KT H H' ∧ EnvOk X.K H' σ' e' ∧ AbsM X.K H' M' ∧ W m' e' M', fun σ' H' h => h, e1, M2, _, ok1.mono k2, a2, h2, ?_⟩
      have kk := k1.trans k2
      exact ⟨fun e' M' ⟨m', l, w⟩ σ' H' k' a' o' => ⟨m', l, e', M', kk.trans k', o', a', w⟩, f.rt.mono kk, f.nx.mono kk, fun e' M' ⟨m', l, w⟩ σ' H' k' a' o' => ⟨m', l, e', M', kk.trans k', o', a', w⟩⟩)
theorem jds_while {c : Expr} {body : List Stmt} {tc : DTT} {tb : DTS} (hp : PassesOwn (model X.prog X.w) X.A X.env X.xe) (hc : JT X c tc) (hb : JSs X body tb) : JS X (.While c body [] pos) (dWhile tc tb) := ⟨ds_while (hp := hp) (hc := hc.out) (hb := hb.out)⟩
noncomputable abbrev DTI := Ev → Mem → (List D → (Mem → Prop) → Mem → Prop) → Prop
noncomputable def dFor (ti : DTI) (g : DTG) (tb : DTS) : DTS := fun F e M => ti e M fun ds stay M1 => ∃ W : Nat → Ev → Mem → Prop, W 0 e M1 ∧ (∀ i e M, i ≤ ds.length → W i e M → stay M) ∧
  (∀ (i : Nat) (d : D) e M, ds[i]? = some d → W i e M → g d e M fun e2 M2 => tb { F with nx := W (i + 1), ct := W (i + 1), bk := F.nx } e2 M2) ∧ ∀ e M, W ds.length e M → F.nx e M
noncomputable def rangeD (lo : Int) (n : Nat) : List D := (List.range n).map fun (i : Nat) => D.int (lo + (i : Int))
theorem rangeD_length (lo : Int) (n : Nat) : (rangeD lo n).length = n := by simp [rangeD]
theorem rangeD_get {lo : Int} {n i : Nat} (h : i < n) : (rangeD lo n)[i]? = some (D.int (lo + (i : Int))) := by simp [rangeD, h]
noncomputable def diRng (ta : DTA) : DTI := fun e M R => ta e M fun ds M1 => ∃ j : Int, ds = [.int j] ∧ -(2 ^ 62) ≤ j ∧ j < 2 ^ 62 ∧ R (rangeD 0 j.toNat) (fun _ => True) M1
theorem for_turn {K : PySem.W.Frag} {H H1 H2 : Hp} {F : DEnds} {E : Ends} {W : Nat → Ev → Mem → Prop} {g : DTG} {tb : DTS} {i : Nat} {x : V} {d : D} {σ2 : St} {e2 : Ev} {M2 : Mem} (f : Fit K H F E) (k1 : KT H H1) (k2 : KT H1 H2) (ok2 : EnvOk K H2 σ2 e2) (a2 : AbsM K H2 M2) (r : Has K H2 x d)
    (h : g d e2 M2 fun e3 M3 => tb { F with nx := W (i + 1), ct := W (i + 1), bk := F.nx } e3 M3) :
    upG K g x σ2 H2 fun σ3 H3 => upS K tb { E with nx := fun σ' H' => ∃ e' M', KT H1 H' ∧ EnvOk K H' σ' e' ∧ AbsM K H' M' ∧ W (i + 1) e' M', ct := fun σ' H' => ∃ e' M', KT H1 H' ∧ EnvOk K H' σ' e' ∧ AbsM K H' M' ∧ W (i + 1) e' M', bk := E.nx } σ3 H3 := by
  refine ⟨d, e2, M2, _, r, ok2, a2, h, fun e3 M3 h3 σ3 H3 k3 a3 ok3 => ⟨e3, M3, _, ok3, a3, h3, ?_⟩⟩
  have kk : KT H H3 := k1.trans (k2.trans k3)
  exact ⟨fun e' M' w σ' H' k' a' o' => ⟨e', M', k2.trans (k3.trans k'), o', a', w⟩, f.rt.mono kk, f.nx.mono kk, fun e' M' w σ' H' k' a' o' => ⟨e', M', k2.trans (k3.trans k'), o', a', w⟩⟩
variable {tg iter : Expr} {body : List Stmt} {ti : DTE} {ta : DTA} {g : DTG} {tb : DTS}
theorem Has.il {K : PySem.W.Frag} {H : Hp} {v : V} {ds : List D} (h : Has K H v (.vl ds)) : ∃ a xs, v = .ref a ∧ SqL K H a xs ∧ HasL K H xs ds := by
  cases h with
  | vl h l => exact ⟨_, _, rfl, h.elim (fun ⟨o, e⟩ => .inl (.inr ⟨o, e⟩)) (fun k => k H), l⟩
end


section
variable {P : Program} {w : World} {K : PySem.W.Frag} {mg : Str → Option Value} {base : Heap}
end


section
variable {X : Cx} {x : Str} {p pos : Pos} {e : Expr} {es : List Expr} {t : DTA} {id T : String}
noncomputable abbrev DRC := List D → Mem → DK → Prop
noncomputable def upC (K : PySem.W.Frag) (g : DRC) : List V → Hp → VK → Prop := fun xs H Q => ∃ ds M R, HasL K H xs ds ∧ AbsM K H M ∧ g ds M R ∧ FitV K H R Q
noncomputable def DCall (X : Cx) (f : Value) (g : DRC) : Prop := CallR X f (upC X.K g)
noncomputable def dCB (g : DRC) (t : DTA) : DTE := fun e M R => t e M fun ds M1 => g ds M1 R
theorem cb_up {g : DRC} {σ : St} {H : Hp} {Q : VK} (h : up X.K (dCB g t) σ H Q) : tCB (upC X.K g) (upA X.K t) σ H Q := by
  obtain ⟨e, M, R, ok, am, t, f⟩ := h
  exact ⟨e, M, _, ok, am, t, fun ds M1 h1 vs H1 k1 a1 r1 => ⟨ds, M1, R, r1, a1, h1, f.mono k1⟩⟩
theorem CallR.imp {f : Value} {r r' : List V → Hp → VK → Prop} (h : CallR X f r) (i : ∀ xs H Q, r' xs H Q → r xs H Q) : CallR X f r' := fun pins s σ H xs us Q I rv q => h pins s σ H xs us Q I rv (i xs H Q q)
theorem HasL.one {K : PySem.W.Frag} {H : Hp} {vs : List V} {d : D} (h : HasL K H vs [d]) : ∃ v, vs = [v] ∧ Has K H v d := by
  cases h with
  | cons r rr => cases rr; exact ⟨_, rfl, r⟩
theorem HasL.two {K : PySem.W.Frag} {H : Hp} {vs : List V} {d d' : D} (h : HasL K H vs [d, d']) : ∃ v v', vs = [v, v'] ∧ Has K H v d ∧ Has K H v' d' := by
  cases h with
  | cons r rr => cases rr with | cons r2 rr => cases rr; exact ⟨_, _, rfl, r, r2⟩
noncomputable def gAbs : DRC := fun ds M R => ∃ i : Int, ds = [.int i] ∧ R (.int (i.natAbs : Int)) M
theorem c_abs : DCall X (.builtin "abs") gAbs := CallR.imp call_abs (by
  rintro xs H Q ⟨ds, M, R, hl, am, ⟨i, z, r⟩, f⟩
  subst z
  obtain ⟨v, rfl, h⟩ := hl.one
  cases h
  have e : (if i < 0 then -i else i) = (i.natAbs : Int) := by split <;> omega
  exact ⟨i, rfl, by rw [e]; exact f _ M r _ H (KT.refl H) am (.int _)⟩)
noncomputable def gMax : DRC := fun ds M R => ∃ i j : Int, ds = [.int i, .int j] ∧ R (.int (max i j)) M
theorem c_max (hc : X.calm = true) : DCall X (.builtin "max") gMax := CallR.imp (call_max2 hc) (by
  rintro xs H Q ⟨ds, M, R, hl, am, ⟨i, j, z, r⟩, f⟩
  subst z
  obtain ⟨v, v', rfl, h, h'⟩ := hl.two
  cases h; cases h'
  have e : (if j > i then j else i) = max i j := by
    rw [Int.max_def]; split <;> split <;> omega
  exact ⟨i, j, rfl, by rw [e]; exact f _ M r _ H (KT.refl H) am (.int _)⟩)
noncomputable def lenD (M : Mem) : D → Option Nat
  | .tup ds => some ds.length
  | .ref p => match M p with
    | some (.lst ds) => some ds.length
    | _ => none
  | .vl ds => some ds.length
  | _ => none
noncomputable def gLen : DRC := fun ds M R => ∃ d n, ds = [d] ∧ lenD M d = some n ∧ R (.int (n : Int)) M
theorem c_len : DCall X (.builtin "len") gLen := CallR.imp call_len_seq (by
  rintro xs H Q ⟨ds, M, R, hl, am, ⟨d, n, z, hn, r⟩, f⟩
  subst z
  obtain ⟨v, rfl, h⟩ := hl.one
  cases d with
  | tup es =>
    cases h with
    | tup s l =>
      cases hn
      exact ⟨_, _, rfl, .inr s, by rw [l.length]; exact f _ M r _ H (KT.refl H) am (.int _)⟩
  | ref p =>
    cases h
    unfold lenD at hn
    cases q : M p with
    | none => simp [q] at hn
    | some o =>
      cases o with
      | lst es =>
        simp only [q] at hn
        cases hn
        obtain ⟨ys, hy, l⟩ := am.lst q
        exact ⟨p, ys, rfl, .inl (SqL.of hy), by rw [l.length]; exact f _ M r _ H (KT.refl H) am (.int _)⟩
  | vl es =>
    cases hn
    obtain ⟨a, xs, rfl, sq, l⟩ := h.il
    exact ⟨a, _, rfl, .inl sq, by rw [l.length]; exact f _ M r _ H (KT.refl H) am (.int _)⟩
  | _ => cases hn)
noncomputable def gIntOf : DRC := fun ds M R => (∃ i : Int, ds = [.int i] ∧ R (.int i) M) ∨ ∃ k : Bool, ds = [.bl k] ∧ R (.int (if k then 1 else 0)) M
theorem c_int : DCall X (.type "int") gIntOf := CallR.imp call_int1 (by
  rintro xs H Q ⟨ds, M, R, hl, am, z, f⟩
  rcases z with ⟨i, z, r⟩ | ⟨k, z, r⟩
  · subst z
    obtain ⟨v, rfl, h⟩ := hl.one
    cases h
    exact .inl ⟨i, rfl, f _ M r _ H (KT.refl H) am (.int _)⟩
  · subst z
    obtain ⟨v, rfl, h⟩ := hl.one
    cases h
    exact .inr ⟨k, rfl, f _ M r _ H (KT.refl H) am (.int _)⟩)
end
end DL

namespace DL
open PySem PySem.Spec L2
open PyProof.Rows hiding St
theorem bt_abs : bootBuiltins "abs" = some (.builtin "abs") := by decide +kernel
theorem bt_max : bootBuiltins "max" = some (.builtin "max") := by decide +kernel
theorem bt_len : bootBuiltins "len" = some (.builtin "len") := by decide +kernel
theorem bt_isinstance : bootBuiltins "isinstance" = some (.builtin "isinstance") := by decide +kernel
theorem bt_int : bootBuiltins "int" = some (.type "int") := by decide +kernel
theorem bt_bool : bootBuiltins "bool" = some (.type "bool") := by decide +kernel
theorem bt_tuple : bootBuiltins "tuple" = some (.type "tuple") := by decide +kernel
theorem bt_list : bootBuiltins "list" = some (.type "list") := by decide +kernel
section
variable {X : Cx} {a b c : Expr} {ta tb tc : DTE} {pos : Pos}

theorem op_mulB : OpR X (binaryOp .Mult) (rI IntMulOk fun i j => .int (i * j)) := opI fun _ _ _ _ _ _ _ hc q => mul_int q hc
noncomputable def CFd (i j : Int) : Prop := j ≠ 0 ∧ j.natAbs.log2 < 9000
theorem op_fdiv9 : OpR X (binaryOp .FloorDiv) (rI CFd fun i j => .int (i.fdiv j)) := opI fun _ _ _ _ _ _ _ hc q => floordiv_int hc.1 q (.inl (PyProof.noPylong_of_log2 hc.2))
theorem o_mul : DOp X (binaryOp .Mult) (gI IntMulOk fun i j => .int (i * j)) := dop_I op_mulB fun _ _ _ => .int _
theorem o_fdiv : DOp X (binaryOp .FloorDiv) (gI CFd fun i j => .int (i.fdiv j)) := dop_I op_fdiv9 fun _ _ _ => .int _

noncomputable def ixD (M : Mem) : D → D → Option D
  | .tup ds, .int i => atI ds i
  | .ref p, .int i => match M p with
    | some (.lst ds) => atI ds i
    | _ => none
  | .vl ds, .int i => atI ds i
  | _, _ => none
noncomputable def gIx : DR2 := fun x y M R => ∃ z, ixD M x y = some z ∧ R z M
theorem IxR.or' {r r' : R2} (h : IxR X r) (h' : IxR X r') {g : R2} (i : ∀ x y H Q, g x y H Q → r x y H Q ∨ r' x y H Q) : IxR X g := IxR.imp (IxR.or h h') i
theorem i_any : DIx X gIx := IxR.or' ix_tup ix_list (by
  rintro x y H Q ⟨dx, dy, M, R, hx, hy, am, ⟨z, e, r⟩, f⟩
  cases dy with
  | int i =>
    cases hy
    cases dx with
    | tup ds =>
      cases hx with
      | tup s l =>
        obtain ⟨v, h1, h2⟩ := l.at (show atI ds i = some z from e)
        exact .inl ⟨_, _, i, v, rfl, rfl, s, h1, f z M r v H (KT.refl H) am h2⟩
    | ref p =>
      cases hx
      unfold ixD at e
      cases q : M p with
      | none => simp [q] at e
      | some o =>
        cases o with
        | lst ds =>
          simp only [q] at e
          obtain ⟨xs, h1, h2⟩ := am.lst q
          obtain ⟨v, h3, h4⟩ := h2.at e
          exact .inr ⟨_, _, i, v, rfl, rfl, SqL.of h1, h3, f z M r v H (KT.refl H) am h4⟩
    | vl ds =>
      obtain ⟨a, xs, rfl, sq, l⟩ := hx.il
      obtain ⟨v, h1, h2⟩ := l.at (show atI ds i = some z from e)
      exact .inr ⟨_, _, i, v, rfl, rfl, sq, h1, f z M r v H (KT.refl H) am h2⟩
    | _ => simp [ixD] at e
  | _ => cases dx <;> simp [ixD] at e)
theorem ixD_lst {M : Mem} {p : Addr} {ds : List D} {i : Int} {z : D} (m : M p = some (.lst ds)) (h : atI ds i = some z) : ixD M (.ref p) (.int i) = some z := by
  unfold ixD; simp only [m]; exact h

noncomputable def isD : D → D → Option Bool
  | .bl a, .bl b => some (a == b)
  | .non, .non => some true
  | .bl _, .non => some false
  | .int _, .non => some false
  | .str _, .non => some false
  | .ref _, .non => some false
  | .tup _, .non => some false
  | .vl _, .non => some false
  | _, _ => none
theorem isD_shape {x y : D} {b : Bool} (h : isD x y = some b) : (∃ p q, x = .bl p ∧ y = .bl q ∧ b = (p == q)) ∨ (y = .non ∧ ((x = .non ∧ b = true) ∨ (x ≠ .non ∧ b = false))) := by
  cases x <;> cases y <;> simp [isD] at h <;> simp [h]
theorem isD_val {K : PySem.W.Frag} {H : Hp} {v : V} {x : D} (h : Has K H v x) (n : x ≠ .non) : v ≠ .non := by
  intro e; subst e; cases h; exact n rfl
noncomputable def gIs (neg : Bool) : DR2 := fun x y M R => ∃ b, isD x y = some b ∧ R (.bl (neg.xor b)) M
theorem o_is : DOp X (compareOp .Is) (gIs false) := by
  intro pins s σ H x y v u Q I rx ry h
  obtain ⟨dx, dy, M, R, hx, hy, am, ⟨b, e, r⟩, f⟩ := h
  have fin : EP X pins σ Q (.bool b) s := ⟨.bl b, H, I, rfl, by have := f _ M r (.bl b) H (KT.refl H) am (by simpa using Has.bl (K := X.K) (H := H) b); exact this⟩
  rcases isD_shape e with ⟨p, q, rfl, rfl, rfl⟩ | ⟨rfl, hx'⟩
  · cases hx; cases hy; cases rx; cases ry
    exact is_bool fin
  · cases hy; cases ry
    refine is_none_gen ?_
    rw [RelV.none_iff rx]
    rcases hx' with ⟨rfl, rfl⟩ | ⟨n, rfl⟩
    · cases hx; exact fin
    · rw [decide_eq_false (isD_val hx n)]; exact fin
theorem o_isnot : DOp X (compareOp .IsNot) (gIs true) := by
  intro pins s σ H x y v u Q I rx ry h
  obtain ⟨dx, dy, M, R, hx, hy, am, ⟨b, e, r⟩, f⟩ := h
  have fin : EP X pins σ Q (.bool (!b)) s := ⟨.bl (!b), H, I, rfl, by have := f _ M r (.bl (!b)) H (KT.refl H) am (by simpa using Has.bl (K := X.K) (H := H) (!b)); exact this⟩
  rcases isD_shape e with ⟨p, q, rfl, rfl, rfl⟩ | ⟨rfl, hx'⟩
  · cases hx; cases hy; cases rx; cases ry
    exact isnot_bool fin
  · cases hy; cases ry
    refine isnot_none_gen ?_
    rw [RelV.none_iff rx]
    rcases hx' with ⟨rfl, rfl⟩ | ⟨n, rfl⟩
    · cases hx; exact fin
    · rw [decide_eq_false (isD_val hx n)]; exact fin

mutual
inductive PyR (M : Mem) : D → PyData → Prop
  | non : PyR M .non .none
  | bl (b : Bool) : PyR M (.bl b) (.bool b)
  | int (i : Int) : PyR M (.int i) (.int i)
  | str (x : Str) : PyR M (.str x) (.str x)
  | tup {ds : List D} {ps : List PyData} : PyRL M ds ps → PyR M (.tup ds) (.tuple ps)
  | lst {p : Addr} {ds : List D} {ps : List PyData} : M p = some (.lst ds) → PyRL M ds ps → PyR M (.ref p) (.list ps)
  | vl {ds : List D} {ps : List PyData} : PyRL M ds ps → PyR M (.vl ds) (.list ps)
inductive PyRL (M : Mem) : List D → List PyData → Prop
  | nil : PyRL M [] []
  | cons {d : D} {p : PyData} {ds : List D} {ps : List PyData} : PyR M d p → PyRL M ds ps → PyRL M (d :: ds) (p :: ps)
end
mutual
theorem reads_of {pins : List (Addr × Obj)} {s : Shared} {σ : St} {H : Hp} {M : Mem} (I : Inv X pins σ H s) (am : AbsM X.K H M) : ∀ {d : D} {p : PyData}, PyR M d p → ∀ {v : V} {u : Value}, Has X.K H v d → RelV v u → ∃ as, Reads s.heap u p as
  | _, _, .non, _, _, h, r => by cases h; cases r; exact ⟨_, .none⟩
  | _, _, .bl b, _, _, h, r => by cases h; cases r; exact ⟨_, .bool b⟩
  | _, _, .int i, _, _, h, r => by cases h; obtain ⟨t, rfl⟩ := r; exact ⟨_, .int i t⟩
  | _, _, .str x, _, _, h, r => by cases h; obtain ⟨t, rfl⟩ := r; exact ⟨_, .str x t⟩
  | _, _, .tup l, _, _, h, r => by
    cases h with
    | tup s' hl =>
      cases r
      obtain ⟨its, rv, ⟨o, e, hc, n, hd⟩, _⟩ := I.tuple s'
      obtain ⟨as, ra⟩ := readsL_of I am l hl rv
      exact ⟨as, .tuple e hc hd (by simpa using ra)⟩
  | _, _, .lst m l, _, _, h, r => by
    cases h
    cases r
    obtain ⟨xs, hx, hl⟩ := am.lst m
    obtain ⟨its, rv, ⟨o, n, e, hc, _, hd⟩, _⟩ := I.list (SqL.of hx)
    obtain ⟨as, ra⟩ := readsL_of I am l hl rv
    exact ⟨_, .list e hc hd (by simpa using ra)⟩
  | _, _, .vl l, _, _, h, r => by
    obtain ⟨a, xs, rfl, sq, hl⟩ := h.il
    cases r
    obtain ⟨its, rv, ⟨o, n, e, hc, _, hd⟩, _⟩ := I.list sq
    obtain ⟨as, ra⟩ := readsL_of I am l hl rv
    exact ⟨_, .list e hc hd (by simpa using ra)⟩
theorem readsL_of {pins : List (Addr × Obj)} {s : Shared} {σ : St} {H : Hp} {M : Mem} (I : Inv X pins σ H s) (am : AbsM X.K H M) : ∀ {ds : List D} {ps : List PyData}, PyRL M ds ps → ∀ {vs : List V} {us : List Value}, HasL X.K H vs ds → Vals vs us → ∃ as, ReadsAll s.heap us ps as
  | _, _, .nil, _, _, h, r => by cases h; cases r; exact ⟨_, .nil⟩
  | _, _, .cons a l, _, _, h, r => by
    cases h with
    | cons h hl =>
      cases r with
      | cons r rl =>
        obtain ⟨as, q⟩ := reads_of I am a h r
        obtain ⟨bs, q2⟩ := readsL_of I am l hl rl
        exact ⟨_, .cons q q2⟩
end
noncomputable def gEq (neg : Bool) : DR2 := fun x y M R => ∃ px py, PyR M x px ∧ PyR M y py ∧ SeqAt.shaped px = true ∧ SeqAt.shaped py = true ∧ R (.bl (neg.xor (PyData.eqv px py))) M
theorem o_eq (hu : X.A.units + 64 < cLine) : DOp X (compareOp .Eq) (gEq false) := by
  intro pins s σ H x y v u Q I rx ry h
  obtain ⟨dx, dy, M, R, hx, hy, am, ⟨px, py, p1, p2, s1, s2, r⟩, f⟩ := h
  obtain ⟨as, r1⟩ := reads_of I am p1 hx rx
  obtain ⟨bs, r2⟩ := reads_of I am p2 hy ry
  exact eq_dataH r1 r2 s1 s2 hu ⟨.bl _, H, I, rfl, by have := f _ M r _ H (KT.refl H) am (.bl _); simpa using this⟩
theorem o_ne (hu : X.A.units + 64 < cLine) : DOp X (compareOp .NotEq) (gEq true) := by
  intro pins s σ H x y v u Q I rx ry h
  obtain ⟨dx, dy, M, R, hx, hy, am, ⟨px, py, p1, p2, s1, s2, r⟩, f⟩ := h
  obtain ⟨as, r1⟩ := reads_of I am p1 hx rx
  obtain ⟨bs, r2⟩ := reads_of I am p2 hy ry
  exact ne_dataH r1 r2 s1 s2 hu ⟨.bl _, H, I, rfl, by have := f _ M r _ H (KT.refl H) am (.bl _); simpa using this⟩

mutual
noncomputable def pyD : D → PyData
  | .int i => .int i
  | .str x => .str x
  | .bl b => .bool b
  | .tup ds => .tuple (pyDL ds)
  | .vl ds => .list (pyDL ds)
  | _ => .none
noncomputable def pyDL : List D → List PyData
  | [] => []
  | d :: r => pyD d :: pyDL r
end
mutual
/-- ints, None, plain texts and tuples of such, k deep -/
noncomputable def cl : Nat → D → Bool
  | _, .int _ => true
  | _, .non => true
  | _, .str x => PyData.canLay0 (.str x)
  | k + 1, .tup ds => clL k ds
  | k + 1, .vl ds => clL k ds
  | _, _ => false
noncomputable def clL : Nat → List D → Bool
  | _, [] => true
  | k, d :: r => cl k d && clL k r
end
mutual
theorem cl_py {M : Mem} : ∀ {k : Nat} {d : D}, cl k d = true → PyR M d (pyD d) ∧ (pyD d).canLay0 = true ∧ (pyD d).depth ≤ k
  | _, .int i, _ => ⟨.int i, rfl, Nat.zero_le _⟩
  | _, .non, _ => ⟨.non, rfl, Nat.zero_le _⟩
  | 0, .tup ds, h => by simp [cl] at h
  | k + 1, .tup ds, h => by
    obtain ⟨a, b, c⟩ := clL_py (M := M) (k := k) (ds := ds) (by simpa [cl] using h)
    exact ⟨.tup a, by simpa [pyD, PyData.canLay0] using b, by simp only [pyD, PyData.depth]; omega⟩
  | _, .str x, h => ⟨.str x, by simpa [cl, pyD] using h, Nat.zero_le _⟩
  | _, .bl _, h => by simp [cl] at h
  | _, .ref _, h => by simp [cl] at h
  | 0, .vl ds, h => by simp [cl] at h
  | k + 1, .vl ds, h => by
    obtain ⟨a, b, c⟩ := clL_py (M := M) (k := k) (ds := ds) (by simpa [cl] using h)
    exact ⟨.vl a, by simpa [pyD, PyData.canLay0] using b, by simp only [pyD, PyData.depth]; omega⟩
  | _, .ty _, h => by simp [cl] at h
theorem clL_py {M : Mem} : ∀ {k : Nat} {ds : List D}, clL k ds = true → PyRL M ds (pyDL ds) ∧ PyData.canLayAll0 (pyDL ds) = true ∧ PyData.depthAll (pyDL ds) ≤ k
  | _, [], _ => ⟨.nil, rfl, Nat.zero_le _⟩
  | k, d :: r, h => by
    have h' : cl k d = true ∧ clL k r = true := by simpa [clL] using h
    obtain ⟨a, b, c⟩ := cl_py (M := M) h'.1
    obtain ⟨a2, b2, c2⟩ := clL_py (M := M) h'.2
    exact ⟨.cons a a2, by simp [pyDL, PyData.canLayAll0, b, b2], by simp only [pyDL, PyData.depthAll]; omega⟩
end
mutual
theorem cl_eqv : ∀ {k j : Nat} {x y : D}, cl k x = true → cl j y = true → (PyData.eqv (pyD x) (pyD y) = true ↔ x = y)
  | _, _, .int i, .int j, _, _ => by simp [pyD, PyData.eqv]
  | _, _, .int i, .non, _, _ => by simp [pyD, PyData.eqv]
  | _, _, .non, .int i, _, _ => by simp [pyD, PyData.eqv]
  | _, _, .non, .non, _, _ => by simp [pyD, PyData.eqv]
  | _, _, .int i, .tup ds, _, _ => by simp [pyD, PyData.eqv]
  | _, _, .non, .tup ds, _, _ => by simp [pyD, PyData.eqv]
  | _, _, .tup ds, .int i, _, _ => by simp [pyD, PyData.eqv]
  | _, _, .tup ds, .non, _, _ => by simp [pyD, PyData.eqv]
  | k + 1, j + 1, .tup ds, .tup es, h, h' => by
    have := clL_eqv (k := k) (j := j) (xs := ds) (ys := es) (by simpa [cl] using h) (by simpa [cl] using h')
    simp only [pyD, PyData.eqv, D.tup.injEq]
    exact this
  | 0, _, .tup ds, .tup es, h, _ => by simp [cl] at h
  | _, 0, .tup ds, .tup es, _, h => by simp [cl] at h
  | _, _, .str x, .str y, _, _ => by simp [pyD, PyData.eqv]
  | _, _, .str x, .int i, _, _ => by simp [pyD, PyData.eqv]
  | _, _, .str x, .non, _, _ => by simp [pyD, PyData.eqv]
  | _, _, .str x, .tup ds, _, _ => by simp [pyD, PyData.eqv]
  | _, _, .int i, .str x, _, _ => by simp [pyD, PyData.eqv]
  | _, _, .non, .str x, _, _ => by simp [pyD, PyData.eqv]
  | _, _, .tup ds, .str x, _, _ => by simp [pyD, PyData.eqv]
  | k + 1, j + 1, .vl ds, .vl es, h, h' => by
    have := clL_eqv (k := k) (j := j) (xs := ds) (ys := es) (by simpa [cl] using h) (by simpa [cl] using h')
    simp only [pyD, PyData.eqv, D.vl.injEq]
    exact this
  | 0, _, .vl ds, .vl es, h, _ => by simp [cl] at h
  | _, 0, .vl ds, .vl es, _, h => by simp [cl] at h
  | _, _, .vl ds, .int i, _, _ => by simp [pyD, PyData.eqv]
  | _, _, .vl ds, .non, _, _ => by simp [pyD, PyData.eqv]
  | _, _, .vl ds, .str x, _, _ => by simp [pyD, PyData.eqv]
  | _, _, .vl ds, .tup es, _, _ => by simp [pyD, PyData.eqv]
  | _, _, .int i, .vl ds, _, _ => by simp [pyD, PyData.eqv]
  | _, _, .non, .vl ds, _, _ => by simp [pyD, PyData.eqv]
  | _, _, .str x, .vl ds, _, _ => by simp [pyD, PyData.eqv]
  | _, _, .tup es, .vl ds, _, _ => by simp [pyD, PyData.eqv]
  | _, _, .bl _, _, h, _ => by simp [cl] at h
  | _, _, .ref _, _, h, _ => by simp [cl] at h
  | _, _, .ty _, _, h, _ => by simp [cl] at h
  | _, _, _, .bl _, _, h => by simp [cl] at h
  | _, _, _, .ref _, _, h => by simp [cl] at h
  | _, _, _, .ty _, _, h => by simp [cl] at h
theorem clL_eqv : ∀ {k j : Nat} {xs ys : List D}, clL k xs = true → clL j ys = true → (PyData.eqvAll (pyDL xs) (pyDL ys) = true ↔ xs = ys)
  | _, _, [], [], _, _ => by simp [pyDL, PyData.eqvAll]
  | _, _, [], _ :: _, _, _ => by simp [pyDL, PyData.eqvAll]
  | _, _, _ :: _, [], _, _ => by simp [pyDL, PyData.eqvAll]
  | k, j, x :: xs, y :: ys, h, h' => by
    have h1 : cl k x = true ∧ clL k xs = true := by simpa [clL] using h
    have h2 : cl j y = true ∧ clL j ys = true := by simpa [clL] using h'
    have e1 := cl_eqv h1.1 h2.1
    have e2 := clL_eqv h1.2 h2.2
    simp only [pyDL, PyData.eqvAll, Bool.and_eq_true, e1, e2, List.cons.injEq]
end
open Classical in
/-- == of clean data -/
theorem gEq_cl {neg : Bool} {x y : D} {M : Mem} {R : DK} (h : R (.bl (neg.xor (decide (x = y)))) M) (hx : cl 60 x = true := by rfl) (hy : cl 60 y = true := by rfl) : gEq neg x y M R := by
  obtain ⟨a, b, c⟩ := cl_py (M := M) hx
  obtain ⟨a2, b2, c2⟩ := cl_py (M := M) hy
  refine ⟨_, _, a, a2, ?_, ?_, ?_⟩
  · simp only [SeqAt.shaped, b, Bool.true_and]; exact decide_eq_true (by omega)
  · simp only [SeqAt.shaped, b2, Bool.true_and]; exact decide_eq_true (by omega)
  · have e : PyData.eqv (pyD x) (pyD y) = decide (x = y) := by
      have := cl_eqv hx hy
      by_cases q : x = y
      · rw [decide_eq_true q]; exact this.mpr q
      · rw [decide_eq_false q]
        cases z : PyData.eqv (pyD x) (pyD y) with
        | false => rfl
        | true => exact absurd (this.mp z) q
    rw [e]; exact h

noncomputable def tyD (M : Mem) : D → Option String
  | .non => some "NoneType"
  | .bl _ => some "bool"
  | .int _ => some "int"
  | .str _ => some "str"
  | .tup _ => some "tuple"
  | .ref p => match M p with
    | some (.lst _) => some "list"
    | _ => none
  | .vl _ => some "list"
  | .ty _ => none
  | .dic => some "dict"
noncomputable def subT (t T : String) : Option Bool := if t = T then some true else
  match t, T with
  | "bool", "int" => some true
  | _, _ => if (t ∈ ["NoneType", "bool", "int", "str", "tuple", "list", "dict"]) ∧ (T ∈ ["bool", "int", "str", "tuple", "list"]) then some false else none
noncomputable def SubOk (K : PySem.W.Frag) : Prop := ∀ t T b, subT t T = some b → PySem.W.kitOne K (.type t) (.type T) = some b
theorem d_ty {x : Str} {n : String} (hg : Gl X x) (hm : X.mg x = none) (hv : bootBuiltins x = some (.type n)) (hn : x ≠ "__name__" := by decide) (hd : (x == ("__debug__" : Str)) = false := by decide) : DPE X (.Name x pos) (dC (.ty n)) :=
  d_const (v := .ty n) (pe_bltn hg hm hv rfl hn hd) fun _ => .ty n
theorem jd_ty {x : Str} {n : String} (hg : Gl X x) (hm : X.mg x = none) (hv : bootBuiltins x = some (.type n)) (hn : x ≠ "__name__" := by decide) (hd : (x == ("__debug__" : Str)) = false := by decide) : JE X (.Name x pos) (dC (.ty n)) := ⟨d_ty (hg := hg) (hm := hm) (hv := hv) (hn := hn) (hd := hd)⟩
noncomputable def gIsi : DRC := fun ds M R => ∃ d t T b, ds = [d, .ty T] ∧ tyD M d = some t ∧ subT t T = some b ∧ R (.bl b) M
theorem c_isi (hk : SubOk X.K) : DCall X (.builtin "isinstance") gIsi := by
  intro pins s σ H xs us Q I rv h
  obtain ⟨ds, M, R, hl, am, ⟨d, t, T, b, rfl, ht, hb, r⟩, f⟩ := h
  obtain ⟨v, v', rfl, h1, h2⟩ := hl.two
  cases h2
  obtain ⟨u, w', rfl, r1, r2⟩ := vals2 rv
  cases (show w' = Value.type T from r2)
  have e := hk t T b hb
  have fin : ∀ tk, EP X pins σ Q (.bool b) { s with toks := tk } := fun tk => ⟨.bl b, H, I.tok tk, rfl, f _ M r _ H (KT.refl H) am (.bl b)⟩
  cases h1 with
  | non => cases ht; exact isinst_ok I r1 .non e fin
  | bl q => cases ht; exact isinst_ok I r1 (.bl q) e fin
  | int q => cases ht; exact isinst_ok I r1 (.int q) e fin
  | str q => cases ht; exact isinst_ok I r1 (.str q) e fin
  | ty q => cases ht
  | ref p =>
    unfold tyD at ht
    cases q : M p with
    | none => simp [q] at ht
    | some o =>
      cases o with
      | lst es =>
        simp only [q] at ht
        cases ht
        obtain ⟨ys, hy, _⟩ := am.lst q
        exact isinst_ok I r1 (.lst hy) e fin
  | tup s' l =>
    cases ht
    cases (show u = Value.ref _ from r1)
    obtain ⟨its, _, ⟨o, h1, h2, _⟩, _⟩ := I.tuple s'
    exact PySem.W.kia_one PySem.W.kitx_tuple I.kIn ⟨o, h1, h2⟩ e (fun z => nomatch z) fin
  | vl hq hl' =>
    cases ht
    cases (show u = Value.ref _ from r1)
    obtain ⟨_, _, ea, sq, _⟩ := Has.il (.vl hq hl')
    cases ea
    obtain ⟨its, _, ⟨o, n, h1, h2, _⟩, _⟩ := I.list sq
    exact PySem.W.kia_one PySem.W.kitx_list I.kIn ⟨o, h1, h2⟩ e (fun z => nomatch z) fin
  | dic hq =>
    cases ht
    cases (show u = Value.ref _ from r1)
    obtain ⟨o, g1, g2⟩ := hq
    exact PySem.W.kia_one PySem.W.kitx_dict I.kIn ⟨o, (I.hok _ _ g1).1, g2⟩ e (fun z => nomatch z) fin

theorem mt_bits : MtR X "int.bit_length" (fun x xs H Q => ∃ i, x = .int i ∧ xs = [] ∧ Q (.int (Builtin.Int.intBits i : Nat)) H) := by
  intro pins s σ H x xs v us Q I rx rv h
  obtain ⟨i, rfl, rfl, q⟩ := h
  cases rv
  obtain ⟨t, rfl⟩ := rx
  exact call_int_bit_length ⟨.int _, H, I.tok _, ⟨_, rfl⟩, q⟩
end
end DL

namespace DL
open PySem PySem.Spec L2
open PyProof.Rows hiding St
section
variable {X : Cx} {a b c : Expr} {ta tb tc : DTE} {pos : Pos}

noncomputable def Y0 : DXK := fun _ _ => False
theorem fit0 {K : PySem.W.Frag} {H : Hp} {E : XK} : FitX K H Y0 E := fun _ _ h => h.elim
structure FunD (K : PySem.W.Frag) (x : Str) (st : Stmt) (f : Addr) (fd : FuncData) : Prop where
  ex : ∃ (oc : Value) (od : Option Addr) (dV kV doc pm : Value) (an : Option Addr) (cdv ct : Value) (osl : Array (Option Value)),
    fd = PySem.W.fnOf x x (defArgs st) (defBody st) (defScope st) dV kV doc pm an cdv ct ∧ K.lookup f = some ⟨oc, od, .func fd, osl⟩ ∧ PySem.W.codeIn K cdv x = true
  kp : PySem.W.keepIn K (.ref f) = true
structure Df (K : PySem.W.Frag) (mg : Str → Option Value) (x : Str) (st : Stmt) (ps : List Str) : Prop where
  ex : ∃ (f : Addr) (fd : FuncData), FunD K x st f fd ∧ mg x = some (.ref f) ∧ Binds K fd ps []
structure DfL (K : PySem.W.Frag) (mg : Str → Option Value) (x : Str) (st : Stmt) (ps : List Str) : Prop where
  ex : ∃ (f : Addr) (fd : FuncData), FunD K x st f fd ∧ mg x = some (.ref f) ∧ ∀ us : List Value, us.length = ps.length → bindArgs fd ⟨us, []⟩ = pure (ps.zip us)
structure Fn (P : Program) (w : World) (K : PySem.W.Frag) (mg : Str → Option Value) (base : Heap) (x : Str) (k : Nat) (ps : List Str) (sp : DSp) : Prop where
  ex : ∃ (f : Addr) (fd : FuncData), FnOk P w K mg base CX0 k f fd ps (upSp K sp) ∧ mg x = some (.ref f) ∧ PySem.W.keepIn K (.ref f) = true ∧ Binds K fd ps []
theorem d_callF {x : Str} {j : Nat} {ps : List Str} {sp : DSp} {p : Pos} {e : Expr} {es : List Expr} {t : DTA} (G : Fn X.prog X.w X.K X.mg X.base x j ps sp) (hr : Room j X.A) (hg : Gl X x) (ha : DPA X (e :: es) t)
    (hdb : (x == ("__debug__" : Str)) = false := by decide) (he : starEach (e :: es) X.env = (false, eval e X.env) :: starEach es X.env := by rfl) (hpl : (backTo pos (starEach es X.env)).any (·.1) = false := by rfl) :
    DPE X (.Call (.Name x p) (e :: es) [] pos) (dCall sp [] Y0 t) := by
  obtain ⟨f, fd, F, hm, hk, hb⟩ := G.ex
  exact d_call F hr hg hm hk hb .nil (fun _ => .nil) pass0 (fun _ => fit0) ha hdb he hpl
theorem jd_callF {x : Str} {j : Nat} {ps : List Str} {sp : DSp} {p : Pos} {e : Expr} {es : List Expr} {t : DTA} (G : Fn X.prog X.w X.K X.mg X.base x j ps sp) (hr : Room j X.A) (hg : Gl X x) (ha : JA X (e :: es) t)
    (hdb : (x == ("__debug__" : Str)) = false := by decide) (he : starEach (e :: es) X.env = (false, eval e X.env) :: starEach es X.env := by rfl) (hpl : (backTo pos (starEach es X.env)).any (·.1) = false := by rfl) : JE X (.Call (.Name x p) (e :: es) [] pos) (dCall sp [] Y0 t) := ⟨d_callF (G := G) (hr := hr) (hg := hg) (ha := ha.out) (hdb := hdb) (he := he) (hpl := hpl)⟩
end
section
variable {P : Program} {w : World} {K : PySem.W.Frag} {mg : Str → Option Value} {base : Heap}
theorem fn_ok {x : Str} {st : Stmt} {f : Addr} {fd : FuncData} {N ps : List Str} {k : Nat} {sp : DSp} (F : FunD K x st f fd) (S : FnScope N ps (defScope st)) (len : ∀ ds M R Y, sp ds M R Y → ds.length = ps.length)
    (hbody : ∀ (cdv : Value) (A : Around) (outer : List Env) (s : Shared) (H : Hp) (E : XK) (ds : List D) (M : Mem) (R : DK) (Y : DXK), Room k (A.deeper (envOfC x (defScope st) s.heap.objs.size f cdv)) → sp ds M R Y →
      ∃ t, JSs (cxOf CX0 P w K mg base N x (defScope st) f cdv A outer s H E).nox (defBody st) t ∧ t { nx := fun _ M' => R .non M', rt := R } (dstart N ds) M) : FnOk P w K mg base CX0 (k + 1) f fd ps (upSp K sp) := by
  obtain ⟨oc, od, dV, kV, doc, pm, an, cdv, ct, osl, rfl, lk, hcd⟩ := F.ex
  refine fn_of lk hcd S (fun vs H Q E ⟨ds, M, R, Y, hl, _, hs, _, _⟩ => by rw [hl.length]; exact len ds M R Y hs) fun A outer s H vs Q E hr zz => ?_
  obtain ⟨ds, M, R, Y, hl, am, hs, fv, fx⟩ := zz
  obtain ⟨t, h1, h2⟩ := hbody cdv A outer s H E ds M R Y hr hs
  refine ⟨_, h1.out.nox, dstart N ds, M, _, EnvOk.start0 hl, am, h2, ⟨?_, fv, fun _ _ h => h.elim, fun _ _ h => h.elim⟩⟩
  exact fun e M' h σ' H' kt a o => fv .non M' h .non H' kt a .non
theorem fn_by {x : Str} {st : Stmt} {N ps : List Str} {k : Nat} {sp : DSp} (d : Df K mg x st ps) (S : FnScope N ps (defScope st)) (len : ∀ ds M R Y, sp ds M R Y → ds.length = ps.length)
    (hbody : ∀ (f : Addr) (cdv : Value) (A : Around) (outer : List Env) (s : Shared) (H : Hp) (E : XK) (ds : List D) (M : Mem) (R : DK) (Y : DXK), Room k (A.deeper (envOfC x (defScope st) s.heap.objs.size f cdv)) → sp ds M R Y →
      ∃ t, JSs (cxOf CX0 P w K mg base N x (defScope st) f cdv A outer s H E).nox (defBody st) t ∧ t { nx := fun _ M' => R .non M', rt := R } (dstart N ds) M) : Fn P w K mg base x (k + 1) ps sp := by
  obtain ⟨f, fd, F, hm, hb⟩ := d.ex
  exact ⟨f, fd, fn_ok F S len (hbody f), hm, F.kp, hb⟩
theorem df_mk {x : Str} {st : Stmt} {ps : List Str} {h : Heap} {f : Addr} {oc : Value} {od an : Option Addr} {osl : Array (Option Value)} {dV kV doc pm cdv ct : Value} (X : K.In h) (G : h.Ns mainGlobals mg)
    (n : PySem.W.nsIn K mainGlobals x = some (some (.ref f)))
    (l : K.lookup f = some ⟨oc, od, .func (PySem.W.fnOf x x (defArgs st) (defBody st) (defScope st) dV kV doc pm an cdv ct), osl⟩)
    (c : PySem.W.codeIn K cdv x = true) (k : PySem.W.keepIn K (.ref f) = true)
    (hb : ∀ us : List Value, us.length = ps.length → bindArgs (PySem.W.fnOf x x (defArgs st) (defBody st) (defScope st) dV kV doc pm an cdv ct) ⟨us, []⟩ = pure (ps.zip us)) : Df K mg x st ps :=
  ⟨f, _, ⟨⟨oc, od, dV, kV, doc, pm, an, cdv, ct, osl, rfl, l, c⟩, k⟩, PySem.W.mg_of X G n, .all hb⟩
theorem dfl_mk {x : Str} {st : Stmt} {ps : List Str} {h : Heap} {f : Addr} {oc : Value} {od an : Option Addr} {osl : Array (Option Value)} {dV kV doc pm cdv ct : Value} (X : K.In h) (G : h.Ns mainGlobals mg)
    (n : PySem.W.nsIn K mainGlobals x = some (some (.ref f)))
    (l : K.lookup f = some ⟨oc, od, .func (PySem.W.fnOf x x (defArgs st) (defBody st) (defScope st) dV kV doc pm an cdv ct), osl⟩)
    (c : PySem.W.codeIn K cdv x = true) (k : PySem.W.keepIn K (.ref f) = true)
    (hb : ∀ us : List Value, us.length = ps.length → bindArgs (PySem.W.fnOf x x (defArgs st) (defBody st) (defScope st) dV kV doc pm an cdv ct) ⟨us, []⟩ = pure (ps.zip us)) : DfL K mg x st ps :=
  ⟨f, _, ⟨⟨oc, od, dV, kV, doc, pm, an, cdv, ct, osl, rfl, l, c⟩, k⟩, PySem.W.mg_of X G n, hb⟩
theorem dfd_mk {x : Str} {st : Stmt} {ps : List Str} {h : Heap} {f : Addr} {oc : Value} {od an : Option Addr} {osl : Array (Option Value)} {dV kV doc pm cdv ct : Value} (X : K.In h) (G : h.Ns mainGlobals mg)
    (n : PySem.W.nsIn K mainGlobals x = some (some (.ref f)))
    (l : K.lookup f = some ⟨oc, od, .func (PySem.W.fnOf x x (defArgs st) (defBody st) (defScope st) dV kV doc pm an cdv ct), osl⟩)
    (c : PySem.W.codeIn K cdv x = true) (k : PySem.W.keepIn K (.ref f) = true)
    (hb : ∀ us : List Value, us.length = ps.length → ∀ S, PySem.W.peek K S (bindArgs (PySem.W.fnOf x x (defArgs st) (defBody st) (defScope st) dV kV doc pm an cdv ct) ⟨us, []⟩) = some (ps.zip us)) : Df K mg x st ps :=
  ⟨f, _, ⟨⟨oc, od, dV, kV, doc, pm, an, cdv, ct, osl, rfl, l, c⟩, k⟩, PySem.W.mg_of X G n, fun s us X' hl => by rw [List.append_nil] at hl ⊢; exact PySem.W.kp_binds X' (hb us hl)⟩
end
section
variable {X : Cx} {x : Str} {p pos : Pos} {e : Expr} {es : List Expr} {t : DTA} {id T : String} {o : Expr} {to : DTE} {a b c : Expr} {ta tb tc : DTE}
theorem d_blt {g : DRC} (hc : DCall X (.builtin id) g) (hg : Gl X x) (hm : X.mg x = none) (hv : bootBuiltins x = some (.builtin id)) (ha : DPA X (e :: es) t)
    (hn : x ≠ "__name__" := by decide) (hdb : (x == ("__debug__" : Str)) = false := by decide) (he : starEach (e :: es) X.env = (false, eval e X.env) :: starEach es X.env := by rfl) (hpl : (backTo pos (starEach es X.env)).any (·.1) = false := by rfl) : DPE X (.Call (.Name x p) (e :: es) [] pos) (dCB g t) :=
  (pe_callB hc hg hm hv ha hn hdb he hpl).imp fun _ _ _ h => cb_up h
theorem jd_blt {g : DRC} (hc : DCall X (.builtin id) g) (hg : Gl X x) (hm : X.mg x = none) (hv : bootBuiltins x = some (.builtin id)) (ha : JA X (e :: es) t)
    (hn : x ≠ "__name__" := by decide) (hdb : (x == ("__debug__" : Str)) = false := by decide) (he : starEach (e :: es) X.env = (false, eval e X.env) :: starEach es X.env := by rfl) (hpl : (backTo pos (starEach es X.env)).any (·.1) = false := by rfl) : JE X (.Call (.Name x p) (e :: es) [] pos) (dCB g t) := ⟨d_blt (hc := hc) (hg := hg) (hm := hm) (hv := hv) (ha := ha.out) (hn := hn) (hdb := hdb) (he := he) (hpl := hpl)⟩
theorem d_blty {g : DRC} (hc : DCall X (.type T) g) (hg : Gl X x) (hm : X.mg x = none) (hv : bootBuiltins x = some (.type T)) (ha : DPA X (e :: es) t)
    (hn : x ≠ "__name__" := by decide) (hdb : (x == ("__debug__" : Str)) = false := by decide) (he : starEach (e :: es) X.env = (false, eval e X.env) :: starEach es X.env := by rfl) (hpl : (backTo pos (starEach es X.env)).any (·.1) = false := by rfl) : DPE X (.Call (.Name x p) (e :: es) [] pos) (dCB g t) :=
  (pe_callTy hc hg hm hv ha hn hdb he hpl).imp fun _ _ _ h => cb_up h
theorem jd_blty {g : DRC} (hc : DCall X (.type T) g) (hg : Gl X x) (hm : X.mg x = none) (hv : bootBuiltins x = some (.type T)) (ha : JA X (e :: es) t)
    (hn : x ≠ "__name__" := by decide) (hdb : (x == ("__debug__" : Str)) = false := by decide) (he : starEach (e :: es) X.env = (false, eval e X.env) :: starEach es X.env := by rfl) (hpl : (backTo pos (starEach es X.env)).any (·.1) = false := by rfl) : JE X (.Call (.Name x p) (e :: es) [] pos) (dCB g t) := ⟨d_blty (hc := hc) (hg := hg) (hm := hm) (hv := hv) (ha := ha.out) (hn := hn) (hdb := hdb) (he := he) (hpl := hpl)⟩

noncomputable def gBits : D → Mem → DK → Prop := fun x M R => ∃ i, x = .int i ∧ R (.int (Builtin.Int.intBits i : Nat)) M
theorem d_bits {apos cpos : Pos} (ho : DPE X o to) (hbase : attributeBase o "bit_length" X.env (eval o X.env) = eval o X.env := by rfl) (hline : (apos.endLine == cpos.line) = true := by rfl) :
    DPE X (.Call (.Attribute o "bit_length" apos) [] [] cpos) (dUn gBits to) :=
  (pe_bm0 PySem.F.plainAttrs_int PySem.F.slot_int_bit_length PySem.F.type_int_bit_length mt_bits ho hbase hline).imp (by rintro σ H Q ⟨e, M, R, ok, am, t, f⟩; exact ⟨e, M, _, ok, am, t, fun x M1 ⟨i, z, r⟩ v H1 k1 a1 r1 => by
    subst z; cases r1; exact ⟨rfl, i, rfl, rfl, f _ M1 r _ H1 k1 a1 (.int _)⟩⟩)
theorem jd_bits {apos cpos : Pos} (ho : JE X o to) (hbase : attributeBase o "bit_length" X.env (eval o X.env) = eval o X.env := by rfl) (hline : (apos.endLine == cpos.line) = true := by rfl) : JE X (.Call (.Attribute o "bit_length" apos) [] [] cpos) (dUn gBits to) := ⟨d_bits (ho := ho.out) (hbase := hbase) (hline := hline)⟩

theorem op_catS : OpR X (binaryOp .Add) (fun x y H Q => ∃ l b xs zs, x = .ref l ∧ y = .ref b ∧ SqL X.K H l xs ∧ SqL X.K H b zs ∧ xs.length + zs.length ≤ sizeLine ∧ ∀ p, H p = none → Q (.ref p) (upd H p (.lst (xs ++ zs)))) := by
  intro pins s σ H x y v u Q I rx ry h
  obtain ⟨l, b, xs, zs, rfl, rfl, hH, hB, hz, q⟩ := h
  cases rx
  cases ry
  obtain ⟨its, r, pl, z1⟩ := I.list hH
  obtain ⟨its2, r2, pl2, z2⟩ := I.list hB
  have hl := r.length
  have hl2 := r2.length
  obtain ⟨⟨cls, dd, data, sl⟩, ho, hc, n, hd⟩ := pl.isList
  obtain ⟨⟨cls2, dd2, data2, sl2⟩, ho2, hc2, n2, hd2⟩ := pl2.isList
  simp only at hc hd hc2 hd2
  subst hc hd hc2 hd2
  have ea : its.toArray ++ its2.toArray = (its ++ its2).toArray := by simp
  refine concat_meets ⟨_, ho, rfl⟩ ⟨_, ho2, rfl⟩ noFill_list_add seq_list_add PySem.F.slot_list_add PySem.F.entry_list_add (PySem.F.args_list_add_2 _ _) (list_addW l b its.toArray its2.toArray n n2 dd dd2 sl sl2 (by simp only [List.size_toArray]; omega)) ⟨ho, ho2, ?_⟩
  rw [ea]
  exact ⟨.ref _, _, I.lnew (t' := s.toks) (r.append r2) (by rw [List.length_append]; omega), rfl, q _ I.fresh⟩
noncomputable def itemsD (M : Mem) : D → Option (List D)
  | .ref p => match M p with
    | some (.lst ds) => some ds
    | _ => none
  | .vl ds => some ds
  | _ => none
theorem itemsD_has {K : PySem.W.Frag} {H : Hp} {M : Mem} {v : V} {d : D} {ds : List D} (am : AbsM K H M) (h : Has K H v d) (e : itemsD M d = some ds) : ∃ a xs, v = .ref a ∧ SqL K H a xs ∧ HasL K H xs ds := by
  cases h with
  | ref p =>
    unfold itemsD at e
    cases q : M p with
    | none => simp [q] at e
    | some o =>
      cases o with
      | lst es =>
        simp only [q] at e
        cases e
        obtain ⟨xs, hx, l⟩ := am.lst q
        exact ⟨p, xs, rfl, SqL.of hx, l⟩
  | vl hq hl =>
    cases e
    exact Has.il (.vl hq hl)
  | _ => cases e
end
end DL
namespace DL
open PySem PySem.Spec L2
open PyProof.Rows hiding St

end DL

namespace DL
open PySem PySem.Spec L2
open PyProof.Rows hiding St
theorem sl (n : Nat) (h : n ≤ 1000 := by decide) : n ≤ sizeLine := Nat.le_trans h (by decide)
section
variable {X : Cx}
open Classical in
/-- == and != of clean data, of scalars -/
noncomputable def gEqC (neg : Bool) : DR2 := fun x y M R => cl 60 x = true ∧ cl 60 y = true ∧ R (.bl (neg.xor (decide (x = y)))) M
theorem o_eqC (hu : X.A.units + 64 < cLine) : DOp X (compareOp .Eq) (gEqC false) := OpR.imp (o_eq hu) (by rintro _ _ _ _ ⟨dx, dy, M, R, hx, hy, am, ⟨h1, h2, h3⟩, f⟩; exact ⟨dx, dy, M, R, hx, hy, am, gEq_cl h3 h1 h2, f⟩)
theorem o_neC (hu : X.A.units + 64 < cLine) : DOp X (compareOp .NotEq) (gEqC true) := OpR.imp (o_ne hu) (by rintro _ _ _ _ ⟨dx, dy, M, R, hx, hy, am, ⟨h1, h2, h3⟩, f⟩; exact ⟨dx, dy, M, R, hx, hy, am, gEq_cl h3 h1 h2, f⟩)
theorem o_eqI : DOp X (compareOp .Eq) (gF (fI fun i j => .bl (decide (i = j)))) := OpR.imp op_eq (by
  rintro x y H Q ⟨dx, dy, M, R, hx, hy, am, ⟨z, e, r⟩, f⟩
  obtain ⟨i, j, e1, e2, e3⟩ := fI_some e
  subst e1; subst e2; subst e3
  cases hx; cases hy
  refine ⟨rfl, ?_⟩
  have e : decide (V.int i = V.int j) = decide (i = j) := by simp
  rw [e]
  exact f _ M r _ H (KT.refl H) am (.bl _))
theorem o_neI : DOp X (compareOp .NotEq) (gF (fI fun i j => .bl (!decide (i = j)))) := OpR.imp op_ne (by
  rintro x y H Q ⟨dx, dy, M, R, hx, hy, am, ⟨z, e, r⟩, f⟩
  obtain ⟨i, j, e1, e2, e3⟩ := fI_some e
  subst e1; subst e2; subst e3
  cases hx; cases hy
  refine ⟨rfl, ?_⟩
  have e : decide (V.int i = V.int j) = decide (i = j) := by simp
  rw [e]
  exact f _ M r _ H (KT.refl H) am (.bl _))
noncomputable def gIntB : DRC := fun ds M R => ∃ k : Bool, ds = [.bl k] ∧ R (.int (if k then 1 else 0)) M
theorem c_intB : DCall X (.type "int") gIntB := CallR.imp c_int (by rintro xs H Q ⟨ds, M, R, hl, am, ⟨k, z, r⟩, f⟩; exact ⟨ds, M, R, hl, am, .inr ⟨k, z, r⟩, f⟩)
end
theorem iteD {c : Prop} [Decidable c] {A B : Prop} (h1 : c → A) (h2 : ¬ c → B) : if decide c = true then A else B := by
  by_cases h : c
  · rw [if_pos (decide_eq_true h)]; exact h1 h
  · rw [if_neg (by rw [decide_eq_false h]; exact Bool.false_ne_true)]; exact h2 h
theorem iteND {c : Prop} [Decidable c] {A B : Prop} (h1 : ¬ c → A) (h2 : c → B) : if (!decide c) = true then A else B := by
  by_cases h : c
  · rw [decide_eq_true h]; rw [if_neg (by decide)]; exact h2 h
  · rw [decide_eq_false h]; rw [if_pos (by decide)]; exact h1 h
theorem log_lt {n k : Nat} (h : n < 2 ^ k) (hk : 0 < k) : n.log2 < k := by
  rcases Nat.eq_zero_or_pos n with h0 | h0
  · subst h0; rw [Nat.log2_zero]; exact hk
  · exact (Nat.log2_lt (Nat.pos_iff_ne_zero.mp h0)).mpr h
theorem mulOk {a b : Int} (m n : Nat) (ha : a.natAbs < 2 ^ m) (hb : b.natAbs < 2 ^ n) (h : m + n ≤ 100000) : IntMulOk a b := by
  have hx : ∀ (x : Int) (k : Nat), x.natAbs < 2 ^ k → Builtin.Int.intBits x ≤ k := fun x k hx => by
    unfold Builtin.Int.intBits
    split
    · exact Nat.zero_le _
    · rename_i h0
      have : x.natAbs ≠ 0 := by
        intro z; apply h0
        first | exact (by simpa using Int.natAbs_eq_zero.mp z) | (simp; omega)
      have := (Nat.log2_lt this).mpr hx
      omega
  exact PySem.IntMulOk.of_le (hx a m ha) (hx b n hb) (by omega)
end DL
namespace DL
open PySem PySem.Spec L2
open PyProof.Rows hiding St
noncomputable def kit0 (t T : String) : Option Bool := if PySem.W.kitMeta T = true then (fastBuiltinMro t).map (·.contains (.type T)) else none
theorem subOk (K : PySem.W.Frag) : SubOk K := by
  intro t T b h
  unfold subT at h
  by_cases e : t = T
  · subst e
    rw [if_pos rfl] at h
    cases h
    unfold PySem.W.kitOne
    rw [if_pos (beq_self_eq_true _)]
  · rw [if_neg e] at h
    have hne : ¬ (Value.type t == Value.type T) = true := fun z => e (by have := eq_of_beq z; injection this)
    unfold PySem.W.kitOne
    rw [if_neg hne]
    show kit0 t T = some b
    split at h
    · cases h; decide +kernel
    · split at h
      · rename_i hh
        obtain ⟨ht, hT⟩ := hh
        simp only [List.mem_cons, List.not_mem_nil, or_false] at ht hT
        cases h
        rcases ht with rfl | rfl | rfl | rfl | rfl | rfl | rfl <;> rcases hT with rfl | rfl | rfl | rfl | rfl <;> first | exact absurd rfl e | decide +kernel | (exfalso; simp_all)
      · cases h
theorem has_script {K : PySem.W.Frag} {H : Hp} {a : Addr} {ns : List Int} (hO : Only H) (hS : SqL K H a (ns.map V.int)) : Has K H (.ref a) (.vl (ns.map D.int)) := by
  rcases hS with (h | ⟨o, h⟩) | h
  · rcases hO a with z | ⟨o, xs, z⟩
    · rw [z] at h; cases h
    · rw [z] at h; cases h
  · exact .vl (.inl ⟨o, h⟩) (HasL.ints ns)
  · exact .vl (.inr fun _ => .inr h) (HasL.ints ns)
theorem law_sp {K : PySem.W.Frag} {H : Hp} {a : Addr} {ns : List Int} {sp : DSp} (hO : Only H) (hS : SqL K H a (ns.map V.int)) (h : sp [.vl (ns.map D.int)] (fun _ => none) (fun d _ => d = .bl true) Y0) :
    upSp K sp [.ref a] H (fun v _ => v = .bl true) (fun _ _ _ => False) :=
  ⟨[.vl (ns.map D.int)], fun _ => none, fun d _ => d = .bl true, Y0, .cons (has_script hO hS) .nil, fun _ _ z => (by cases z), h, fun d M' e v H' _ _ hv => by subst e; cases hv; rfl, fun _ _ z => z.elim⟩
end DL

namespace DL
open PySem PySem.Spec L2
open PyProof.Rows hiding St
section
variable {X : Cx} {o e : Expr} {es : List Expr} {to : DTE} {t : DTA} {name : Str} {apos cpos : Pos} {id : String}

noncomputable abbrev DRM := D → List D → Mem → DK → Prop
noncomputable def upM (K : PySem.W.Frag) (g : DRM) : V → List V → Hp → VK → Prop := fun x xs H Q => ∃ dx ds M R, Has K H x dx ∧ HasL K H xs ds ∧ AbsM K H M ∧ g dx ds M R ∧ FitV K H R Q
noncomputable def DMt (X : Cx) (id : String) (g : DRM) : Prop := MtR X id (upM X.K g)
theorem MtR.imp {r r' : V → List V → Hp → VK → Prop} (h : MtR X id r) (i : ∀ x xs H Q, r' x xs H Q → r x xs H Q) : MtR X id r' := fun pins s σ H x xs v us Q I rx rv q => h pins s σ H x xs v us Q I rx rv (i x xs H Q q)
noncomputable def dLM (g : DRM) (to : DTE) (t : DTA) : DTE := fun e M R => to e M fun x M1 => (∃ l ds, x = .ref l ∧ M1 l = some (.lst ds)) ∧ t e M1 fun xs M2 => g x xs M2 R
theorem d_lm {g : DRM} (slot : Slot "list" name id) (hty : typeOf (.builtin id) = pure (.type "method_descriptor")) (hm : DMt X id g) (ho : DPE X o to) (ha : DPA X (e :: es) t)
    (hbase : attributeBase o name X.env (eval o X.env) = eval o X.env := by rfl)
    (hfew : ((backTo cpos (starEach (e :: es) X.env)).all (fun x => !x.1) && (backToKw cpos (keywordEach [] X.env)).all (fun x => x.1.isSome)
      && decide ((e :: es).length + ([] : List Keyword).length + (if ([] : List Keyword).isEmpty then 0 else 1) < 30)) = true := by rfl)
    (hline : (apos.endLine == cpos.line) = true := by rfl) (hs : starEach (e :: es) X.env = (false, eval e X.env) :: starEach es X.env := by rfl) (hplain : (backTo cpos (starEach es X.env)).any (·.1) = false := by rfl) :
    DPE X (.Call (.Attribute o name apos) (e :: es) [] cpos) (dLM g to t) :=
  (pe_bm PySem.F.plainAttrs_list slot hty hm ho ha hbase hfew hline hs hplain).imp (by rintro σ H Q ⟨e, M, R, ok, am, t, f⟩; exact ⟨e, M, _, ok, am, t, fun x M1 ⟨⟨l, ds, z, hM⟩, h1⟩ v H1 k1 a1 r1 => by
    subst z
    have r1' := r1
    cases r1
    obtain ⟨xs, hx, _⟩ := a1.lst hM
    refine ⟨.inl ⟨rfl, xs, SqL.of hx⟩, e, M1, _, ok.mono k1, a1, h1, fun zs M2 h2 vs H2 k2 a2 r2 => ?_⟩
    exact ⟨_, zs, M2, R, r1'.mono k2, r2, a2, h2, f.mono (k1.trans k2)⟩⟩)
theorem jd_lm {g : DRM} (slot : Slot "list" name id) (hty : typeOf (.builtin id) = pure (.type "method_descriptor")) (hm : DMt X id g) (ho : JE X o to) (ha : JA X (e :: es) t)
    (hbase : attributeBase o name X.env (eval o X.env) = eval o X.env := by rfl)
    (hfew : ((backTo cpos (starEach (e :: es) X.env)).all (fun x => !x.1) && (backToKw cpos (keywordEach [] X.env)).all (fun x => x.1.isSome)
      && decide ((e :: es).length + ([] : List Keyword).length + (if ([] : List Keyword).isEmpty then 0 else 1) < 30)) = true := by rfl)
    (hline : (apos.endLine == cpos.line) = true := by rfl) (hs : starEach (e :: es) X.env = (false, eval e X.env) :: starEach es X.env := by rfl) (hplain : (backTo cpos (starEach es X.env)).any (·.1) = false := by rfl) : JE X (.Call (.Attribute o name apos) (e :: es) [] cpos) (dLM g to t) := ⟨d_lm (slot := slot) (hty := hty) (hm := hm) (ho := ho.out) (ha := ha.out) (hbase := hbase) (hfew := hfew) (hline := hline) (hs := hs) (hplain := hplain)⟩
theorem vals_bools : ∀ {bs : List Bool} {us : List Value}, Vals (bs.map V.bl) us → us = bs.map Value.bool
  | [], _, r => by cases r; rfl
  | b :: bs, _, r => by
    cases r with
    | cons r rr =>
      cases (show _ = Value.bool b from r)
      rw [vals_bools rr]; rfl
theorem HasL.bools {K : PySem.W.Frag} {H : Hp} : ∀ {bs : List Bool} {vs : List V}, HasL K H vs (bs.map D.bl) → vs = bs.map V.bl
  | [], _, r => by cases r; rfl
  | b :: bs, _, r => by
    cases r with
    | cons r rr => cases r; rw [HasL.bools rr]; rfl
noncomputable def fB (f : Bool → Bool → D) : D → D → Option D
  | .bl i, .bl j => some (f i j)
  | _, _ => none
theorem fB_some {f : Bool → Bool → D} {x y z : D} (h : fB f x y = some z) : ∃ i j, x = .bl i ∧ y = .bl j ∧ z = f i j := by
  cases x with
  | bl i =>
    cases y with
    | bl j => exact ⟨i, j, rfl, rfl, (Option.some.inj h).symm⟩
    | _ => cases h
  | _ => cases h
theorem o_neB : DOp X (compareOp .NotEq) (gF (fB fun i j => .bl (!(i == j)))) := OpR.imp op_ne (by
  rintro x y H Q ⟨dx, dy, M, R, hx, hy, am, ⟨z, e, r⟩, f⟩
  obtain ⟨i, j, e1, e2, e3⟩ := fB_some e
  subst e1; subst e2; subst e3
  cases hx; cases hy
  exact ⟨rfl, by rw [dec_bl]; exact f _ M r _ H (KT.refl H) am (.bl _)⟩)
end
end DL

namespace DL
open PySem PySem.Spec L2
open PyProof.Rows hiding St

section
variable {X : Cx}

noncomputable def gTupL : DRC := fun ds M R => ∃ x ys, ds = [x] ∧ itemsD M x = some ys ∧ R (.tup ys) M
theorem c_tupL : DCall X (.type "tuple") gTupL := CallR.imp call_tuple_of (by
  rintro xs H Q ⟨ds, M, R, hl, am, ⟨x, ys, z, e, r⟩, f⟩
  subst z
  obtain ⟨v, rfl, hv⟩ := hl.one
  obtain ⟨a, vs, rfl, s, l⟩ := itemsD_has am hv e
  exact ⟨a, vs, rfl, .inl ⟨s, fun p hp => f _ M r _ _ (KT.alloc hp) (am.alloc hp) (.tup (SqT.of upd_same) (l.mono (KT.alloc hp)))⟩⟩)

end
end DL

namespace DL
open PySem PySem.Spec L2
open PyProof.Rows hiding St

section
variable {X : Cx} {st : Stmt} {rest : List Stmt} {t u : DTS}
noncomputable def dSeqM (t u : DTS) : DTS := fun F e M => ∃ P : Ev → Mem → Prop, t { F with nx := P } e M ∧ ∀ e' M', P e' M' → u F e' M'
theorem ds_consM (h1 : DPS X st t) (h2 : DPSs X rest u) : DPSs X (st :: rest) (dSeqM t u) :=
  (pss_cons h1 h2).imp (by rintro E σ H ⟨e, M, F, ok, am, ⟨P, t, hP⟩, f⟩; exact ⟨e, M, { F with nx := P }, ok, am, t, ⟨fun e' M' h σ' H' k a o => ⟨e', M', F, o, a, hP e' M' h, f.mono k⟩, f.rt, f.bk, f.ct⟩⟩)
theorem jds_consM (h1 : JS X st t) (h2 : JSs X rest u) : JSs X (st :: rest) (dSeqM t u) := ⟨ds_consM (h1 := h1.out) (h2 := h2.out)⟩
end
section
variable {X : Cx}
theorem range_all (bs : List Bool) : (List.range bs.length).all (fun i => bs.getD i true) = bs.all id := by
  have : (List.range bs.length).map (fun i => bs.getD i true) = bs := by
    apply List.ext_getElem (by simp)
    intro i h1 h2
    simp [List.getD_eq_getElem?_getD, h2]
  conv => rhs; rw [← this]
  rw [List.all_map]; rfl
theorem truth_bools {prog : Program} {w : World} {A : Around} (bs : List Bool) : TruthOf prog w A (fun i v => (bs.map Value.bool).toArray[i]? = some v) (fun i => bs.getD i true) := by
  intro i v s Q E h q
  have h' : (bs.map Value.bool)[i]? = some v := by simpa using h
  rw [List.getElem?_map] at h'
  cases e : bs[i]? with
  | none => rw [e] at h'; cases h'
  | some b =>
    rw [e] at h'
    cases h'
    have q' : Q b s := by simpa [List.getD_eq_getElem?_getD, e] using q
    exact wpAny_truthy_bool q'
theorem call_allB (hc : X.calm = true) : CallR X (.builtin "all") (fun xs H Q => ∃ (l : Addr) (bs : List Bool), xs = [.ref l] ∧ SqL X.K H l (bs.map V.bl) ∧ Q (.bl (bs.all id)) H) := by
  intro pins s σ H xs us Q I r h
  obtain ⟨l, bs, rfl, hS, q⟩ := h
  obtain ⟨u, rfl, ru⟩ := vals1 r
  cases ru
  obtain ⟨its, rv, p, _⟩ := I.list hS
  have hb := vals_bools rv
  subst hb
  have hl : s.heap.IsList l (bs.map Value.bool).toArray := p.isList
  have hne : l ≠ s.heap.objs.size := by
    obtain ⟨o, e, _⟩ := id hl
    exact Nat.ne_of_lt (Heap.lt_size e)
  refine call_all_walk (wpAny_pyIter_list hl ?_)
  refine ⟨s.heap.objs.size, _, _, _, _, _, fun i => bs.getD i true, rfl, Walks.list (A := X.A.in1) (I.ok.hd hc) s.heap.objs.size l hne (bs.map Value.bool).toArray, ⟨⟨_, Heap.get?_push_size _ rfl, rfl, rfl⟩, hl.at fun o e => Heap.get?_push_of_some _ e⟩, truth_bools bs, fun h' tk kk => ?_⟩
  have e : (List.range (bs.map Value.bool).toArray.size).all (fun i => bs.getD i true) = bs.all id := by
    rw [show (bs.map Value.bool).toArray.size = bs.length by simp]; exact range_all bs
  rw [e]
  exact ⟨.bl (bs.all id), H, I.kept fun b o z => kk b o (by simp; exact Nat.ne_of_lt (Heap.lt_size z)) (Heap.get?_push_of_some _ z), rfl, q⟩
noncomputable def gAll : DRC := fun ds M R => ∃ (d : D) (bs : List Bool), ds = [d] ∧ itemsD M d = some (bs.map D.bl) ∧ R (.bl (bs.all id)) M
theorem c_all (hc : X.calm = true) : DCall X (.builtin "all") gAll := CallR.imp (call_allB hc) (by
  rintro xs H Q ⟨ds, M, R, hl, am, ⟨d, bs, z, hM, r⟩, f⟩
  subst z
  obtain ⟨v, rfl, hv⟩ := hl.one
  obtain ⟨a, vs, rfl, s, l⟩ := itemsD_has am hv hM
  rw [l.bools] at s
  exact ⟨a, bs, rfl, s, f _ M r _ H (KT.refl H) am (.bl _)⟩)
end
theorem bt_all : bootBuiltins "all" = some (.builtin "all") := by decide +kernel
structure GlD (K : PySem.W.Frag) (mg : Str → Option Value) (x : Str) (d : D) : Prop where
  ex : ∃ (v : V) (u : Value), mg x = some u ∧ RelV v u ∧ HasK K v d
theorem d_globD {X : Cx} {x : Str} {d : D} {pos : Pos} (hg : Gl X x) (g : GlD X.K X.mg x d) (hd : (x == ("__debug__" : Str)) = false := by decide) : DPE X (.Name x pos) (dC d) := by
  obtain ⟨v, u, h1, h2, h3⟩ := g.ex
  exact d_glob hg h1 h2 h3 hd
theorem jd_globD {X : Cx} {x : Str} {d : D} {pos : Pos} (hg : Gl X x) (g : GlD X.K X.mg x d) (hd : (x == ("__debug__" : Str)) = false := by decide) : JE X (.Name x pos) (dC d) := ⟨d_globD (hg := hg) (g := g) (hd := hd)⟩
theorem gl_pair {K : PySem.W.Frag} {mg : Str → Option Value} {h : Heap} {x : Str} {a : Addr} {od : Option Addr} {osl : Array (Option Value)} {i j : Int} {t u : Tok} {cap : Nat} (X : K.In h) (G : h.Ns mainGlobals mg)
    (n : PySem.W.nsIn K mainGlobals x = some (some (.ref a))) (l : K.lookup a = some ⟨.type "tuple", od, .seq #[.int i t, .int j u] cap, osl⟩) : GlD K mg x (.tup [.int i, .int j]) :=
  ⟨.ref a, .ref a, PySem.W.mg_of X G n, rfl, fun H => .tup (xs := [.int i, .int j]) (.inr ⟨_, _, _, l, rfl, rfl, (show 2 ≤ sizeLine by decide), .cons (show RelV (.int i) (.int i t) from ⟨t, rfl⟩) (.cons (show RelV (.int j) (.int j u) from ⟨u, rfl⟩) .nil)⟩) (.cons (.int i) (.cons (.int j) .nil))⟩
noncomputable def fS (f : Str → Str → D) : D → D → Option D
  | .str i, .str j => some (f i j)
  | _, _ => none
section
variable {X : Cx}
end
end DL

namespace DL
open PySem PySem.Spec L2
open PyProof.Rows hiding St

structure Walk (K : PySem.W.Frag) (H1 : Hp) (J : It) (ds : List D) (stay : Mem → Prop) : Prop where
  go : ∀ i H' M', i < ds.length → KT H1 H' → AbsM K H' M' → stay M' → J.go i H'
  yld : ∀ i H' M' x H'', i < ds.length → KT H1 H' → AbsM K H' M' → stay M' → J.yld i H' x H'' → ∃ d, ds[i]? = some d ∧ KT H' H'' ∧ AbsM K H'' M' ∧ Has K H'' x d
  stop : ∀ i H' M', ds.length ≤ i → KT H1 H' → AbsM K H' M' → stay M' → J.stop i H'
  up : ∀ M' p o, stay M' → M' p = none → stay (updM M' p o)
noncomputable def upI (K : PySem.W.Frag) (ti : DTI) : TI := fun σ H R => ∃ e M R', EnvOk K H σ e ∧ AbsM K H M ∧ ti e M R' ∧ ∀ ds stay M1, R' ds stay M1 → ∀ H1, KT H H1 → AbsM K H1 M1 → ∀ J, Walk K H1 J ds stay → R J H1
noncomputable def DPI (X : Cx) (tg iter : Expr) (ti : DTI) : Prop := PI X tg iter (upI X.K ti)
structure JI (X : Cx) (tg iter : Expr) (ti : DTI) : Prop where
  out : DPI X tg iter ti
theorem PI.imp {X : Cx} {tg iter : Expr} {wi wi' : TI} (h : PI X tg iter wi) (i : ∀ σ H R, wi' σ H R → wi σ H R) : PI X tg iter wi' := fun pins s σ H R I q => h pins s σ H R I (i σ H R q)
section
variable {X : Cx} {tg iter : Expr} {ti : DTE} {ta : DTA}
theorem walk_tup {K : PySem.W.Frag} {H1 : Hp} {a : Addr} {xs : List V} {ds : List D} (s : SqT K H1 a xs) (l : HasL K H1 xs ds) : Walk K H1 (Itt K a) ds (fun _ => True) where
  go := fun i H' M' hi k _ _ => ⟨xs, _, k.sq s, List.getElem?_eq_getElem (by rw [l.length]; exact hi)⟩
  yld := fun i H' M' x H'' hi k am _ zz => by
    obtain ⟨e, y⟩ := zz
    subst e
    obtain ⟨d, hd, r⟩ := l.getV (y xs (k.sq s))
    exact ⟨d, hd, KT.refl _, am, r.mono k⟩
  stop := fun i H' M' hi k _ _ => ⟨xs, k.sq s, by rw [l.length]; exact hi⟩
  up := fun _ _ _ _ _ => trivial
theorem walk_lst {K : PySem.W.Frag} {H1 : Hp} {p : Addr} {ds : List D} : Walk K H1 (Itl K p) ds (fun M' => M' p = some (.lst ds)) where
  go := fun i H' M' hi k am st => by
    obtain ⟨ys, hy, ly⟩ := am.lst st
    exact ⟨ys, _, SqL.of hy, List.getElem?_eq_getElem (by rw [ly.length]; exact hi)⟩
  yld := fun i H' M' x H'' hi k am st zz => by
    obtain ⟨e, y⟩ := zz
    subst e
    obtain ⟨ys, hy, ly⟩ := am.lst st
    obtain ⟨d, hd, r⟩ := ly.getV (y ys (SqL.of hy))
    exact ⟨d, hd, KT.refl _, am, r⟩
  stop := fun i H' M' hi k am st => by
    obtain ⟨ys, hy, ly⟩ := am.lst st
    exact ⟨ys, SqL.of hy, by rw [ly.length]; exact hi⟩
  up := fun M' q o st hq => by rw [updM_ne (by intro e; subst e; rw [hq] at st; cases st)]; exact st
theorem walk_rng {K : PySem.W.Frag} {H1 : Hp} {lo : Int} {n : Nat} : Walk K H1 (Itr lo n) (rangeD lo n) (fun _ => True) where
  go := fun i H' M' hi k am st => by rw [rangeD_length] at hi; exact hi
  yld := fun i H' M' x H'' hi k am st zz => by
    obtain ⟨e, y⟩ := zz
    subst e; subst y
    rw [rangeD_length] at hi
    exact ⟨_, rangeD_get hi, KT.refl _, am, .int _⟩
  stop := fun i H' M' hi k am st => by rw [rangeD_length] at hi; exact hi
  up := fun _ _ _ _ _ => trivial
theorem pd_rng {a : Expr} {p p2 : Pos} (hr : Gl X "range") (hm : X.mg "range" = none) (ha : DPA X [a] ta) (hs0 : starEach [a] X.env = [(false, eval a X.env)] := by rfl) : DPI X tg (.Call (.Name "range" p) [a] [] p2) (diRng ta) :=
  PI.imp (pi_range1 hr hm ha hs0) (by rintro σ H R ⟨e, M, R', ok, am, t, f⟩; exact ⟨e, M, _, ok, am, t, fun ds M1 ⟨j, z, b1, b2, r⟩ vs H1 k1 a1 r1 => by
    subst z
    obtain ⟨v, rfl, hv⟩ := r1.one
    cases hv
    exact ⟨j, rfl, b1, b2, f _ _ M1 r H1 k1 a1 _ walk_rng⟩⟩)
theorem jpd_rng {a : Expr} {p p2 : Pos} (hr : Gl X "range") (hm : X.mg "range" = none) (ha : JA X [a] ta) (hs0 : starEach [a] X.env = [(false, eval a X.env)] := by rfl) : JI X tg (.Call (.Name "range" p) [a] [] p2) (diRng ta) := ⟨pd_rng (hr := hr) (hm := hm) (ha := ha.out) (hs0 := hs0)⟩
noncomputable def seqD (M : Mem) (x : D) (ds : List D) : Prop := x = .tup ds ∨ (∃ p, x = .ref p ∧ M p = some (.lst ds)) ∨ x = .vl ds
noncomputable def kindD : D → Bool
  | .tup _ => false
  | _ => true
theorem seqD_has {K : PySem.W.Frag} {H : Hp} {M : Mem} {v : V} {x : D} {ds : List D} (h : seqD M x ds) (am : AbsM K H M) (r : Has K H v x) : ∃ a xs, v = .ref a ∧ SqK K (kindD x) H a xs ∧ HasL K H xs ds := by
  rcases h with rfl | ⟨p, rfl, m⟩ | rfl
  rotate_left 2
  · obtain ⟨a, xs, e, sq, l⟩ := r.il
    exact ⟨a, xs, e, sq, l⟩
  · cases r with
    | tup s l => exact ⟨_, _, rfl, s, l⟩
  · cases r
    obtain ⟨xs, hx, l⟩ := am.lst m
    exact ⟨p, xs, rfl, SqL.of hx, l⟩
theorem seqD_up {M : Mem} {x : D} {ds : List D} {q : Addr} {o : MO} (h : seqD M x ds) (hq : M q = none) : seqD (updM M q o) x ds := by
  rcases h with h | ⟨p, e, h⟩ | h
  · exact .inl h
  · exact .inr (.inl ⟨p, e, by rw [updM_ne (by intro e; subst e; rw [hq] at h; cases h)]; exact h⟩)
  · exact .inr (.inr h)
noncomputable def zipD (ds es : List D) : List D := List.zipWith (fun a b => .tup [a, b]) ds es
theorem zipD_length (ds es : List D) : (zipD ds es).length = min ds.length es.length := by simp [zipD]
theorem zipD_get {ds es : List D} {i : Nat} {a b : D} (h1 : ds[i]? = some a) (h2 : es[i]? = some b) : (zipD ds es)[i]? = some (.tup [a, b]) := by
  unfold zipD
  rw [List.getElem?_zipWith, h1, h2]
theorem walk_zip {K : PySem.W.Frag} {H1 : Hp} {x y : D} {l1 l2 : Addr} {ds es : List D} (h1 : Has K H1 (.ref l1) x) (h2 : Has K H1 (.ref l2) y) :
    Walk K H1 (Itz K (kindD x) (kindD y) l1 l2) (zipD ds es) (fun M' => seqD M' x ds ∧ seqD M' y es) where
  go := fun i H' M' hi k am zz => by
    obtain ⟨s1, s2⟩ := zz
    rw [zipD_length] at hi
    obtain ⟨a, xs, e1, q1, m1⟩ := seqD_has s1 am (h1.mono k)
    obtain ⟨b, ys, e2, q2, m2⟩ := seqD_has s2 am (h2.mono k)
    cases e1; cases e2
    exact ⟨xs, ys, _, _, q1, q2, List.getElem?_eq_getElem (by rw [m1.length]; omega), List.getElem?_eq_getElem (by rw [m2.length]; omega)⟩
  yld := fun i H' M' v H'' hi k am ⟨s1, s2⟩ ⟨T, a, b, hT, ev, eH, u1, u2⟩ => by
    subst ev; subst eH
    obtain ⟨a', xs, e1, q1, m1⟩ := seqD_has s1 am (h1.mono k)
    obtain ⟨b', ys, e2, q2, m2⟩ := seqD_has s2 am (h2.mono k)
    cases e1; cases e2
    obtain ⟨d1, g1, r1⟩ := m1.getV (u1 xs q1)
    obtain ⟨d2, g2, r2⟩ := m2.getV (u2 ys q2)
    have kt : KT H' (upd H' T (.tup [a, b])) := KT.alloc hT
    exact ⟨_, zipD_get g1 g2, kt, am.alloc hT, .tup (SqT.of upd_same) (.cons (r1.mono kt) (.cons (r2.mono kt) .nil))⟩
  stop := fun i H' M' hi k am zz => by
    obtain ⟨s1, s2⟩ := zz
    rw [zipD_length] at hi
    obtain ⟨a, xs, e1, q1, m1⟩ := seqD_has s1 am (h1.mono k)
    obtain ⟨b, ys, e2, q2, m2⟩ := seqD_has s2 am (h2.mono k)
    cases e1; cases e2
    refine ⟨xs, ys, q1, q2, ?_⟩
    rw [m1.length, m2.length]
    omega
  up := fun _ _ _ st hq => ⟨seqD_up st.1 hq, seqD_up st.2 hq⟩
noncomputable def diZip (ta : DTA) : DTI := fun e M R => ta e M fun xs M1 => ∃ x y ds es, xs = [x, y] ∧ seqD M1 x ds ∧ seqD M1 y es ∧ R (zipD ds es) (fun M' => seqD M' x ds ∧ seqD M' y es) M1
theorem pd_zip {elts : List Expr} {kx : Nat} {tp : Pos} {a b : Expr} {p pos : Pos} (hg : Gl X "zip") (hm : X.mg "zip" = none) (ha : DPA X [a, b] ta)
    (hs : starEach [a, b] X.env = [(false, eval a X.env), (false, eval b X.env)] := by rfl) (hs2 : starEach [b] X.env = [(false, eval b X.env)] := by rfl) : DPI X (.Tuple elts kx tp) (.Call (.Name "zip" p) [a, b] [] pos) (diZip ta) :=
  PI.imp (pi_zip hg hm ha hs hs2) (by rintro σ H R ⟨e, M, R', ok, am, t, f⟩; exact ⟨e, M, _, ok, am, t, fun xs M1 ⟨x, y, ds, es, z, s1, s2, r⟩ vs H1 k1 a1 r1 => by
    subst z
    obtain ⟨v, v', rfl, hv, hv'⟩ := r1.two
    obtain ⟨a, zs, rfl, q1, m1⟩ := seqD_has s1 a1 hv
    obtain ⟨b, ws, rfl, q2, m2⟩ := seqD_has s2 a1 hv'
    exact ⟨_, _, a, b, rfl, ⟨zs, q1⟩, ⟨ws, q2⟩, f _ _ M1 r H1 k1 a1 _ (walk_zip hv hv')⟩⟩)
theorem jpd_zip {elts : List Expr} {kx : Nat} {tp : Pos} {a b : Expr} {p pos : Pos} (hg : Gl X "zip") (hm : X.mg "zip" = none) (ha : JA X [a, b] ta)
    (hs : starEach [a, b] X.env = [(false, eval a X.env), (false, eval b X.env)] := by rfl) (hs2 : starEach [b] X.env = [(false, eval b X.env)] := by rfl) : JI X (.Tuple elts kx tp) (.Call (.Name "zip" p) [a, b] [] pos) (diZip ta) := ⟨pd_zip (hg := hg) (hm := hm) (ha := ha.out) (hs := hs) (hs2 := hs2)⟩
end

section
variable {X : Cx} {tg iter : Expr} {body : List Stmt} {ti : DTI} {g : DTG} {tb : DTS} {pos : Pos}
theorem ds_forI (hp : PassesOwn (model X.prog X.w) X.A X.env X.xe) (hc : X.calm = true) (hi : DPI X tg iter ti) (hg : DPG X tg g) (hb : DPSs X body tb)
    (hs : ∀ x, foldedSetIterable iter X.env x = pure x := by intro _; rfl) : DPS X (.For tg iter body [] pos) (dFor ti g tb) :=
  (ps_for hp hc hi hg hb hs).imp (by rintro E σ H ⟨e, M, F, ok, am, t, f⟩; exact ⟨e, M, _, ok, am, t, fun ds stay M1 ⟨W, w0, hst, step, done⟩ H1 k1 a1 J wk => by
    refine ⟨fun i m σ' H' => m = ds.length - i ∧ i ≤ ds.length ∧ ∃ e' M', KT H1 H' ∧ EnvOk X.K H' σ' e' ∧ AbsM X.K H' M' ∧ W i e' M', ⟨ds.length, by simp, Nat.zero_le _, e, M1, KT.refl H1, ok.mono k1, a1, w0⟩, ?_⟩
    rintro i m σ2 H2 ⟨rfl, hi, e2, M2, k2, ok2, a2, w2⟩
    have st := hst i e2 M2 hi w2
    by_cases hlt : i < ds.length
    · refine .inr ⟨wk.go i H2 M2 hlt k2 a2 st, fun σ' H' => ∃ e' M', KT H1 H' ∧ EnvOk X.K H' σ' e' ∧ AbsM X.K H' M' ∧ W (i + 1) e' M', fun σ' H' h => ⟨ds.length - (i + 1), by omega, rfl, hlt, h⟩, fun y H' yl => ?_⟩
      obtain ⟨d, hd, k3, a3, r⟩ := wk.yld i H2 M2 y H' hlt k2 a2 st yl
      exact for_turn f k1 (k2.trans k3) (ok2.mono k3) a3 r (step i d e2 M2 hd w2)
    · have e' : i = ds.length := by omega
      subst e'
      exact .inl ⟨wk.stop _ H2 M2 (Nat.le_refl _) k2 a2 st, f.nx e2 M2 (done e2 M2 w2) σ2 H2 (k1.trans k2) a2 ok2⟩⟩)
theorem jds_forI (hp : PassesOwn (model X.prog X.w) X.A X.env X.xe) (hc : X.calm = true) (hi : JI X tg iter ti) (hg : JG X tg g) (hb : JSs X body tb)
    (hs : ∀ x, foldedSetIterable iter X.env x = pure x := by intro _; rfl) : JS X (.For tg iter body [] pos) (dFor ti g tb) := ⟨ds_forI (hp := hp) (hc := hc) (hi := hi.out) (hg := hg.out) (hb := hb.out) (hs := hs)⟩
end

noncomputable def capE (n : Nat) (caps : List Nat) (e : Ev) : Ev := List.replicate n none ++ caps.map fun i => (e[i]?).getD none
theorem env_cap {K : PySem.W.Frag} {H : Hp} {σ : St} {e : Ev} (n : Nat) (caps : List Nat) (ok : EnvOk K H σ e) : EnvOk K H (capF n caps σ) (capE n caps e) := by
  refine ⟨by simp [capF, capE], fun i d h => ?_⟩
  unfold capE at h
  unfold capF
  rw [List.getElem?_append] at h ⊢
  rw [List.length_replicate] at h ⊢
  by_cases hi : i < n
  · rw [if_pos hi] at h
    rw [List.getElem?_replicate] at h
    split at h <;> cases h
  · rw [if_neg hi] at h ⊢
    rw [List.getElem?_map] at h ⊢
    cases hj : caps[i - n]? with
    | none => rw [hj] at h; cases h
    | some j =>
      rw [hj] at h
      have h' : (e[j]?).getD none = some d := by simpa using h
      have he : e[j]? = some (some d) := by
        cases q : e[j]? with
        | none => rw [q] at h'; cases h'
        | some z => rw [q] at h'; have : z = some d := by simpa using h'
                    rw [this]
      obtain ⟨v, h1, h2⟩ := ok.has j d he
      exact ⟨v, by simp [h1], h2⟩
theorem all1 {p : Str → Prop} {a : Str} (h : p a) : ∀ x ∈ [a], p x := fun x hx => by
  simp only [List.mem_cons, List.not_mem_nil, or_false] at hx
  subst hx; exact h
end DL

namespace DL
open PySem PySem.Spec L2
open PyProof.Rows hiding St

noncomputable def subT2 (t T1 T2 : String) : Option Bool := match subT t T1 with
  | some true => some true
  | some false => subT t T2
  | none => none
theorem subT2_kit {K : PySem.W.Frag} (hk : SubOk K) {t T1 T2 : String} {b : Bool} (h : subT2 t T1 T2 = some b) : PySem.W.kitAny K (.type t) [.type T1, .type T2] = some b := by
  unfold subT2 at h
  unfold PySem.W.kitAny
  cases e : subT t T1 with
  | none => rw [e] at h; cases h
  | some c =>
    rw [e] at h
    rw [hk t T1 c e]
    cases c with
    | true => exact h
    | false =>
      dsimp only at h ⊢
      unfold PySem.W.kitAny
      rw [hk t T2 b h]
      cases b <;> rfl
section
variable {X : Cx}
noncomputable def gIsi2 : DRC := fun ds M R => ∃ d t T1 T2 b, ds = [d, .tup [.ty T1, .ty T2]] ∧ tyD M d = some t ∧ subT2 t T1 T2 = some b ∧ R (.bl b) M
theorem c_isi2 (hk : SubOk X.K) : DCall X (.builtin "isinstance") gIsi2 := by
  intro pins s σ H xs us Q I rv h
  obtain ⟨ds, M, R, hl, am, ⟨d, t, T1, T2, b, rfl, ht, hb, r⟩, f⟩ := h
  obtain ⟨v, v', rfl, h1, h2⟩ := hl.two
  cases h2 with
  | tup sT lT =>
    obtain ⟨u, w', rfl, r1, r2⟩ := vals2 rv
    cases (show w' = Value.ref _ from r2)
    obtain ⟨a1, a2, rfl, q1, q2⟩ := lT.two
    cases q1; cases q2
    obtain ⟨its, rT, ⟨o, e1, e2, n, e3⟩, _⟩ := I.tuple sT
    obtain ⟨t1, t2, rfl, w1, w2⟩ := vals2 rT
    cases (show t1 = Value.type T1 from w1)
    cases (show t2 = Value.type T2 from w2)
    obtain ⟨cls, dd, data, sl⟩ := o
    simp only at e2 e3
    subst e2; subst e3
    have e := subT2_kit hk hb
    have fin : ∀ tk, EP X pins σ Q (.bool b) { s with toks := tk } := fun tk => ⟨.bl b, H, I.tok tk, rfl, f _ M r _ H (KT.refl H) am (.bl b)⟩
    cases h1 with
    | non => cases ht; cases (show u = Value.none from r1); exact PySem.W.kia_tup PySem.W.kitx_none I.kIn trivial e1 e (fun z => nomatch z) fin
    | bl q => cases ht; cases (show u = Value.bool q from r1); exact PySem.W.kia_tup PySem.W.kitx_bool I.kIn trivial e1 e (fun z => nomatch z) fin
    | int q => cases ht; obtain ⟨tk, rfl⟩ := r1; exact PySem.W.kia_tup PySem.W.kitx_int I.kIn trivial e1 e (fun z => nomatch z) fin
    | str q => cases ht; obtain ⟨tk, rfl⟩ := r1; exact PySem.W.kia_tup PySem.W.kitx_str I.kIn trivial e1 e (fun z => nomatch z) fin
    | ty q => cases ht
    | ref p =>
      unfold tyD at ht
      cases q : M p with
      | none => simp [q] at ht
      | some o =>
        cases o with
        | lst es =>
          simp only [q] at ht
          cases ht
          obtain ⟨ys, hy, _⟩ := am.lst q
          cases (show u = Value.ref _ from r1)
          obtain ⟨its2, _, ⟨o2, n2, g1, g2, _⟩, _⟩ := I.list (SqL.of (K := X.K) hy)
          exact PySem.W.kia_tup PySem.W.kitx_list I.kIn ⟨o2, g1, g2⟩ e1 e (fun z => nomatch z) fin
    | tup s' l =>
      cases ht
      cases (show u = Value.ref _ from r1)
      obtain ⟨its2, _, ⟨o2, g1, g2, _⟩, _⟩ := I.tuple s'
      exact PySem.W.kia_tup PySem.W.kitx_tuple I.kIn ⟨o2, g1, g2⟩ e1 e (fun z => nomatch z) fin
    | vl hq hl' =>
      cases ht
      cases (show u = Value.ref _ from r1)
      obtain ⟨_, _, ea, sq, _⟩ := Has.il (.vl hq hl')
      cases ea
      obtain ⟨its2, _, ⟨o2, n2, g1, g2, _⟩, _⟩ := I.list sq
      exact PySem.W.kia_tup PySem.W.kitx_list I.kIn ⟨o2, g1, g2⟩ e1 e (fun z => nomatch z) fin
    | dic hq =>
      cases ht
      cases (show u = Value.ref _ from r1)
      obtain ⟨o2, g1, g2⟩ := hq
      exact PySem.W.kia_tup PySem.W.kitx_dict I.kIn ⟨o2, (I.hok _ _ g1).1, g2⟩ e1 e (fun z => nomatch z) fin

noncomputable def iSeq (K : PySem.W.Frag) (tl : TE) : TI := fun σ H R => tl σ H fun x H1 => ∃ (a : Addr) (k : Bool), x = .ref a ∧ (∃ xs, SqK K k H1 a xs) ∧ R (if k = true then Itl K a else Itt K a) H1
theorem pi_seq {tg l : Expr} {tl : TE} (hl : PE X l tl) : PI X tg l (iSeq X.K tl) := by
  intro pins s σ H R I h
  refine thn (hl pins s σ H _ I h) fun v s1 zz => ?_
  obtain ⟨x, H1, I1, r1, q1⟩ := zz
  obtain ⟨a, k, e, ⟨xs, hq⟩, q⟩ := q1
  subst e
  cases r1
  obtain ⟨its, rv, p⟩ := I1.sqk hq
  have nf : ∀ b ∈ [s1.heap.objs.size], FpOk X pins H1 b := fun b hb => by
    have e : b = s1.heap.objs.size := by simpa using hb
    subst e
    exact I1.fpOk (Nat.le_refl _) (I1.hok.fresh (Nat.le_refl _))
  cases k with
  | true => exact wpAny_pyIter_list p ⟨s1.heap.objs.size, [s1.heap.objs.size], _, _, H1, rfl, I1.kept (t' := s1.toks) fun b o e => Heap.get?_push_of_some _ e, turn_list a _, ⟨_, Heap.get?_push_size _ rfl, rfl, rfl⟩, nf, q⟩
  | false => exact wpAny_pyIter_tuple p ⟨s1.heap.objs.size, [s1.heap.objs.size], _, _, H1, rfl, I1.kept (t' := s1.toks) fun b o e => Heap.get?_push_of_some _ e, turn_tuple a _, ⟨_, Heap.get?_push_size _ rfl, rfl, rfl⟩, nf, q⟩
noncomputable def diSeq (ti : DTE) : DTI := fun e M R => ti e M fun x M1 => ∃ ds, seqD M1 x ds ∧ R ds (fun M' => seqD M' x ds) M1
theorem pd_seq {tg iter : Expr} {ti : DTE} (hi : DPE X iter ti) : DPI X tg iter (diSeq ti) := PI.imp (pi_seq hi) (by rintro σ H R ⟨e, M, R', ok, am, t, f⟩; exact ⟨e, M, _, ok, am, t, fun x M1 ⟨ds, sq, r⟩ v H1 k1 a1 r1 => by
  have sq' := sq
  rcases sq with rfl | ⟨p, rfl, hm⟩ | rfl
  rotate_left 2
  · obtain ⟨a, xs, rfl, sq, l⟩ := r1.il
    have wk : Walk X.K H1 (Itl X.K a) ds (fun M' => seqD M' (.vl ds) ds) := ⟨fun i H' M' hi k am _ => by
        obtain ⟨a', ys, e, sq', l'⟩ := (r1.mono k).il
        cases e
        exact ⟨ys, _, sq', List.getElem?_eq_getElem (by rw [l'.length]; exact hi)⟩,
      fun i H' M' x H'' hi k am _ zz => by
        obtain ⟨e, y⟩ := zz
        subst e
        obtain ⟨a', ys, e, sq', l'⟩ := (r1.mono k).il
        cases e
        obtain ⟨d, hd, r⟩ := l'.getV (y ys sq')
        exact ⟨d, hd, KT.refl _, am, r⟩,
      fun i H' M' hi k am _ => by
        obtain ⟨a', ys, e, sq', l'⟩ := (r1.mono k).il
        cases e
        exact ⟨ys, sq', by rw [l'.length]; exact hi⟩, fun _ _ _ st hq => seqD_up st hq⟩
    exact ⟨a, true, rfl, ⟨xs, sq⟩, f ds _ M1 r H1 k1 a1 _ wk⟩
  · cases r1 with
    | tup s l =>
      refine ⟨_, false, rfl, ⟨_, s⟩, f ds _ M1 r H1 k1 a1 _ ?_⟩
      have w := walk_tup (K := X.K) s l
      exact ⟨fun i H' M' a b c _ => w.go i H' M' a b c trivial, fun i H' M' y H2 a b c _ g => w.yld i H' M' y H2 a b c trivial g, fun i H' M' a b c _ => w.stop i H' M' a b c trivial, fun _ _ _ st hq => seqD_up st hq⟩
  · cases r1
    obtain ⟨xs, hx, l⟩ := a1.lst hm
    refine ⟨p, true, rfl, ⟨xs, SqL.of hx⟩, f ds _ M1 r H1 k1 a1 _ ?_⟩
    have w := walk_lst (K := X.K) (H1 := H1) (p := p) (ds := ds)
    have cv : ∀ {M' : Mem}, seqD M' (.ref p) ds → M' p = some (.lst ds) := fun z => by
      rcases z with z | ⟨p', z, h⟩ | z
      · cases z
      · cases z; exact h
      · cases z
    exact ⟨fun i H' M' a b c z => w.go i H' M' a b c (cv z), fun i H' M' y H2 a b c z g => w.yld i H' M' y H2 a b c (cv z) g, fun i H' M' a b c z => w.stop i H' M' a b c (cv z), fun _ _ _ st hq => seqD_up st hq⟩⟩)
theorem jpd_seq {tg iter : Expr} {ti : DTE} (hi : JE X iter ti) : JI X tg iter (diSeq ti) := ⟨pd_seq (hi := hi.out)⟩
end

theorem gl_ray {K : PySem.W.Frag} {mg : Str → Option Value} {h : Heap} {x : Str} {a b c : Addr} {od od1 od2 : Option Addr} {osl osl1 osl2 : Array (Option Value)} {i j k l : Int} {t1 t2 t3 t4 : Tok} {cap cap1 cap2 : Nat} (X : K.In h) (G : h.Ns mainGlobals mg)
    (n : PySem.W.nsIn K mainGlobals x = some (some (.ref a))) (l0 : K.lookup a = some ⟨.type "tuple", od, .seq #[.ref b, .ref c] cap, osl⟩)
    (l1 : K.lookup b = some ⟨.type "tuple", od1, .seq #[.int i t1, .int j t2] cap1, osl1⟩) (l2 : K.lookup c = some ⟨.type "tuple", od2, .seq #[.int k t3, .int l t4] cap2, osl2⟩) : GlD K mg x (.tup [.tup [.int i, .int j], .tup [.int k, .int l]]) := by
  have two : (2 : Nat) ≤ sizeLine := by decide
  have p1 : ∀ H : Hp, Has K H (.ref b) (.tup [.int i, .int j]) := fun H => .tup (xs := [.int i, .int j]) (.inr ⟨_, _, _, l1, rfl, rfl, two, .cons (show RelV (.int i) (.int i t1) from ⟨t1, rfl⟩) (.cons (show RelV (.int j) (.int j t2) from ⟨t2, rfl⟩) .nil)⟩) (.cons (.int i) (.cons (.int j) .nil))
  have p2 : ∀ H : Hp, Has K H (.ref c) (.tup [.int k, .int l]) := fun H => .tup (xs := [.int k, .int l]) (.inr ⟨_, _, _, l2, rfl, rfl, two, .cons (show RelV (.int k) (.int k t3) from ⟨t3, rfl⟩) (.cons (show RelV (.int l) (.int l t4) from ⟨t4, rfl⟩) .nil)⟩) (.cons (.int k) (.cons (.int l) .nil))
  exact ⟨.ref a, .ref a, PySem.W.mg_of X G n, rfl, fun H => .tup (xs := [.ref b, .ref c]) (.inr ⟨_, _, _, l0, rfl, rfl, two, .cons (show RelV (.ref b) (.ref b) from rfl) (.cons (show RelV (.ref c) (.ref c) from rfl) .nil)⟩) (.cons (p1 H) (.cons (p2 H) .nil))⟩
section
variable {X : Cx}
end
section
variable {X : Cx}
noncomputable def gAppend : DRM := fun x xs M R => ∃ l ds v, x = .ref l ∧ xs = [v] ∧ M l = some (.lst ds) ∧ ds.length < sizeLine ∧ R .non (updM M l (.lst (ds ++ [v])))
theorem dm_append : DMt X "list.append" gAppend := MtR.imp (r := rAppend) mt_append (by
  rintro x xs H Q ⟨dx, ds, M, R, hx, hl, am, ⟨l, es, v, e1, e2, hM, hz, r⟩, f⟩
  subst e1; subst e2
  cases hx
  obtain ⟨w, rfl, hw⟩ := hl.one
  obtain ⟨ys, hy, ly⟩ := am.lst hM
  exact ⟨l, ys, w, rfl, rfl, hy, by rw [ly.length]; exact hz, f _ _ r _ _ (KT.write hy) (am.write hy (ly.append (.cons hw .nil))) .non⟩)
end
end DL

namespace DL
open PySem PySem.Spec L2
open PyProof.Rows hiding St
section
variable {X : Cx}
end
end DL

namespace DL
open PySem PySem.Spec L2
open PyProof.Rows hiding St

noncomputable abbrev DTO := Ev → Mem → (Option Int → Mem → Prop) → Prop
noncomputable def upO (K : PySem.W.Frag) (t : DTO) : TO := fun σ H Q => ∃ e M R, EnvOk K H σ e ∧ AbsM K H M ∧ t e M R ∧ ∀ o M', R o M' → ∀ H', KT H H' → AbsM K H' M' → Q o H'
noncomputable def DPO (X : Cx) (e : Option Expr) (t : DTO) : Prop := PO X e (upO X.K t)
structure JO (X : Cx) (e : Option Expr) (t : DTO) : Prop where
  out : DPO X e t
noncomputable def dNoPart : DTO := fun _ M R => R none M
noncomputable def dPart (t : DTE) : DTO := fun e M R => t e M fun x M1 => ∃ i, x = .int i ∧ R (some i) M1
theorem PO.imp {X : Cx} {e : Option Expr} {t t' : TO} (h : PO X e t) (i : ∀ σ H Q, t' σ H Q → t σ H Q) : PO X e t' := fun pins s σ H Q I q => h pins s σ H Q I (i σ H Q q)
section
variable {X : Cx} {e : Expr} {te : DTE} {lo hi : Option Expr} {tl th : DTO} {pos p2 : Pos}
theorem dpo_none : DPO X none dNoPart := PO.imp po_none (by rintro σ H Q ⟨e, M, R, ok, am, t, f⟩; exact f none M t H (KT.refl H) am)
theorem jdpo_none  : JO X none dNoPart := ⟨dpo_none ⟩
theorem dpo_some (h : DPE X e te) : DPO X (some e) (dPart te) := PO.imp (po_some h) (by rintro σ H Q ⟨e, M, R, ok, am, t, f⟩; exact ⟨e, M, _, ok, am, t, fun x M1 ⟨i, z, r⟩ v H1 k1 a1 r1 => by
  subst z; cases r1
  exact ⟨i, rfl, f (some i) M1 r H1 k1 a1⟩⟩)
theorem jdpo_some (h : JE X e te) : JO X (some e) (dPart te) := ⟨dpo_some (h := h.out)⟩
noncomputable def cutD (ds : List D) (lo hi : Option Int) : List D := (ds.drop (HT.sIx ds.length 0 lo)).take (HT.sIx ds.length ds.length hi - HT.sIx ds.length 0 lo)
theorem HasL.cut {K : PySem.W.Frag} {H : Hp} {xs : List V} {ds : List D} (h : HasL K H xs ds) (lo hi : Option Int) : HasL K H (cutV xs lo hi) (cutD ds lo hi) := by
  unfold cutV cutD
  rw [h.length]
  exact (h.drop _).take _
end
end DL

namespace DL
open PySem PySem.Spec L2
open PyProof.Rows hiding St

section
variable {X : Cx} {ta : DTA}
end
end DL

namespace DL
open PySem PySem.Spec L2
open PyProof.Rows hiding St

noncomputable def delM (M : Mem) (a : Addr) : Mem := fun b => if b = a then none else M b
theorem delM_ne {M : Mem} {a b : Addr} (h : b ≠ a) : delM M a b = M b := by unfold delM; rw [if_neg h]
section
variable {K : PySem.W.Frag} {H : Hp} {M : Mem} {p : Addr}
theorem AbsM.at {o : HO} (h : AbsM K H M) (k : KT0 H (upd H p o)) (hp : M p = none) : AbsM K (upd H p o) M := fun a u m => by
  cases u with
  | lst ds =>
    obtain ⟨xs, z, l⟩ := h a _ m
    have hn : a ≠ p := by intro e; subst e; rw [hp] at m; cases m
    exact ⟨xs, by rw [upd_ne hn]; exact z, l.mono0 k⟩
theorem AbsM.del (h : AbsM K H M) : AbsM K H (delM M p) := fun a u m => by
  by_cases e : a = p
  · subst e; unfold delM at m; rw [if_pos rfl] at m; cases m
  · rw [delM_ne e] at m; exact h a u m
theorem delM_same : delM M p p = none := by unfold delM; rw [if_pos rfl]
theorem AbsM.none_ext {φ : Heap → Prop} (h : AbsM K H M) (e : H p = some (.ext φ)) : M p = none := by
  cases q : M p with
  | none => rfl
  | some o =>
    cases o with
    | lst ds => obtain ⟨xs, z, _⟩ := h p _ q; rw [e] at z; cases z
end
section
variable {X : Cx} {x : Expr} {t : DTE} {es : List Expr} {tr : DTA} {pos : Pos}
noncomputable def dFgt (t : DTE) : DTE := fun e M R => t e M fun x M1 => ∃ M2 : Mem, (∀ b o, M2 b = some o → M1 b = some o) ∧ R x M2
theorem d_fgt (h : DPE X x t) : DPE X x (dFgt t) := PE.imp h (by rintro σ H Q ⟨e, M, R, ok, am, t, f⟩; exact ⟨e, M, _, ok, am, t, fun d M1 ⟨M2, hs, r⟩ v H1 k1 a1 r1 => f d M2 r v H1 k1 (fun a o q => a1 a o (hs a o q)) r1⟩)
theorem jd_fgt (h : JE X x t) : JE X x (dFgt t) := ⟨d_fgt (h := h.out)⟩
noncomputable def dLstV (t : DTA) : DTE := fun e M R => t e M fun ds M1 => ds.length ≤ sizeLine ∧ R (.vl ds) M1
theorem frz_new {K : PySem.W.Frag} {H0 H : Hp} {M : Mem} {R : DK} {Q : VK} {vs : List V} {ds : List D} (f : FitV K H0 R Q) (k : KT H0 H) (am : AbsM K H M) (l : HasL K H vs ds) (r : R (.vl ds) M) (p : Addr) (hp : H p = none) :
    ∃ q xs, V.ref p = .ref q ∧ upd H p (.lst vs) q = some (.lst xs) ∧ ∀ o, Q (.ref p) (upd (upd H p (.lst vs)) q (.frz o (.lst xs))) :=
  ⟨p, vs, rfl, upd_same, fun o => by
    rw [upd_upd]
    exact f _ M r _ _ (k.trans (KT.alloc hp)) (am.alloc hp) (.vl (.inl ⟨o, upd_same⟩) (l.mono (KT.alloc hp)))⟩
theorem d_lstV (h : DPA X es tr) : DPE X (.List es pos) (dLstV tr) :=
  (pe_frz (pe_lst h)).imp (by rintro σ H Q ⟨e, M, R, ok, am, t, f⟩; exact ⟨e, M, _, ok, am, t, fun ds M1 ⟨hz, h1⟩ vs H1 k1 a1 r1 => ⟨by rw [r1.length]; exact hz, fun p hp => frz_new f k1 a1 r1 h1 p hp⟩⟩)
theorem jd_lstV (h : JA X es tr) : JE X (.List es pos) (dLstV tr) := ⟨d_lstV (h := h.out)⟩

noncomputable def gCatV (x y : D) (M : Mem) (R : DK) : Prop := ∃ xs ys, itemsD M x = some xs ∧ itemsD M y = some ys ∧ xs.length + ys.length ≤ sizeLine ∧ R (.vl (xs ++ ys)) M
noncomputable def dCatV (ta tb : DTE) : DTE := fun e M R => ta e M fun x M1 => tb e M1 fun y M2 => gCatV x y M2 R
theorem d_catV {a b : Expr} {ta tb : DTE} (ha : DPE X a ta) (hb : DPE X b tb) : DPE X (.BinOp a .Add b pos) (dCatV ta tb) :=
  (pe_frz (pe_op op_catS ha hb)).imp (by rintro σ H Q ⟨e, M, R, ok, am, t, f⟩; exact ⟨e, M, _, ok, am, t, fun x M1 h1 v H1 k1 a1 r1 => ⟨e, M1, _, ok.mono k1, a1, h1, fun y M2 ⟨xs, ys, e1, e2, hz, r⟩ u H2 k2 a2 r2 => by
    obtain ⟨a, vs, rfl, s1, l1⟩ := itemsD_has a2 (r1.mono k2) e1
    obtain ⟨b, ws, rfl, s2, l2⟩ := itemsD_has a2 r2 e2
    exact ⟨a, b, vs, ws, rfl, rfl, s1, s2, by rw [l1.length, l2.length]; exact hz, fun p hp => frz_new f (k1.trans k2) a2 (l1.append l2) r p hp⟩⟩⟩)
theorem jd_catV {a b : Expr} {ta tb : DTE} (ha : JE X a ta) (hb : JE X b tb) : JE X (.BinOp a .Add b pos) (dCatV ta tb) := ⟨d_catV (ha := ha.out) (hb := hb.out)⟩

noncomputable def gSlV (x : D) (lo hi : Option Int) (M : Mem) (R : DK) : Prop := (∃ ds, itemsD M x = some ds ∧ R (.vl (cutD ds lo hi)) M) ∨ ∃ ds, x = .tup ds ∧ ¬ (HT.sIx ds.length 0 lo = 0 ∧ HT.sIx ds.length ds.length hi = ds.length) ∧ R (.tup (cutD ds lo hi)) M
noncomputable def dSlV (te : DTE) (tl th : DTO) : DTE := fun e M R => te e M fun x M1 => tl e M1 fun l M2 => th e M2 fun u M3 => gSlV x l u M3 R
theorem d_sliceV {e : Expr} {te : DTE} {lo hi : Option Expr} {tl th : DTO} {p2 : Pos} (he : DPE X e te) (hl : DPO X lo tl) (hu : DPO X hi th) : DPE X (.Subscript e (.Slice lo hi none p2) pos) (dSlV te tl th) :=
  (pe_frzM (pe_slice (SlR.or sl_list sl_tup) he hl hu)).imp (by rintro σ H Q ⟨e, M, R, ok, am, t, f⟩; exact ⟨e, M, _, ok, am, t, fun x M1 h1 v H1 k1 a1 r1 => ⟨e, M1, _, ok.mono k1, a1, h1, fun l M2 h2 H2 k2 a2 => ⟨e, M2, _, (ok.mono k1).mono k2, a2, h2, fun u M3 h3 H3 k3 a3 => by
    rcases h3 with ⟨ds, hi, r⟩ | ⟨ds, rfl, hw, r⟩
    · obtain ⟨a, xs, rfl, sq, lx⟩ := itemsD_has a3 ((r1.mono k2).mono k3) hi
      exact .inl ⟨a, xs, rfl, sq, fun p hp => .inl (frz_new f (k1.trans (k2.trans k3)) a3 (lx.cut l u) r p hp)⟩
    · cases (r1.mono k2).mono k3 with
      | tup sq lx =>
        exact .inr ⟨_, _, rfl, sq, by rw [lx.length]; exact hw, fun p hp => .inr (f _ M3 r _ _ ((k1.trans (k2.trans k3)).trans (KT.alloc hp)) (a3.alloc hp) (.tup (SqT.of upd_same) ((lx.cut l u).mono (KT.alloc hp))))⟩⟩⟩⟩)
theorem jd_sliceV {e : Expr} {te : DTE} {lo hi : Option Expr} {tl th : DTO} {p2 : Pos} (he : JE X e te) (hl : JO X lo tl) (hu : JO X hi th) : JE X (.Subscript e (.Slice lo hi none p2) pos) (dSlV te tl th) := ⟨d_sliceV (he := he.out) (hl := hl.out) (hu := hu.out)⟩

end
section
variable {X : Cx} {e : Expr} {es : List Expr} {t : DTA} {x : Str} {p pos : Pos}
variable {te : DTE} {pos' : Pos}
end
section
variable {X : Cx}

end

noncomputable abbrev DTIfs := Ev → Mem → (Bool → Mem → Prop) → Prop
noncomputable abbrev DPIfs (X : Cx) (ifs : List Expr) (t : DTIfs) : Prop := PIfs X ifs (upT X.K t)
structure JIfs (X : Cx) (ifs : List Expr) (t : DTIfs) : Prop where
  out : DPIfs X ifs t
noncomputable def dYes : DTIfs := fun _ M R => R true M
theorem PIfs.imp {X : Cx} {ifs : List Expr} {t t' : TT} (h : PIfs X ifs t) (i : ∀ σ H Q, t' σ H Q → t σ H Q) : PIfs X ifs t' := fun pins s σ H Q I q => h pins s σ H Q I (i σ H Q q)
theorem difs_nil {X : Cx} : DPIfs X [] dYes := PIfs.imp pifs_nil (by rintro σ H Q ⟨e, M, R, ok, am, t, f⟩; exact f true M t H (KT.refl H) am)
theorem jdifs_nil {X : Cx} : JIfs X [] dYes := ⟨difs_nil ⟩
theorem difs_one {X : Cx} {c : Expr} {t : DTT} (h : DPT X c t) : DPIfs X [c] t := pifs_one h
theorem jdifs_one {X : Cx} {c : Expr} {t : DTT} (h : JT X c t) : JIfs X [c] t := ⟨difs_one (h := h.out)⟩
structure CompW (e0 : Ev) (g : DTG) (tc : DTIfs) (te : DTE) (ds : List D) (stay : Mem → Prop) (M1 : Mem) (E : List D → Mem → Prop) (W : Nat → List D → Mem → Prop) : Prop where
  start : W 0 [] M1
  stays : ∀ i ys M, i ≤ ds.length → W i ys M → stay M
  turn : ∀ (i : Nat) (d : D) ys M, ds[i]? = some d → W i ys M → g d e0 M fun e2 M2 => tc e2 M2 fun b M3 => if b = true then te e2 M3 fun v M4 => ys.length < sizeLine ∧ W (i + 1) (ys ++ [v]) M4 else W (i + 1) ys M3
  done : ∀ ys M, W ds.length ys M → E ys M
noncomputable def CompV (e0 : Ev) (g : DTG) (tc : DTIfs) (te : DTE) (ds : List D) (stay : Mem → Prop) (M1 : Mem) (R : DK) : Prop := ∃ W, CompW e0 g tc te ds stay M1 (fun ys M => R (.vl ys) M) W
noncomputable def dCompV (n : Nat) (caps : List Nat) (ti : DTI) (g : DTG) (tc : DTIfs) (te : DTE) : DTE := fun e M R => ti e M fun ds stay M1 => CompV (capE n caps e) g tc te ds stay M1 R
section
variable {X : Cx} {elt tg iter : Expr} {scope : Scope} {tgs cps : List Str} {caps : List Nat} {ti : DTI} {g : DTG} {tc : DTIfs} {te : DTE} {pos : Pos} {ifs : List Expr}
noncomputable def CWH (K : PySem.W.Frag) (H1 : Hp) (D0 : Addr) (len : Nat) (W : Nat → List D → Mem → Prop) (i m : Nat) (H' : Hp) : Prop := m = len - i ∧ i ≤ len ∧ ∃ M' ys xs, KT H1 H' ∧ AbsM K H' M' ∧ H' D0 = some (.lst xs) ∧ M' D0 = none ∧ HasL K H' xs ys ∧ W i ys M'
theorem comp_loop {K : PySem.W.Frag} {H1 : Hp} {J : It} {ds : List D} {stay : Mem → Prop} {M1 : Mem} {n : Nat} {caps : List Nat} {σ : St} {e : Ev} {E : List D → Mem → Prop} {W : Nat → List D → Mem → Prop} {D0 : Addr} {Qd : Hp → Prop} (ok : EnvOk K H1 σ e) (a1 : AbsM K H1 M1) (wk : Walk K H1 J ds stay) (hD : H1 D0 = none)
    (C : CompW (capE n caps e) g tc te ds stay M1 E W) (fin : ∀ ys M xs H', KT H1 H' → AbsM K H' M → H' D0 = some (.lst xs) → M D0 = none → HasL K H' xs ys → E ys M → Qd H') (i m : Nat) (H2 : Hp) (w : CWH K H1 D0 ds.length W i m H2) :
    (J.stop i H2 ∧ Qd H2) ∨ (J.go i H2 ∧ ∀ x H', J.yld i H2 x H' → (∃ p, tHideG p (upG K g) x (capF n caps σ) H' fun σ2 H3 => ∃ p, tHideT p (upT K tc) σ2 H3 fun b H3' => if b = true then ∃ p, tHide p (up K te) σ2 H3' fun v H4 =>
      ∃ ys, H4 D0 = some (.lst ys) ∧ ys.length < sizeLine ∧ ∃ m', m' < m ∧ CWH K H1 D0 ds.length W (i + 1) m' (upd H4 D0 (.lst (ys ++ [v]))) else ∃ m', m' < m ∧ CWH K H1 D0 ds.length W (i + 1) m' H3')) := by
  obtain ⟨rfl, hi, M2, ys, xs, k2, a2, hx, hM, lx, w2⟩ := w
  have a2' : AbsM K H2 (updM M2 D0 (.lst ys)) := fun a o q => by
    by_cases e : a = D0
    · subst e; rw [updM_same] at q; cases q; exact ⟨xs, hx, lx⟩
    · rw [updM_ne e] at q; exact a2 a o q
  have st := wk.up _ D0 (.lst ys) (C.stays i ys M2 hi w2) hM
  by_cases hlt : i < ds.length
  · refine .inr ⟨wk.go i H2 _ hlt k2 a2' st, fun y H' yl => ?_⟩
    obtain ⟨d, hd, k3, a3', r⟩ := wk.yld i H2 _ y H' hlt k2 a2' st yl
    obtain ⟨xs', hx', lx'⟩ := a3'.lst updM_same
    have a3 : AbsM K H' M2 := fun a o q => by
      have e : a ≠ D0 := by intro e; subst e; rw [hM] at q; cases q
      exact a3' a o (by rw [updM_ne e]; exact q)
    have kh : KT H' (upd H' D0 (hidO D0 xs')) := KT.any hx'
    have k1h := (k2.trans k3).trans kh
    have same : ∀ {H3 : Hp}, H3 D0 = some (hidO D0 xs') → upd (upd H3 D0 (.lst xs')) D0 (hidO D0 xs') = H3 := fun {H3} q => by
      rw [upd_upd]; funext b; by_cases e : b = D0
      · subst e; rw [upd_same, q]
      · rw [upd_ne e]
    refine ⟨D0, xs', hx', d, capE n caps e, M2, _, r.mono kh, env_cap n caps (ok.mono k1h), a3.at kh.toKT0 hM, C.turn i d ys M2 hd w2, fun e3 M3 h3 σ3 H3 k4 a4 ok3 => ?_⟩
    have q3 : H3 D0 = some (hidO D0 xs') := k4.ex D0 _ upd_same
    refine ⟨q3, D0, xs', upd_same, ?_⟩
    rw [same q3]
    refine ⟨e3, M3, _, ok3, a4, h3, fun b M4 h4 H4 k5 a5 => ?_⟩
    have q4 : H4 D0 = some (hidO D0 xs') := k5.ex D0 _ q3
    refine ⟨q4, ?_⟩
    have kk := k1h.trans (k4.trans k5)
    cases b with
    | false =>
      have h4' : W (i + 1) ys M4 := h4
      show ∃ m', m' < ds.length - i ∧ CWH K H1 D0 ds.length W (i + 1) m' (upd H4 D0 (.lst xs'))
      exact ⟨ds.length - (i + 1), by omega, rfl, hlt, M4, ys, xs', kk.new hD, a5.at (KT0.ext q4) (a5.none_ext q4), upd_same, a5.none_ext q4, (lx'.mono (kh.trans (k4.trans k5))).mono0 (KT0.ext q4), h4'⟩
    | true =>
      show ∃ p, tHide p (up K te) σ3 (upd H4 D0 (.lst xs')) _
      refine ⟨D0, xs', upd_same, ?_⟩
      rw [same q4]
      refine ⟨e3, M4, _, ok3.mono k5, a5, h4, fun dv M5 ⟨hz, w5⟩ vv H5 k6 a6 r6 => ?_⟩
      have q5 : H5 D0 = some (hidO D0 xs') := k6.ex D0 _ q4
      refine ⟨q5, xs', upd_same, by rw [lx'.length]; exact hz, ds.length - (i + 1), by omega, rfl, hlt, M5, ys ++ [dv], xs' ++ [vv], ?_, ?_, upd_same, a6.none_ext q5, ?_, w5⟩
      · rw [upd_upd]; exact (kk.trans k6).new hD
      · rw [upd_upd]; exact a6.at (KT0.ext q5) (a6.none_ext q5)
      · rw [upd_upd]; exact ((lx'.mono (kh.trans (k4.trans (k5.trans k6)))).mono0 (KT0.ext q5)).append (.cons (r6.mono0 (KT0.ext q5)) .nil)
  · have e' : i = ds.length := by omega
    subst e'
    exact .inl ⟨wk.stop _ H2 _ (Nat.le_refl _) k2 a2' st, fin ys M2 xs H2 k2 a2 hx hM lx (C.done ys M2 w2)⟩
theorem d_compV (caps : List Nat) (tgs cps : List Str) (hc : X.calm = true) (hcell : ∀ x ∈ scope.names, x.2 ≠ .cell) (hkind : scope.kind = .function) (hnames : ∀ x ∈ scope.names, x.2 = .local → scope.names.lookup x.1 = some .local)
    (hfr : ∀ x ∈ scope.names, x.2 = .free → x.1 ∈ cps) (hN : caps.map (fun i => X.N[i]?) = cps.map some) (hX : ∀ x ∈ cps, X.env.scope.names.lookup x = some .cell ∧ scope.names.lookup x = some .free)
    (hsc : ∀ x ∈ cps, (relabel scope X.env).names.lookup x = some .cell ∨ (relabel scope X.env).names.lookup x = some .free)
    (hi : DPI X tg iter ti) (hg : ∀ cl s3 H3 C fp pins, DPG (cxF X scope cl (tgs ++ cps) s3 H3 C fp pins) tg g) (hq : ∀ cl s3 H3 C fp pins, DPIfs (cxF X scope cl (tgs ++ cps) s3 H3 C fp pins) ifs tc) (he : ∀ cl s3 H3 C fp pins, DPE (cxF X scope cl (tgs ++ cps) s3 H3 C fp pins) elt te)
    (hs : ∀ x, foldedSetIterable iter X.env x = pure x := by intro _; rfl) : DPE X (.ListComp elt [⟨tg, iter, ifs, 0⟩] scope pos) (dCompV tgs.length caps ti g tc te) :=
  (pe_frz (pe_compF (tgs := tgs) (cps := cps) (caps := caps) hc hcell hkind hnames hfr hN hX hsc hi (fun cl s3 H3 C fp pins => pg_hide (hg cl s3 H3 C fp pins)) (fun cl s3 H3 C fp pins => pifs_hide (hq cl s3 H3 C fp pins)) (fun cl s3 H3 C fp pins => pe_hide (he cl s3 H3 C fp pins)) hs)).imp (by rintro σ H Q ⟨e, M, R, ok, am, t, f⟩; exact ⟨e, M, _, ok, am, t, fun ds stay M1 hW H1 k1 a1 J wk => by
    intro D0 hD
    obtain ⟨W, C⟩ := hW
    refine ⟨fun i m H' => CWH X.K H1 D0 ds.length W i m H', ⟨ds.length, by simp, Nat.zero_le _, M1, [], [], KT.alloc hD, a1.alloc hD, upd_same, a1.fresh hD, .nil, C.start⟩, fun i m H2 w => comp_loop (Qd := fun H' => ∃ p xs, V.ref D0 = .ref p ∧ H' p = some (.lst xs) ∧ ∀ o, Q (.ref D0) (upd H' p (.frz o (.lst xs)))) (ok.mono k1) a1 wk hD C (fun ys M2 xs H' k2 a2 hx hM lx r => ?_) i m H2 w⟩
    exact ⟨D0, xs, rfl, hx, fun o => f _ M2 r _ _ (k1.trans (k2.trans (KT.any hx))) (a2.at (KT.any hx).toKT0 hM) (.vl (.inl ⟨o, upd_same⟩) (lx.mono (KT.any hx)))⟩⟩)
theorem jd_compV (caps : List Nat) (tgs cps : List Str) (hc : X.calm = true) (hcell : ∀ x ∈ scope.names, x.2 ≠ .cell) (hkind : scope.kind = .function) (hnames : ∀ x ∈ scope.names, x.2 = .local → scope.names.lookup x.1 = some .local)
    (hfr : ∀ x ∈ scope.names, x.2 = .free → x.1 ∈ cps) (hN : caps.map (fun i => X.N[i]?) = cps.map some) (hX : ∀ x ∈ cps, X.env.scope.names.lookup x = some .cell ∧ scope.names.lookup x = some .free)
    (hsc : ∀ x ∈ cps, (relabel scope X.env).names.lookup x = some .cell ∨ (relabel scope X.env).names.lookup x = some .free)
    (hi : JI X tg iter ti) (hg : ∀ cl s3 H3 C fp pins, JG (cxF X scope cl (tgs ++ cps) s3 H3 C fp pins) tg g) (hq : ∀ cl s3 H3 C fp pins, JIfs (cxF X scope cl (tgs ++ cps) s3 H3 C fp pins) ifs tc) (he : ∀ cl s3 H3 C fp pins, JE (cxF X scope cl (tgs ++ cps) s3 H3 C fp pins) elt te)
    (hs : ∀ x, foldedSetIterable iter X.env x = pure x := by intro _; rfl) : JE X (.ListComp elt [⟨tg, iter, ifs, 0⟩] scope pos) (dCompV tgs.length caps ti g tc te) := ⟨d_compV (caps := caps) (tgs := tgs) (cps := cps) (hc := hc) (hcell := hcell) (hkind := hkind) (hnames := hnames) (hfr := hfr) (hN := hN) (hX := hX) (hsc := hsc) (hi := hi.out) (hg := (fun v0 v1 v2 v3 v4 v5 => (hg v0 v1 v2 v3 v4 v5).out)) (hq := (fun v0 v1 v2 v3 v4 v5 => (hq v0 v1 v2 v3 v4 v5).out)) (he := (fun v0 v1 v2 v3 v4 v5 => (he v0 v1 v2 v3 v4 v5).out)) (hs := hs)⟩
theorem ds_setCompV {i : Nat} {x : Str} {pos' pos2 : Pos} (caps : List Nat) (tgs cps : List Str) (hNd : X.N.Nodup) (hxi : X.N[i]? = some x) (hx : Loc X.env.scope x) (hc : X.calm = true) (hcell : ∀ x ∈ scope.names, x.2 ≠ .cell) (hkind : scope.kind = .function) (hnames : ∀ x ∈ scope.names, x.2 = .local → scope.names.lookup x.1 = some .local)
    (hfr : ∀ x ∈ scope.names, x.2 = .free → x.1 ∈ cps) (hN : caps.map (fun i => X.N[i]?) = cps.map some) (hX : ∀ x ∈ cps, X.env.scope.names.lookup x = some .cell ∧ scope.names.lookup x = some .free)
    (hsc : ∀ x ∈ cps, (relabel scope X.env).names.lookup x = some .cell ∨ (relabel scope X.env).names.lookup x = some .free)
    (hi : DPI X tg iter ti) (hg : ∀ cl s3 H3 C fp pins, DPG (cxF X scope cl (tgs ++ cps) s3 H3 C fp pins) tg g) (hq : ∀ cl s3 H3 C fp pins, DPIfs (cxF X scope cl (tgs ++ cps) s3 H3 C fp pins) ifs tc) (he : ∀ cl s3 H3 C fp pins, DPE (cxF X scope cl (tgs ++ cps) s3 H3 C fp pins) elt te)
    (hsw : swapsWith (.ListComp elt [⟨tg, iter, ifs, 0⟩] scope pos) (some (.Name x pos')) pos2.line X.env = pure true := by rfl) (hs : ∀ x, foldedSetIterable iter X.env x = pure x := by intro _; rfl) (hf : X.fn x = true ∨ X.env.scope.names.lookup x = some .local := by first | exact .inl rfl | exact .inr rfl | assumption) : DPS X (.Assign [.Name x pos'] (.ListComp elt [⟨tg, iter, ifs, 0⟩] scope pos) pos2) (dAsg (dCompV tgs.length caps ti g tc te) (dgName i)) :=
  (ps_setU (pu_frz (pu_compF (tgs := tgs) (cps := cps) (caps := caps) hc hcell hkind hnames hfr hN hX hsc hi (fun cl s3 H3 C fp pins => pg_hide (hg cl s3 H3 C fp pins)) (fun cl s3 H3 C fp pins => pifs_hide (hq cl s3 H3 C fp pins)) (fun cl s3 H3 C fp pins => pe_hide (he cl s3 H3 C fp pins)) hNd hxi hx hf hs)) hsw).imp (by rintro E σ H ⟨e, M, F, ok, am, t, f⟩; exact ⟨e, M, _, ok, am, t, fun ds stay M1 hW H1 k1 a1 J wk => by
    intro D0 hD
    obtain ⟨W, C⟩ := hW
    refine ⟨fun i m H' => CWH X.K H1 D0 ds.length W i m H', ⟨ds.length, by simp, Nat.zero_le _, M1, [], [], KT.alloc hD, a1.alloc hD, upd_same, a1.fresh hD, .nil, C.start⟩, fun j m H2 w => comp_loop (Qd := fun H' => ∃ p xs, V.ref D0 = .ref p ∧ H' p = some (.lst xs) ∧ ∀ o, E.nx (σ.set i (some (.ref D0))) (upd H' p (.frz o (.lst xs)))) (ok.mono k1) a1 wk hD C (fun ys M2 xs H' k2 a2 hx hM lx r => ?_) j m H2 w⟩
    exact ⟨D0, xs, rfl, hx, fun o => f.nx _ M2 r _ _ (k1.trans (k2.trans (KT.any hx))) (a2.at (KT.any hx).toKT0 hM) ((ok.mono (k1.trans (k2.trans (KT.any hx)))).set (.vl (.inl ⟨o, upd_same⟩) (lx.mono (KT.any hx))) i)⟩⟩)
theorem jds_setCompV {i : Nat} {x : Str} {pos' pos2 : Pos} (caps : List Nat) (tgs cps : List Str) (hNd : X.N.Nodup) (hxi : X.N[i]? = some x) (hx : Loc X.env.scope x) (hc : X.calm = true) (hcell : ∀ x ∈ scope.names, x.2 ≠ .cell) (hkind : scope.kind = .function) (hnames : ∀ x ∈ scope.names, x.2 = .local → scope.names.lookup x.1 = some .local)
    (hfr : ∀ x ∈ scope.names, x.2 = .free → x.1 ∈ cps) (hN : caps.map (fun i => X.N[i]?) = cps.map some) (hX : ∀ x ∈ cps, X.env.scope.names.lookup x = some .cell ∧ scope.names.lookup x = some .free)
    (hsc : ∀ x ∈ cps, (relabel scope X.env).names.lookup x = some .cell ∨ (relabel scope X.env).names.lookup x = some .free)
    (hi : JI X tg iter ti) (hg : ∀ cl s3 H3 C fp pins, JG (cxF X scope cl (tgs ++ cps) s3 H3 C fp pins) tg g) (hq : ∀ cl s3 H3 C fp pins, JIfs (cxF X scope cl (tgs ++ cps) s3 H3 C fp pins) ifs tc) (he : ∀ cl s3 H3 C fp pins, JE (cxF X scope cl (tgs ++ cps) s3 H3 C fp pins) elt te)
    (hsw : swapsWith (.ListComp elt [⟨tg, iter, ifs, 0⟩] scope pos) (some (.Name x pos')) pos2.line X.env = pure true := by rfl) (hs : ∀ x, foldedSetIterable iter X.env x = pure x := by intro _; rfl) (hf : X.fn x = true ∨ X.env.scope.names.lookup x = some .local := by first | exact .inl rfl | exact .inr rfl | assumption) : JS X (.Assign [.Name x pos'] (.ListComp elt [⟨tg, iter, ifs, 0⟩] scope pos) pos2) (dAsg (dCompV tgs.length caps ti g tc te) (dgName i)) := ⟨ds_setCompV (caps := caps) (tgs := tgs) (cps := cps) (hNd := hNd) (hxi := hxi) (hx := hx) (hc := hc) (hcell := hcell) (hkind := hkind) (hnames := hnames) (hfr := hfr) (hN := hN) (hX := hX) (hsc := hsc) (hi := hi.out) (hg := (fun v0 v1 v2 v3 v4 v5 => (hg v0 v1 v2 v3 v4 v5).out)) (hq := (fun v0 v1 v2 v3 v4 v5 => (hq v0 v1 v2 v3 v4 v5).out)) (he := (fun v0 v1 v2 v3 v4 v5 => (he v0 v1 v2 v3 v4 v5).out)) (hsw := hsw) (hs := hs) (hf := hf)⟩
end
section
variable {X : Cx} {e : Expr} {te : DTE} {p1 p2 pos pos2 : Pos}
theorem SqL.upd {K : PySem.W.Frag} {H : Hp} {a it : Addr} {xs : List V} {o : HO} (h : SqL K H a xs) (ne : a ≠ it) : SqL K (upd H it o) a xs := h.elim (fun z => .inl (by unfold Rd at z ⊢; rw [upd_ne ne]; exact z)) .inr
theorem SqK.upd {K : PySem.W.Frag} {k : Bool} {H : Hp} {a it : Addr} {xs : List V} {o : HO} (h : SqK K k H a xs) (ne : a ≠ it) : SqK K k (L2.upd H it o) a xs := by
  cases k with
  | true => exact SqL.upd (show SqL K H a xs from h) ne
  | false => exact (show SqT K H a xs from h).elim (fun z => .inl (by unfold Rd at z ⊢; rw [upd_ne ne]; exact z)) .inr
noncomputable def dgTupL (n : Nat) (t : DTGs) : DTG := fun d e M R => ∃ ds, itemsD M d = some ds ∧ ds.length = n ∧ t ds e M R
theorem dg_tupL {xs : List Expr} {k : Nat} {t : DTGs} {n : Nat} (hc : X.calm = true) (h : DPGs X xs t)
    (hn : (assignEach xs X.env).length = n := by rfl) (hst : (assignEach xs X.env).findIdx? (·.1) = none := by rfl) : DPG X (.Tuple xs k pos) (dgTupL n t) :=
  PG.imp (pg_tupL hc h hn hst) (by
    rintro v σ H Q ⟨d, e, M, R, r, ok, am, ⟨ds, hi, hl, g⟩, f⟩
    obtain ⟨a, xs, e1, sq, lx⟩ := itemsD_has am r hi
    exact ⟨a, xs, e1, sq, by rw [lx.length]; exact hl, ds, e, M, R, lx, ok, am, g, f⟩)
theorem jdg_tupL {xs : List Expr} {k : Nat} {t : DTGs} {n : Nat} (hc : X.calm = true) (h : JGs X xs t)
    (hn : (assignEach xs X.env).length = n := by rfl) (hst : (assignEach xs X.env).findIdx? (·.1) = none := by rfl) : JG X (.Tuple xs k pos) (dgTupL n t) := ⟨dg_tupL (hc := hc) (h := h.out) (hn := hn) (hst := hst)⟩
end
end DL
namespace L2
open PySem PySem.Spec PyProof.Rows

section
variable {X : Cx} {pos : Pos}
end
end L2
namespace DL
open PySem PySem.Spec L2
open PyProof.Rows hiding St
end DL

namespace DL
open PySem PySem.Spec L2
open PyProof.Rows hiding St

section
variable {X : Cx}
end
end DL
namespace DL
open PySem PySem.Spec L2
open PyProof.Rows hiding St

section
variable {X : Cx}
end
section
variable {X : Cx} {a b c : Expr} {ta tb tc : DTE} {pos : Pos}
end

section
variable {K : PySem.W.Frag}
end
end DL
namespace DL
open PySem PySem.Spec L2
open PyProof.Rows hiding St

section
variable {X : Cx} {x : Expr} {t : DTE}
end
end DL

namespace DL
open PySem PySem.Spec L2
open PyProof.Rows hiding St
noncomputable def nones (X : Cx) : St := List.replicate X.N.length none
noncomputable def Cov (B s0 : Heap) (H' : Hp) (fs : List Addr) (h : Heap) : Prop := ∀ b o, h.get? b = some o → ((∃ u, H' b = some u) ∨ ∃ o0, s0.get? b = some o0) → b ∉ fs → B.get? b = some o
noncomputable def CXr (P : Program) (w : World) (base : Heap) : CXT := fun outer H s E e s' => ∃ a cls a0 H' B, e = .ref a ∧ s'.os = s.os ∧ AllBare s'.gens ∧ Un (frs outer) [] H H' s.heap s'.heap ∧ HOk P w H' s'.heap ∧ KT H H' ∧
  base.StaysIn B ∧ Cov B s.heap H' (frs outer) s'.heap ∧ Heap.FlyingW B outer a cls a0 s'.heap ∧ E cls none H'
noncomputable def XP (X : Cx) (mk : Bool) (EX : Value → Hp → Prop) : Value → Shared → Prop := fun e s' =>
  (mk = true ∧ ∃ a cls h vs H', e = .ref a ∧ EX cls H' ∧ Heap.MadeExcOf h s'.heap a cls vs ∧ Inv X [] (nones X) H' { s' with heap := h }) ∨
  (∃ pins σ Hc sc, Inv X pins σ Hc sc ∧ CXr X.prog X.w X.base X.stack Hc sc (fun cls _ H' => EX cls H') e s')
section
variable {P : Program} {w : World} {K : PySem.W.Frag} {mg : Str → Option Value} {base : Heap} {N : List Str} {qual : Str} {scope : Scope} {f : Addr} {cd : Value} {A : Around} {outer : List Env} {s : Shared} {H : Hp} {E : XK}
end
noncomputable def xN (x : Str) : Value := .str x 0
noncomputable def EXof (X : Cx) (H₀ : Hp) (Y : DXK) : Value → Hp → Prop := fun c H' => KT H₀ H' ∧ ∃ (x : Str) (C : Addr) (M' : Mem), c = .ref C ∧ X.mg x = some (.ref C) ∧ AbsM X.K H' M' ∧ Y (xN x) M'
noncomputable abbrev Cx.ex' (X : Cx) (mk : Bool) (H₀ : Hp) (Y : DXK) : Cx := X.wish (XP X mk (EXof X H₀ Y))
section
variable {X : Cx} {mk : Bool} {H₀ : Hp} {Y : DXK} {st : Stmt} {rest : List Stmt} {t u : DTS} {pos : Pos}
end
section
variable {P : Program} {w : World} {K : PySem.W.Frag} {mg : Str → Option Value} {base : Heap}
end
section
variable {X : Cx} {mk : Bool} {H₀ : Hp} {Y : DXK} {pos cpos : Pos} {x : Str} {j : Nat} {ps : List Str} {sp : DSp} {p : Pos} {e : Expr} {es : List Expr} {t : DTA}
end
section
variable {X : Cx} {mk : Bool} {H₀ : Hp} {Y : DXK} {pos : Pos} {e : Expr} {te : DTE}
end
section
variable {X : Cx} {H₀ : Hp} {Y : DXK} {pos cpos np : Pos} {x : Str} {e₀ : Expr} {te : DTE}
end
noncomputable abbrev Cx.pinned (X : Cx) (pn : List (Addr × Obj)) : Cx := { X with pn := pn }
section
variable {X : Cx} {pins pn : List (Addr × Obj)} {σ : St} {H : Hp} {s : Shared}
end
section
variable {X : Cx} {body suite : List Stmt} {b0 : Stmt} {c : Str} {np hpos pos : Pos} {tb : DXK → DTS} {ts : DTS}
end
section
variable {X : Cx} {body suite : List Stmt} {b0 : Stmt} {c : Str} {np hpos pos : Pos} {tb : DXK → DTS} {ts : DTS}
end
end DL

namespace DL
open PySem PySem.Spec L2
noncomputable def BlK (x : D) (M : Mem) (Q : Bool → Mem → Prop) : Prop := ∃ k, x = .bl k ∧ Q k M
noncomputable def IfK (c : Bool) (A B : Prop) : Prop := if c = true then A else B
noncomputable def SzK (n : Nat) (A : Prop) : Prop := n ≤ sizeLine ∧ A
noncomputable def ParK (i j : Nat) (ds : List D) (F : DEnds) (e : Ev) (M : Mem) : Prop := ∃ x y, ds = [x, y] ∧ F.nx ((e.set i (some x)).set j (some y)) M
noncomputable def SeqK (x : D) (M : Mem) (Q : List D → (Mem → Prop) → Mem → Prop) : Prop := ∃ ds, seqD M x ds ∧ Q ds (fun M' => seqD M' x ds) M
noncomputable def ZipK (xs : List D) (M : Mem) (Q : List D → (Mem → Prop) → Mem → Prop) : Prop := ∃ x y ds es, xs = [x, y] ∧ seqD M x ds ∧ seqD M y es ∧ Q (zipD ds es) (fun M' => seqD M' x ds ∧ seqD M' y es) M
noncomputable def RngK (xs : List D) (M : Mem) (Q : List D → (Mem → Prop) → Mem → Prop) : Prop := ∃ j : Int, xs = [.int j] ∧ -(2 ^ 62) ≤ j ∧ j < 2 ^ 62 ∧ Q (rangeD 0 j.toNat) (fun _ => True) M
noncomputable def ForK (g : DTG) (tb : DTS) (F : DEnds) (ds : List D) (stay : Mem → Prop) (e : Ev) (M1 : Mem) : Prop := ∃ W : Nat → Ev → Mem → Prop, W 0 e M1 ∧ (∀ i e M, i ≤ ds.length → W i e M → stay M) ∧
  (∀ (i : Nat) (d : D) e M, ds[i]? = some d → W i e M → g d e M fun e2 M2 => tb { F with nx := W (i + 1), ct := W (i + 1), bk := F.nx } e2 M2) ∧ ∀ e M, W ds.length e M → F.nx e M
noncomputable def PartK (x : D) (M : Mem) (Q : Option Int → Mem → Prop) : Prop := ∃ i, x = .int i ∧ Q (some i) M
noncomputable def FgtK (x : D) (M1 : Mem) (R : DK) : Prop := ∃ M2 : Mem, (∀ b o, M2 b = some o → M1 b = some o) ∧ R x M2
noncomputable def LMK (x : D) (M : Mem) (A : Prop) : Prop := (∃ l ds, x = .ref l ∧ M l = some (.lst ds)) ∧ A
end DL
namespace DL
open PySem PySem.Spec L2
open PyProof.Rows hiding St

section
variable {e : Ev} {M : Mem} {R : DK} {F : DEnds} {ta tb tc : DTE} {tA tB : DTT} {tr : DTA} {t u : DTS}
theorem z_C {d : D} : dC d e M R = R d M := rfl
theorem z_Op {g : DR2} : dOp g ta tb e M R = ta e M fun x M1 => tb e M1 fun y M2 => g x y M2 R := rfl
theorem z_Un {g : D → Mem → DK → Prop} : dUn g ta e M R = ta e M fun x M1 => g x M1 R := rfl
theorem z_fI {f : Int → Int → D} {i j : Int} : gF (fI f) (.int i) (.int j) M R = R (f i j) M := propext ⟨fun zz => by obtain ⟨_, h, r⟩ := zz; cases h; exact r, fun r => ⟨_, rfl, r⟩⟩
theorem z_fB {f : Bool → Bool → D} {i j : Bool} : gF (fB f) (.bl i) (.bl j) M R = R (f i j) M := propext ⟨fun zz => by obtain ⟨_, h, r⟩ := zz; cases h; exact r, fun r => ⟨_, rfl, r⟩⟩
theorem z_fS {f : Str → Str → D} {i j : Str} : gF (fS f) (.str i) (.str j) M R = R (f i j) M := propext ⟨fun zz => by obtain ⟨_, h, r⟩ := zz; cases h; exact r, fun r => ⟨_, rfl, r⟩⟩
theorem z_gI {C : Int → Int → Prop} {f : Int → Int → D} {i j : Int} : gI C f (.int i) (.int j) M R = (C i j ∧ R (f i j) M) := propext ⟨fun zz => by obtain ⟨_, _, h1, h2, c, r⟩ := zz; cases h1; cases h2; exact ⟨c, r⟩, fun ⟨c, r⟩ => ⟨_, _, rfl, rfl, c, r⟩⟩
theorem z_gU {f : Int → D} {i : Int} : gU f (.int i) M R = R (f i) M := propext ⟨fun zz => by obtain ⟨_, h, r⟩ := zz; cases h; exact r, fun r => ⟨_, rfl, r⟩⟩
theorem z_Test {Q : Bool → Mem → Prop} : dTest ta e M Q = ta e M fun x M' => BlK x M' Q := rfl
theorem z_BlK {b : Bool} {Q : Bool → Mem → Prop} : BlK (.bl b) M Q = Q b M := propext ⟨fun zz => by obtain ⟨_, h, r⟩ := zz; cases h; exact r, fun r => ⟨_, rfl, r⟩⟩
theorem z_Or {Q : Bool → Mem → Prop} : dOr tA tB e M Q = tA e M fun c M1 => IfK c (Q true M1) (tB e M1 Q) := rfl
theorem z_Not {Q : Bool → Mem → Prop} : dNot tA e M Q = tA e M fun c M1 => Q (!c) M1 := rfl
theorem z_AndV : dAndV ta tb e M R = ta e M fun x M1 => BlK x M1 fun c M1 => IfK c (tb e M1 R) (R (.bl false) M1) := rfl
theorem z_NotV : dNotV ta e M R = ta e M fun x M1 => BlK x M1 fun c M1 => R (.bl (!c)) M1 := rfl
theorem z_If : dIf tA ta tb e M R = tA e M fun c M1 => IfK c (ta e M1 R) (tb e M1 R) := rfl
theorem z_IfS : dIfS tA t u F e M = tA e M fun c M1 => IfK c (t F e M1) (u F e M1) := rfl
theorem z_Nil {Q : List D → Mem → Prop} : dNil e M Q = Q [] M := rfl
theorem z_Cons {Q : List D → Mem → Prop} : dCons ta tr e M Q = ta e M fun x M1 => tr e M1 fun xs M2 => Q (x :: xs) M2 := rfl
theorem z_Tup : dTup tr e M R = tr e M fun ds M1 => SzK ds.length (R (.tup ds) M1) := rfl
theorem z_Lst : dLst tr e M R = tr e M fun ds M1 => SzK ds.length (∀ p, M1 p = none → R (.ref p) (updM M1 p (.lst ds))) := rfl
theorem z_Ix {x y z : D} (h : ixD M x y = some z) : gIx x y M R = R z M := propext ⟨fun zz => by obtain ⟨_, h', r⟩ := zz; rw [h] at h'; cases h'; exact r, fun r => ⟨_, h, r⟩⟩
theorem z_Is {neg : Bool} {x y : D} {b : Bool} (h : isD x y = some b) : gIs neg x y M R = R (.bl (neg.xor b)) M := propext ⟨fun zz => by obtain ⟨_, h', r⟩ := zz; rw [h] at h'; cases h'; exact r, fun r => ⟨_, h, r⟩⟩
theorem z_EqC {neg : Bool} {x y : D} : gEqC neg x y M R = (cl 60 x = true ∧ cl 60 y = true ∧ R (.bl (neg.xor (@decide (x = y) (Classical.propDecidable _)))) M) := rfl
theorem z_Call {sp : DSp} {dds : List D} {Y : DXK} : dCall sp dds Y tr e M R = tr e M fun ds M1 => sp (ds ++ dds) M1 R Y := rfl
theorem z_CB {g : DRC} : dCB g tr e M R = tr e M fun ds M1 => g ds M1 R := rfl
theorem z_Next : dNext F e M = F.nx e M := rfl
theorem z_Seq : dSeq t u F e M = t { F with nx := u F } e M := rfl
theorem z_Drop : dDrop ta F e M = ta e M fun _ M1 => F.nx e M1 := rfl
theorem z_Ret : dRet ta F e M = ta e M F.rt := rfl
theorem z_Never : dNever F e M = False := rfl
variable {Q : Ev → Mem → Prop}
theorem z_gName {i : Nat} {d : D} : dgName i d e M Q = Q (e.set i (some d)) M := rfl
theorem z_gNil : dgNil [] e M Q = Q e M := propext ⟨fun h => h.2, fun h => ⟨rfl, h⟩⟩
theorem z_gCons {g : DTG} {gs : DTGs} {d : D} {ds : List D} : dgCons g gs (d :: ds) e M Q = g d e M fun e' M' => gs ds e' M' Q := propext ⟨fun zz => by obtain ⟨_, _, h, r⟩ := zz; cases h; exact r, fun r => ⟨_, _, rfl, r⟩⟩
theorem z_gTupLs {n : Nat} {gs : DTGs} {ds : List D} (h : ds.length = n) : dgTupL n gs (.vl ds) e M Q = gs ds e M Q := propext ⟨fun zz => by obtain ⟨_, h', _, r⟩ := zz; cases h'; exact r, fun r => ⟨_, rfl, h, r⟩⟩
theorem z_gTup {n : Nat} {gs : DTGs} {ds : List D} (h : ds.length = n) : dgTup n gs (.tup ds) e M Q = gs ds e M Q := propext ⟨fun zz => by obtain ⟨_, h', _, r⟩ := zz; cases h'; exact r, fun r => ⟨_, rfl, h, r⟩⟩
theorem z_gSub {to ti : DTE} {ts : DTSet} {d : D} : dgSub to ti ts d e M Q = to e M fun o M1 => ti e M1 fun i M2 => ts o i d M2 fun M3 => Q e M3 := rfl
theorem z_Asg {g : DTG} : dAsg ta g F e M = ta e M fun x M1 => g x e M1 F.nx := rfl
theorem z_Par {i j : Nat} : dPar i j tr F e M = tr e M fun ds M1 => ParK i j ds F e M1 := rfl
theorem z_ParK {i j : Nat} {x y : D} : ParK i j [x, y] F e M = F.nx ((e.set i (some x)).set j (some y)) M := propext ⟨fun zz => by obtain ⟨_, _, h, r⟩ := zz; cases h; exact r, fun r => ⟨_, _, rfl, r⟩⟩
theorem z_Abs {i : Int} : gAbs [.int i] M R = R (.int (i.natAbs : Int)) M := propext ⟨fun zz => by obtain ⟨_, h, r⟩ := zz; cases h; exact r, fun r => ⟨_, rfl, r⟩⟩
theorem z_Max {i j : Int} : gMax [.int i, .int j] M R = R (.int (max i j)) M := propext ⟨fun zz => by obtain ⟨_, _, h, r⟩ := zz; cases h; exact r, fun r => ⟨_, _, rfl, r⟩⟩
theorem z_Len {d : D} {n : Nat} (h : lenD M d = some n) : gLen [d] M R = R (.int (n : Int)) M := propext ⟨fun zz => by obtain ⟨_, _, h', h2, r⟩ := zz; cases h'; rw [h] at h2; cases h2; exact r, fun r => ⟨_, _, rfl, h, r⟩⟩
theorem z_IntB {b : Bool} : gIntB [.bl b] M R = R (.int (if b then 1 else 0)) M := propext ⟨fun zz => by obtain ⟨_, h, r⟩ := zz; cases h; exact r, fun r => ⟨_, rfl, r⟩⟩
theorem z_Isi {d : D} {ty T : String} {b : Bool} (h1 : tyD M d = some ty) (h2 : subT ty T = some b) : gIsi [d, .ty T] M R = R (.bl b) M := propext ⟨fun zz => by
  obtain ⟨_, _, _, _, h, h1', h2', r⟩ := zz
  injection h with h h'; subst h; injection h' with h'; injection h' with h'; subst h'
  rw [h1] at h1'; cases h1'; rw [h2] at h2'; cases h2'; exact r, fun r => ⟨_, _, _, _, rfl, h1, h2, r⟩⟩
theorem z_Isi2 {d : D} {ty T1 T2 : String} {b : Bool} (h1 : tyD M d = some ty) (h2 : subT2 ty T1 T2 = some b) : gIsi2 [d, .tup [.ty T1, .ty T2]] M R = R (.bl b) M := propext ⟨fun zz => by
  obtain ⟨_, _, _, _, _, h, h1', h2', r⟩ := zz
  injection h with h h'; subst h; injection h' with h'; injection h' with h'; injection h' with h3 h4; injection h3 with h3; injection h4 with h4; injection h4 with h4; subst h3; subst h4
  rw [h1] at h1'; cases h1'; rw [h2] at h2'; cases h2'; exact r, fun r => ⟨_, _, _, _, _, rfl, h1, h2, r⟩⟩
theorem z_IfK {c : Bool} {A B : Prop} : IfK c A B = ((c = true → A) ∧ (c = false → B)) := by cases c <;> simp [IfK]
theorem z_IfT {A B : Prop} : IfK true A B = A := by simp [IfK]
theorem z_IfF {A B : Prop} : IfK false A B = B := by simp [IfK]
theorem z_SzK {n : Nat} {A : Prop} (h : n ≤ 1000) : SzK n A = A := propext ⟨fun h => h.2, fun a => ⟨sl n h, a⟩⟩

theorem z_v0 {d : D} {r : Ev} : dVar 0 (some d :: r) M R = R d M := propext ⟨fun zz => by obtain ⟨_, h, q⟩ := zz; cases h; exact q, fun q => ⟨_, rfl, q⟩⟩
theorem z_s0 {y z : Option D} {r : Ev} : (y :: r : Ev).set 0 z = z :: r := rfl
theorem z_v1 {x0 : Option D} {d : D} {r : Ev} : dVar 1 (x0 :: some d :: r) M R = R d M := propext ⟨fun zz => by obtain ⟨_, h, q⟩ := zz; cases h; exact q, fun q => ⟨_, rfl, q⟩⟩
theorem z_s1 {x0 : Option D} {y z : Option D} {r : Ev} : (x0 :: y :: r : Ev).set 1 z = x0 :: z :: r := rfl
theorem z_v2 {x0 x1 : Option D} {d : D} {r : Ev} : dVar 2 (x0 :: x1 :: some d :: r) M R = R d M := propext ⟨fun zz => by obtain ⟨_, h, q⟩ := zz; cases h; exact q, fun q => ⟨_, rfl, q⟩⟩
theorem z_s2 {x0 x1 : Option D} {y z : Option D} {r : Ev} : (x0 :: x1 :: y :: r : Ev).set 2 z = x0 :: x1 :: z :: r := rfl
theorem z_v3 {x0 x1 x2 : Option D} {d : D} {r : Ev} : dVar 3 (x0 :: x1 :: x2 :: some d :: r) M R = R d M := propext ⟨fun zz => by obtain ⟨_, h, q⟩ := zz; cases h; exact q, fun q => ⟨_, rfl, q⟩⟩
theorem z_s3 {x0 x1 x2 : Option D} {y z : Option D} {r : Ev} : (x0 :: x1 :: x2 :: y :: r : Ev).set 3 z = x0 :: x1 :: x2 :: z :: r := rfl
theorem z_v4 {x0 x1 x2 x3 : Option D} {d : D} {r : Ev} : dVar 4 (x0 :: x1 :: x2 :: x3 :: some d :: r) M R = R d M := propext ⟨fun zz => by obtain ⟨_, h, q⟩ := zz; cases h; exact q, fun q => ⟨_, rfl, q⟩⟩
theorem z_s4 {x0 x1 x2 x3 : Option D} {y z : Option D} {r : Ev} : (x0 :: x1 :: x2 :: x3 :: y :: r : Ev).set 4 z = x0 :: x1 :: x2 :: x3 :: z :: r := rfl
theorem z_v5 {x0 x1 x2 x3 x4 : Option D} {d : D} {r : Ev} : dVar 5 (x0 :: x1 :: x2 :: x3 :: x4 :: some d :: r) M R = R d M := propext ⟨fun zz => by obtain ⟨_, h, q⟩ := zz; cases h; exact q, fun q => ⟨_, rfl, q⟩⟩
theorem z_s5 {x0 x1 x2 x3 x4 : Option D} {y z : Option D} {r : Ev} : (x0 :: x1 :: x2 :: x3 :: x4 :: y :: r : Ev).set 5 z = x0 :: x1 :: x2 :: x3 :: x4 :: z :: r := rfl
theorem z_v6 {x0 x1 x2 x3 x4 x5 : Option D} {d : D} {r : Ev} : dVar 6 (x0 :: x1 :: x2 :: x3 :: x4 :: x5 :: some d :: r) M R = R d M := propext ⟨fun zz => by obtain ⟨_, h, q⟩ := zz; cases h; exact q, fun q => ⟨_, rfl, q⟩⟩
theorem z_s6 {x0 x1 x2 x3 x4 x5 : Option D} {y z : Option D} {r : Ev} : (x0 :: x1 :: x2 :: x3 :: x4 :: x5 :: y :: r : Ev).set 6 z = x0 :: x1 :: x2 :: x3 :: x4 :: x5 :: z :: r := rfl
theorem z_v7 {x0 x1 x2 x3 x4 x5 x6 : Option D} {d : D} {r : Ev} : dVar 7 (x0 :: x1 :: x2 :: x3 :: x4 :: x5 :: x6 :: some d :: r) M R = R d M := propext ⟨fun zz => by obtain ⟨_, h, q⟩ := zz; cases h; exact q, fun q => ⟨_, rfl, q⟩⟩
theorem z_s7 {x0 x1 x2 x3 x4 x5 x6 : Option D} {y z : Option D} {r : Ev} : (x0 :: x1 :: x2 :: x3 :: x4 :: x5 :: x6 :: y :: r : Ev).set 7 z = x0 :: x1 :: x2 :: x3 :: x4 :: x5 :: x6 :: z :: r := rfl
theorem z_v8 {x0 x1 x2 x3 x4 x5 x6 x7 : Option D} {d : D} {r : Ev} : dVar 8 (x0 :: x1 :: x2 :: x3 :: x4 :: x5 :: x6 :: x7 :: some d :: r) M R = R d M := propext ⟨fun zz => by obtain ⟨_, h, q⟩ := zz; cases h; exact q, fun q => ⟨_, rfl, q⟩⟩
theorem z_s8 {x0 x1 x2 x3 x4 x5 x6 x7 : Option D} {y z : Option D} {r : Ev} : (x0 :: x1 :: x2 :: x3 :: x4 :: x5 :: x6 :: x7 :: y :: r : Ev).set 8 z = x0 :: x1 :: x2 :: x3 :: x4 :: x5 :: x6 :: x7 :: z :: r := rfl
theorem z_v9 {x0 x1 x2 x3 x4 x5 x6 x7 x8 : Option D} {d : D} {r : Ev} : dVar 9 (x0 :: x1 :: x2 :: x3 :: x4 :: x5 :: x6 :: x7 :: x8 :: some d :: r) M R = R d M := propext ⟨fun zz => by obtain ⟨_, h, q⟩ := zz; cases h; exact q, fun q => ⟨_, rfl, q⟩⟩
theorem z_s9 {x0 x1 x2 x3 x4 x5 x6 x7 x8 : Option D} {y z : Option D} {r : Ev} : (x0 :: x1 :: x2 :: x3 :: x4 :: x5 :: x6 :: x7 :: x8 :: y :: r : Ev).set 9 z = x0 :: x1 :: x2 :: x3 :: x4 :: x5 :: x6 :: x7 :: x8 :: z :: r := rfl
theorem z_v10 {x0 x1 x2 x3 x4 x5 x6 x7 x8 x9 : Option D} {d : D} {r : Ev} : dVar 10 (x0 :: x1 :: x2 :: x3 :: x4 :: x5 :: x6 :: x7 :: x8 :: x9 :: some d :: r) M R = R d M := propext ⟨fun zz => by obtain ⟨_, h, q⟩ := zz; cases h; exact q, fun q => ⟨_, rfl, q⟩⟩
theorem z_s10 {x0 x1 x2 x3 x4 x5 x6 x7 x8 x9 : Option D} {y z : Option D} {r : Ev} : (x0 :: x1 :: x2 :: x3 :: x4 :: x5 :: x6 :: x7 :: x8 :: x9 :: y :: r : Ev).set 10 z = x0 :: x1 :: x2 :: x3 :: x4 :: x5 :: x6 :: x7 :: x8 :: x9 :: z :: r := rfl
theorem z_v11 {x0 x1 x2 x3 x4 x5 x6 x7 x8 x9 x10 : Option D} {d : D} {r : Ev} : dVar 11 (x0 :: x1 :: x2 :: x3 :: x4 :: x5 :: x6 :: x7 :: x8 :: x9 :: x10 :: some d :: r) M R = R d M := propext ⟨fun zz => by obtain ⟨_, h, q⟩ := zz; cases h; exact q, fun q => ⟨_, rfl, q⟩⟩
theorem z_s11 {x0 x1 x2 x3 x4 x5 x6 x7 x8 x9 x10 : Option D} {y z : Option D} {r : Ev} : (x0 :: x1 :: x2 :: x3 :: x4 :: x5 :: x6 :: x7 :: x8 :: x9 :: x10 :: y :: r : Ev).set 11 z = x0 :: x1 :: x2 :: x3 :: x4 :: x5 :: x6 :: x7 :: x8 :: x9 :: x10 :: z :: r := rfl
theorem z_v12 {x0 x1 x2 x3 x4 x5 x6 x7 x8 x9 x10 x11 : Option D} {d : D} {r : Ev} : dVar 12 (x0 :: x1 :: x2 :: x3 :: x4 :: x5 :: x6 :: x7 :: x8 :: x9 :: x10 :: x11 :: some d :: r) M R = R d M := propext ⟨fun zz => by obtain ⟨_, h, q⟩ := zz; cases h; exact q, fun q => ⟨_, rfl, q⟩⟩
theorem z_s12 {x0 x1 x2 x3 x4 x5 x6 x7 x8 x9 x10 x11 : Option D} {y z : Option D} {r : Ev} : (x0 :: x1 :: x2 :: x3 :: x4 :: x5 :: x6 :: x7 :: x8 :: x9 :: x10 :: x11 :: y :: r : Ev).set 12 z = x0 :: x1 :: x2 :: x3 :: x4 :: x5 :: x6 :: x7 :: x8 :: x9 :: x10 :: x11 :: z :: r := rfl
theorem seqD_tup {M : Mem} {ds es : List D} : seqD M (.tup ds) es = (es = ds) := by
  apply propext
  constructor
  · intro h
    rcases h with h | ⟨_, h, _⟩ | h
    · injection h with h; exact h.symm
    · exact absurd h (by intro z; cases z)
    · exact absurd h (by intro z; cases z)
  · intro h; exact .inl (by rw [h])
theorem seqD_vl {M : Mem} {ds es : List D} : seqD M (.vl ds) es = (es = ds) := by
  apply propext
  constructor
  · intro h
    rcases h with h | ⟨_, h, _⟩ | h
    · exact absurd h (by intro z; cases z)
    · exact absurd h (by intro z; cases z)
    · injection h with h; exact h.symm
  · intro h; exact .inr (.inr (by rw [h]))
theorem atI_lit {ds : List D} {n : Nat} {d : D} (h : ds[n]? = some d) : atI ds (n : Int) = some d := by
  obtain ⟨hl, _⟩ := List.getElem?_eq_some_iff.mp h
  unfold atI ixN
  rw [if_pos (Int.natCast_nonneg n), if_pos (by omega)]
  simpa using h
theorem z_LstV : dLstV tr e M R = tr e M fun ds M1 => SzK ds.length (R (.vl ds) M1) := rfl
theorem z_CatV : dCatV ta tb e M R = ta e M fun x M1 => tb e M1 fun y M2 => gCatV x y M2 R := rfl
theorem z_SlV {tl th : DTO} : dSlV ta tl th e M R = ta e M fun x M1 => tl e M1 fun l M2 => th e M2 fun u M3 => gSlV x l u M3 R := rfl
theorem z_NoPart {Q : Option Int → Mem → Prop} : dNoPart e M Q = Q none M := rfl
theorem z_Part {Q : Option Int → Mem → Prop} : dPart ta e M Q = ta e M fun x M1 => PartK x M1 Q := rfl
theorem z_PartK {i : Int} {Q : Option Int → Mem → Prop} : PartK (.int i) M Q = Q (some i) M := propext ⟨fun zz => by obtain ⟨_, h, r⟩ := zz; cases h; exact r, fun r => ⟨_, rfl, r⟩⟩
theorem z_gTupVl {ds : List D} : gTupL [.vl ds] M R = R (.tup ds) M := propext ⟨fun zz => by obtain ⟨_, _, h, h2, r⟩ := zz; cases h; cases h2; exact r, fun r => ⟨_, _, rfl, rfl, r⟩⟩
theorem z_gCatVl {xs ys : List D} : gCatV (.vl xs) (.vl ys) M R = SzK (xs.length + ys.length) (R (.vl (xs ++ ys)) M) := propext ⟨fun zz => by obtain ⟨_, _, h, h2, z, r⟩ := zz; cases h; cases h2; exact ⟨z, r⟩, fun ⟨z, r⟩ => ⟨_, _, rfl, rfl, z, r⟩⟩
theorem z_gSlVl {xs : List D} {lo hi : Option Int} : gSlV (.vl xs) lo hi M R = R (.vl (cutD xs lo hi)) M := propext ⟨fun h => by
  rcases h with ⟨_, h, r⟩ | ⟨_, h, _⟩
  · cases h; exact r
  · exact (nomatch h), fun r => .inl ⟨_, rfl, r⟩⟩
theorem z_gSlVt {xs : List D} {lo hi : Option Int} : gSlV (.tup xs) lo hi M R = (¬ (HT.sIx xs.length 0 lo = 0 ∧ HT.sIx xs.length xs.length hi = xs.length) ∧ R (.tup (cutD xs lo hi)) M) := propext ⟨fun h => by
  rcases h with ⟨_, h, r⟩ | ⟨_, h, hw, r⟩
  · cases h
  · cases h; exact ⟨hw, r⟩, fun ⟨hw, r⟩ => .inr ⟨_, rfl, hw, r⟩⟩
theorem z_CompV {n : Nat} {caps : List Nat} {ti : DTI} {g : DTG} {tc : DTIfs} {te : DTE} : dCompV n caps ti g tc te e M R = ti e M fun ds stay M1 => CompV (capE n caps e) g tc te ds stay M1 R := rfl
theorem z_Yes {Q : Bool → Mem → Prop} : dYes e M Q = Q true M := rfl
section
variable {Q : List D → (Mem → Prop) → Mem → Prop}
theorem z_diSeq : diSeq ta e M Q = ta e M fun x M1 => SeqK x M1 Q := rfl
theorem z_SeqT {ds : List D} : SeqK (.tup ds) M Q = Q ds (fun M' => seqD M' (.tup ds) ds) M := propext ⟨fun zz => by obtain ⟨_, h, r⟩ := zz; rw [seqD_tup] at h; subst h; exact r, fun r => ⟨_, .inl rfl, r⟩⟩
theorem z_SeqV {ds : List D} : SeqK (.vl ds) M Q = Q ds (fun M' => seqD M' (.vl ds) ds) M := propext ⟨fun zz => by obtain ⟨_, h, r⟩ := zz; rw [seqD_vl] at h; subst h; exact r, fun r => ⟨_, .inr (.inr rfl), r⟩⟩
theorem z_diZip : diZip tr e M Q = tr e M fun xs M1 => ZipK xs M1 Q := rfl
theorem z_ZipTT {ds es : List D} : ZipK [.tup ds, .tup es] M Q = Q (zipD ds es) (fun M' => seqD M' (.tup ds) ds ∧ seqD M' (.tup es) es) M := propext ⟨fun zz => by obtain ⟨_, _, _, _, h, h2, h3, r⟩ := zz; cases h; rw [seqD_tup] at h2 h3; subst h2; subst h3; exact r, fun r => ⟨_, _, _, _, rfl, .inl rfl, .inl rfl, r⟩⟩
theorem z_ZipVV {ds es : List D} : ZipK [.vl ds, .vl es] M Q = Q (zipD ds es) (fun M' => seqD M' (.vl ds) ds ∧ seqD M' (.vl es) es) M := propext ⟨fun zz => by obtain ⟨_, _, _, _, h, h2, h3, r⟩ := zz; cases h; rw [seqD_vl] at h2 h3; subst h2; subst h3; exact r, fun r => ⟨_, _, _, _, rfl, .inr (.inr rfl), .inr (.inr rfl), r⟩⟩
theorem z_ZipTV {ds es : List D} : ZipK [.tup ds, .vl es] M Q = Q (zipD ds es) (fun M' => seqD M' (.tup ds) ds ∧ seqD M' (.vl es) es) M := propext ⟨fun zz => by obtain ⟨_, _, _, _, h, h2, h3, r⟩ := zz; cases h; rw [seqD_tup] at h2; rw [seqD_vl] at h3; subst h2; subst h3; exact r, fun r => ⟨_, _, _, _, rfl, .inl rfl, .inr (.inr rfl), r⟩⟩
theorem z_ZipVT {ds es : List D} : ZipK [.vl ds, .tup es] M Q = Q (zipD ds es) (fun M' => seqD M' (.vl ds) ds ∧ seqD M' (.tup es) es) M := propext ⟨fun zz => by obtain ⟨_, _, _, _, h, h2, h3, r⟩ := zz; cases h; rw [seqD_vl] at h2; rw [seqD_tup] at h3; subst h2; subst h3; exact r, fun r => ⟨_, _, _, _, rfl, .inr (.inr rfl), .inl rfl, r⟩⟩
theorem z_diRng : diRng tr e M Q = tr e M fun xs M1 => RngK xs M1 Q := rfl
theorem z_RngK {j : Int} : RngK [.int j] M Q = ((-(2 ^ 62) ≤ j ∧ j < 2 ^ 62) ∧ Q (rangeD 0 j.toNat) (fun _ => True) M) := propext ⟨fun zz => by obtain ⟨_, h, a, b, r⟩ := zz; cases h; exact ⟨⟨a, b⟩, r⟩, fun ⟨⟨a, b⟩, r⟩ => ⟨_, rfl, a, b, r⟩⟩
end
theorem z_For {ti : DTI} {g : DTG} : dFor ti g t F e M = ti e M fun ds stay M1 => ForK g t F ds stay e M1 := rfl
theorem ForK.by {g : DTG} {ds : List D} {stay : Mem → Prop} {M1 : Mem} (W : Nat → Ev → Mem → Prop) (w0 : W 0 e M1) (st : ∀ i e M, i ≤ ds.length → W i e M → stay M)
    (turn : ∀ (i : Nat) (d : D) e M, ds[i]? = some d → W i e M → g d e M fun e2 M2 => t { F with nx := W (i + 1), ct := W (i + 1), bk := F.nx } e2 M2) (done : ∀ e M, W ds.length e M → F.nx e M) : ForK g t F ds stay e M1 := ⟨W, w0, st, turn, done⟩
theorem WhileBy {F : DEnds} (W : Nat → Ev → Mem → Prop) (m : Nat) (w0 : W m e M) (turn : ∀ m e M, W m e M → tA e M fun b M1 => IfK b (t { F with nx := fun e' M' => ∃ m', m' < m ∧ W m' e' M', ct := fun e' M' => ∃ m', m' < m ∧ W m' e' M', bk := F.nx } e M1) (F.nx e M1)) : dWhile tA t F e M := ⟨W, ⟨m, w0⟩, turn⟩
theorem JoinBy {F : DEnds} (P : Ev → Mem → Prop) (h1 : t { F with nx := P } e M) (h2 : ∀ e' M', P e' M' → u F e' M') : dSeqM t u F e M := ⟨P, h1, h2⟩
theorem z_LM {g : DRM} : dLM g ta tr e M R = ta e M fun x M1 => LMK x M1 (tr e M1 fun xs M2 => g x xs M2 R) := rfl
theorem z_ixT0 {x0 : D} {r : List D} : gIx (.tup (x0 :: r)) (.int 0) M R = R x0 M := z_Ix (atI_lit (n := 0) rfl)
theorem z_ixV0 {x0 : D} {r : List D} : gIx (.vl (x0 :: r)) (.int 0) M R = R x0 M := z_Ix (atI_lit (n := 0) rfl)
theorem z_ixT1 {x0 x1 : D} {r : List D} : gIx (.tup (x0 :: x1 :: r)) (.int 1) M R = R x1 M := z_Ix (atI_lit (n := 1) rfl)
theorem z_ixV1 {x0 x1 : D} {r : List D} : gIx (.vl (x0 :: x1 :: r)) (.int 1) M R = R x1 M := z_Ix (atI_lit (n := 1) rfl)
theorem z_ixT2 {x0 x1 x2 : D} {r : List D} : gIx (.tup (x0 :: x1 :: x2 :: r)) (.int 2) M R = R x2 M := z_Ix (atI_lit (n := 2) rfl)
theorem z_ixV2 {x0 x1 x2 : D} {r : List D} : gIx (.vl (x0 :: x1 :: x2 :: r)) (.int 2) M R = R x2 M := z_Ix (atI_lit (n := 2) rfl)
theorem z_ixT3 {x0 x1 x2 x3 : D} {r : List D} : gIx (.tup (x0 :: x1 :: x2 :: x3 :: r)) (.int 3) M R = R x3 M := z_Ix (atI_lit (n := 3) rfl)
theorem z_ixV3 {x0 x1 x2 x3 : D} {r : List D} : gIx (.vl (x0 :: x1 :: x2 :: x3 :: r)) (.int 3) M R = R x3 M := z_Ix (atI_lit (n := 3) rfl)
theorem z_ixT4 {x0 x1 x2 x3 x4 : D} {r : List D} : gIx (.tup (x0 :: x1 :: x2 :: x3 :: x4 :: r)) (.int 4) M R = R x4 M := z_Ix (atI_lit (n := 4) rfl)
theorem z_ixV4 {x0 x1 x2 x3 x4 : D} {r : List D} : gIx (.vl (x0 :: x1 :: x2 :: x3 :: x4 :: r)) (.int 4) M R = R x4 M := z_Ix (atI_lit (n := 4) rfl)
theorem z_ixT5 {x0 x1 x2 x3 x4 x5 : D} {r : List D} : gIx (.tup (x0 :: x1 :: x2 :: x3 :: x4 :: x5 :: r)) (.int 5) M R = R x5 M := z_Ix (atI_lit (n := 5) rfl)
theorem z_ixV5 {x0 x1 x2 x3 x4 x5 : D} {r : List D} : gIx (.vl (x0 :: x1 :: x2 :: x3 :: x4 :: x5 :: r)) (.int 5) M R = R x5 M := z_Ix (atI_lit (n := 5) rfl)
theorem z_ixT6 {x0 x1 x2 x3 x4 x5 x6 : D} {r : List D} : gIx (.tup (x0 :: x1 :: x2 :: x3 :: x4 :: x5 :: x6 :: r)) (.int 6) M R = R x6 M := z_Ix (atI_lit (n := 6) rfl)
theorem z_ixV6 {x0 x1 x2 x3 x4 x5 x6 : D} {r : List D} : gIx (.vl (x0 :: x1 :: x2 :: x3 :: x4 :: x5 :: x6 :: r)) (.int 6) M R = R x6 M := z_Ix (atI_lit (n := 6) rfl)
theorem z_ixT7 {x0 x1 x2 x3 x4 x5 x6 x7 : D} {r : List D} : gIx (.tup (x0 :: x1 :: x2 :: x3 :: x4 :: x5 :: x6 :: x7 :: r)) (.int 7) M R = R x7 M := z_Ix (atI_lit (n := 7) rfl)
theorem z_ixV7 {x0 x1 x2 x3 x4 x5 x6 x7 : D} {r : List D} : gIx (.vl (x0 :: x1 :: x2 :: x3 :: x4 :: x5 :: x6 :: x7 :: r)) (.int 7) M R = R x7 M := z_Ix (atI_lit (n := 7) rfl)
theorem z_sz0 {A : Prop} : SzK (0) A = A := z_SzK (by decide)
theorem z_sz1 {A : Prop} : SzK (0 + 1) A = A := z_SzK (by decide)
theorem z_sz2 {A : Prop} : SzK (0 + 1 + 1) A = A := z_SzK (by decide)
theorem z_sz3 {A : Prop} : SzK (0 + 1 + 1 + 1) A = A := z_SzK (by decide)
theorem z_sz4 {A : Prop} : SzK (0 + 1 + 1 + 1 + 1) A = A := z_SzK (by decide)
theorem z_sz5 {A : Prop} : SzK (0 + 1 + 1 + 1 + 1 + 1) A = A := z_SzK (by decide)
theorem z_sz6 {A : Prop} : SzK (0 + 1 + 1 + 1 + 1 + 1 + 1) A = A := z_SzK (by decide)
theorem z_sz7 {A : Prop} : SzK (0 + 1 + 1 + 1 + 1 + 1 + 1 + 1) A = A := z_SzK (by decide)
theorem z_sz8 {A : Prop} : SzK (0 + 1 + 1 + 1 + 1 + 1 + 1 + 1 + 1) A = A := z_SzK (by decide)
theorem z_sz9 {A : Prop} : SzK (0 + 1 + 1 + 1 + 1 + 1 + 1 + 1 + 1 + 1) A = A := z_SzK (by decide)
theorem z_clI60 {i : Int} : cl 60 (.int i) = true := rfl
theorem z_clN60 : cl 60 .non = true := rfl
theorem z_clT60 {ds : List D} : cl 60 (.tup ds) = clL 59 ds := rfl
theorem z_clV60 {ds : List D} : cl 60 (.vl ds) = clL 59 ds := rfl
theorem z_cln59 : clL 59 [] = true := rfl
theorem z_clc59 {d : D} {r : List D} : clL 59 (d :: r) = (cl 59 d && clL 59 r) := rfl
theorem z_clI59 {i : Int} : cl 59 (.int i) = true := rfl
theorem z_clN59 : cl 59 .non = true := rfl
theorem z_clT59 {ds : List D} : cl 59 (.tup ds) = clL 58 ds := rfl
theorem z_clV59 {ds : List D} : cl 59 (.vl ds) = clL 58 ds := rfl
theorem z_cln58 : clL 58 [] = true := rfl
theorem z_clc58 {d : D} {r : List D} : clL 58 (d :: r) = (cl 58 d && clL 58 r) := rfl
theorem z_clI58 {i : Int} : cl 58 (.int i) = true := rfl
theorem z_clN58 : cl 58 .non = true := rfl
theorem z_clT58 {ds : List D} : cl 58 (.tup ds) = clL 57 ds := rfl
theorem z_clV58 {ds : List D} : cl 58 (.vl ds) = clL 57 ds := rfl
theorem z_cln57 : clL 57 [] = true := rfl
theorem z_clc57 {d : D} {r : List D} : clL 57 (d :: r) = (cl 57 d && clL 57 r) := rfl
theorem z_clI57 {i : Int} : cl 57 (.int i) = true := rfl
theorem z_clN57 : cl 57 .non = true := rfl
theorem z_clT57 {ds : List D} : cl 57 (.tup ds) = clL 56 ds := rfl
theorem z_clV57 {ds : List D} : cl 57 (.vl ds) = clL 56 ds := rfl
theorem z_cln56 : clL 56 [] = true := rfl
theorem z_clc56 {d : D} {r : List D} : clL 56 (d :: r) = (cl 56 d && clL 56 r) := rfl
theorem z_clI56 {i : Int} : cl 56 (.int i) = true := rfl
theorem z_clN56 : cl 56 .non = true := rfl
theorem z_clT56 {ds : List D} : cl 56 (.tup ds) = clL 55 ds := rfl
theorem z_clV56 {ds : List D} : cl 56 (.vl ds) = clL 55 ds := rfl
theorem z_cln55 : clL 55 [] = true := rfl
theorem z_clc55 {d : D} {r : List D} : clL 55 (d :: r) = (cl 55 d && clL 55 r) := rfl
theorem z_clI55 {i : Int} : cl 55 (.int i) = true := rfl
theorem z_clN55 : cl 55 .non = true := rfl
theorem z_clT55 {ds : List D} : cl 55 (.tup ds) = clL 54 ds := rfl
theorem z_clV55 {ds : List D} : cl 55 (.vl ds) = clL 54 ds := rfl
theorem z_cln54 : clL 54 [] = true := rfl
theorem z_clc54 {d : D} {r : List D} : clL 54 (d :: r) = (cl 54 d && clL 54 r) := rfl
theorem z_LenV {xs : List D} : gLen [.vl xs] M R = R (.int (xs.length : Int)) M := z_Len rfl
theorem z_LenT {xs : List D} : gLen [.tup xs] M R = R (.int (xs.length : Int)) M := z_Len rfl
theorem z_szk1 {A : Prop} : SzK 1 A = A := z_SzK (by decide)
theorem z_szk2 {A : Prop} : SzK 2 A = A := z_SzK (by decide)
theorem z_szk3 {A : Prop} : SzK 3 A = A := z_SzK (by decide)
theorem z_szk4 {A : Prop} : SzK 4 A = A := z_SzK (by decide)
theorem z_szk5 {A : Prop} : SzK 5 A = A := z_SzK (by decide)
theorem z_szk6 {A : Prop} : SzK 6 A = A := z_SzK (by decide)
theorem z_szk7 {A : Prop} : SzK 7 A = A := z_SzK (by decide)
theorem z_szk8 {A : Prop} : SzK 8 A = A := z_SzK (by decide)
theorem z_szk9 {A : Prop} : SzK 9 A = A := z_SzK (by decide)
theorem z_szk10 {A : Prop} : SzK 10 A = A := z_SzK (by decide)
theorem z_szk11 {A : Prop} : SzK 11 A = A := z_SzK (by decide)
theorem z_szk12 {A : Prop} : SzK 12 A = A := z_SzK (by decide)
theorem z_AllV {bs : List Bool} : gAll [.vl (bs.map D.bl)] M R = R (.bl (bs.all id)) M := propext ⟨fun zz => by
  obtain ⟨_, bs', e, h, r⟩ := zz
  cases e
  have e2 : bs.map D.bl = bs'.map D.bl := Option.some.inj h
  have e3 : bs = bs' := (List.map_inj_right (fun a b z => by injection z)).mp e2
  subst e3; exact r, fun r => ⟨_, bs, rfl, rfl, r⟩⟩
theorem z_mapB {α : Type} {xs : List α} {f : α → Bool} : xs.map (fun x => D.bl (f x)) = (xs.map f).map D.bl := by rw [List.map_map]; rfl
theorem z_isi2T {ds : List D} : gIsi2 [.tup ds, .tup [.ty "tuple", .ty "list"]] M R = R (.bl true) M := z_Isi2 rfl rfl
theorem z_isi2V {ds : List D} : gIsi2 [.vl ds, .tup [.ty "tuple", .ty "list"]] M R = R (.bl true) M := z_Isi2 rfl rfl
theorem z_isi2I {i : Int} : gIsi2 [.int i, .tup [.ty "tuple", .ty "list"]] M R = R (.bl false) M := z_Isi2 rfl rfl
theorem z_isi2N : gIsi2 [.non, .tup [.ty "tuple", .ty "list"]] M R = R (.bl false) M := z_Isi2 rfl rfl
theorem z_isi2S {x : Str} : gIsi2 [.str x, .tup [.ty "tuple", .ty "list"]] M R = R (.bl false) M := z_Isi2 rfl rfl
theorem z_isi2B {b : Bool} : gIsi2 [.bl b, .tup [.ty "tuple", .ty "list"]] M R = R (.bl false) M := z_Isi2 rfl rfl
theorem z_isiDTuple : gIsi [.dic, .ty "tuple"] M R = R (.bl false) M := z_Isi rfl rfl
theorem z_isiDList : gIsi [.dic, .ty "list"] M R = R (.bl false) M := z_Isi rfl rfl
theorem z_isiDInt : gIsi [.dic, .ty "int"] M R = R (.bl false) M := z_Isi rfl rfl
theorem z_isiDBool : gIsi [.dic, .ty "bool"] M R = R (.bl false) M := z_Isi rfl rfl
theorem z_isiDStr : gIsi [.dic, .ty "str"] M R = R (.bl false) M := z_Isi rfl rfl
theorem z_isi2D : gIsi2 [.dic, .tup [.ty "tuple", .ty "list"]] M R = R (.bl false) M := z_Isi2 rfl rfl
theorem z_isi3T {ds : List D} : gIsi2 [.tup ds, .tup [.ty "list", .ty "tuple"]] M R = R (.bl true) M := z_Isi2 rfl rfl
theorem z_isi3V {ds : List D} : gIsi2 [.vl ds, .tup [.ty "list", .ty "tuple"]] M R = R (.bl true) M := z_Isi2 rfl rfl
theorem z_isi3I {i : Int} : gIsi2 [.int i, .tup [.ty "list", .ty "tuple"]] M R = R (.bl false) M := z_Isi2 rfl rfl
theorem z_isi3N  : gIsi2 [.non, .tup [.ty "list", .ty "tuple"]] M R = R (.bl false) M := z_Isi2 rfl rfl
theorem z_isi3S {x : Str} : gIsi2 [.str x, .tup [.ty "list", .ty "tuple"]] M R = R (.bl false) M := z_Isi2 rfl rfl
theorem z_isi3B {b : Bool} : gIsi2 [.bl b, .tup [.ty "list", .ty "tuple"]] M R = R (.bl false) M := z_Isi2 rfl rfl
theorem z_isi3D  : gIsi2 [.dic, .tup [.ty "list", .ty "tuple"]] M R = R (.bl false) M := z_Isi2 rfl rfl
theorem z_isiTTuple {ds : List D} : gIsi [.tup ds, .ty "tuple"] M R = R (.bl true) M := z_Isi rfl rfl
theorem z_isiTList {ds : List D} : gIsi [.tup ds, .ty "list"] M R = R (.bl false) M := z_Isi rfl rfl
theorem z_isiTInt {ds : List D} : gIsi [.tup ds, .ty "int"] M R = R (.bl false) M := z_Isi rfl rfl
theorem z_isiTBool {ds : List D} : gIsi [.tup ds, .ty "bool"] M R = R (.bl false) M := z_Isi rfl rfl
theorem z_isiTStr {ds : List D} : gIsi [.tup ds, .ty "str"] M R = R (.bl false) M := z_Isi rfl rfl
theorem z_isiVTuple {ds : List D} : gIsi [.vl ds, .ty "tuple"] M R = R (.bl false) M := z_Isi rfl rfl
theorem z_isiVList {ds : List D} : gIsi [.vl ds, .ty "list"] M R = R (.bl true) M := z_Isi rfl rfl
theorem z_isiVInt {ds : List D} : gIsi [.vl ds, .ty "int"] M R = R (.bl false) M := z_Isi rfl rfl
theorem z_isiVBool {ds : List D} : gIsi [.vl ds, .ty "bool"] M R = R (.bl false) M := z_Isi rfl rfl
theorem z_isiVStr {ds : List D} : gIsi [.vl ds, .ty "str"] M R = R (.bl false) M := z_Isi rfl rfl
theorem z_isiITuple {i : Int} : gIsi [.int i, .ty "tuple"] M R = R (.bl false) M := z_Isi rfl rfl
theorem z_isiIList {i : Int} : gIsi [.int i, .ty "list"] M R = R (.bl false) M := z_Isi rfl rfl
theorem z_isiIInt {i : Int} : gIsi [.int i, .ty "int"] M R = R (.bl true) M := z_Isi rfl rfl
theorem z_isiIBool {i : Int} : gIsi [.int i, .ty "bool"] M R = R (.bl false) M := z_Isi rfl rfl
theorem z_isiIStr {i : Int} : gIsi [.int i, .ty "str"] M R = R (.bl false) M := z_Isi rfl rfl
theorem z_isiNTuple : gIsi [.non, .ty "tuple"] M R = R (.bl false) M := z_Isi rfl rfl
theorem z_isiNList : gIsi [.non, .ty "list"] M R = R (.bl false) M := z_Isi rfl rfl
theorem z_isiNInt : gIsi [.non, .ty "int"] M R = R (.bl false) M := z_Isi rfl rfl
theorem z_isiNBool : gIsi [.non, .ty "bool"] M R = R (.bl false) M := z_Isi rfl rfl
theorem z_isiNStr : gIsi [.non, .ty "str"] M R = R (.bl false) M := z_Isi rfl rfl
theorem z_isiSTuple {x : Str} : gIsi [.str x, .ty "tuple"] M R = R (.bl false) M := z_Isi rfl rfl
theorem z_isiSList {x : Str} : gIsi [.str x, .ty "list"] M R = R (.bl false) M := z_Isi rfl rfl
theorem z_isiSInt {x : Str} : gIsi [.str x, .ty "int"] M R = R (.bl false) M := z_Isi rfl rfl
theorem z_isiSBool {x : Str} : gIsi [.str x, .ty "bool"] M R = R (.bl false) M := z_Isi rfl rfl
theorem z_isiSStr {x : Str} : gIsi [.str x, .ty "str"] M R = R (.bl true) M := z_Isi rfl rfl
theorem z_isiBTuple {b : Bool} : gIsi [.bl b, .ty "tuple"] M R = R (.bl false) M := z_Isi rfl rfl
theorem z_isiBList {b : Bool} : gIsi [.bl b, .ty "list"] M R = R (.bl false) M := z_Isi rfl rfl
theorem z_isiBInt {b : Bool} : gIsi [.bl b, .ty "int"] M R = R (.bl true) M := z_Isi rfl rfl
theorem z_isiBBool {b : Bool} : gIsi [.bl b, .ty "bool"] M R = R (.bl true) M := z_Isi rfl rfl
theorem z_isiBStr {b : Bool} : gIsi [.bl b, .ty "str"] M R = R (.bl false) M := z_Isi rfl rfl
theorem z_Fgt : dFgt ta e M R = ta e M fun x M1 => FgtK x M1 R := rfl
theorem SeqK_of {x : D} {ds : List D} {Q : List D → (Mem → Prop) → Mem → Prop} (h : seqD M x ds) (r : Q ds (fun M' => seqD M' x ds) M) : SeqK x M Q := ⟨ds, h, r⟩
theorem LMK_of {l : Addr} {ds : List D} {A : Prop} (h : M l = some (.lst ds)) (a : A) : LMK (.ref l) M A := ⟨⟨l, ds, rfl, h⟩, a⟩
theorem App_of {l : Addr} {ds : List D} {v : D} (h : M l = some (.lst ds)) (hz : ds.length < 1000) (r : R .non (updM M l (.lst (ds ++ [v])))) : gAppend (.ref l) [v] M R := ⟨l, ds, v, rfl, rfl, h, Nat.lt_of_lt_of_le hz (by decide), r⟩
theorem SetL_of {p : Addr} {ds : List D} {j : Nat} {v : D} {Q : Mem → Prop} (h : M p = some (.lst ds)) (hj : j < ds.length) (r : Q (updM M p (.lst (ds.set j v)))) : gSetL (.ref p) (.int (j : Int)) v M Q := ⟨p, ds, j, j, rfl, rfl, h, by unfold ixN; rw [if_pos (by omega), if_pos (by omega)]; rfl, r⟩
theorem Fgt_of {x : D} {M1 M2 : Mem} (h : ∀ b o, M2 b = some o → M1 b = some o) (r : R x M2) : FgtK x M1 R := ⟨M2, h, r⟩
end
end DL

namespace DL
open PySem PySem.Spec L2
open PyProof.Rows hiding St
theorem all0 {p : Str → Prop} : ∀ x ∈ ([] : List Str), p x := fun _ h => nomatch h
section
variable {e0 : Ev} {g : DTG} {te : DTE} {tc : DTIfs} {ds : List D} {stay : Mem → Prop} {M1 : Mem} {E : List D → Mem → Prop}
theorem compV_map {α : Type} {xs : List α} {enc : α → D} (f : α → D) (hn : xs.length ≤ 1000) (hst : stay M1) (step : ∀ x ∈ xs, ∀ Q : DK, Q (f x) M1 → g (enc x) e0 M1 fun e2 M2 => te e2 M2 Q) (h : E (xs.map f) M1) : ∃ W, CompW e0 g dYes te (xs.map enc) stay M1 E W := by
  refine ⟨fun i ys M => M = M1 ∧ ys = (xs.take i).map f, ⟨⟨rfl, rfl⟩, fun i ys M _ w => by rw [w.1]; exact hst, fun i d ys M hd w => ?_, fun ys M w => ?_⟩⟩
  · obtain ⟨rfl, rfl⟩ := w
    rw [List.getElem?_map] at hd
    cases hx : xs[i]? with
    | none => rw [hx] at hd; cases hd
    | some x =>
      rw [hx] at hd
      obtain rfl : enc x = d := by simpa using hd
      refine step x (List.mem_of_getElem? hx) _ ⟨?_, rfl, ?_⟩
      · rw [List.length_map, List.length_take]
        exact Nat.lt_of_le_of_lt (Nat.le_trans (Nat.min_le_right _ _) hn) (by decide)
      · obtain ⟨hl, he⟩ := List.getElem?_eq_some_iff.mp hx
        rw [List.take_succ_eq_append_getElem hl, List.map_append, he]; rfl
  · obtain ⟨rfl, rfl⟩ := w
    rw [List.length_map, List.take_length]; exact h
theorem compV_filter {α : Type} {xs : List α} {enc : α → D} (p : α → Bool) (f : α → D) (hn : xs.length ≤ 1000) (hst : stay M1)
    (step : ∀ x ∈ xs, ∀ (Q : DK) (N : Prop), (p x = true → Q (f x) M1) → (p x = false → N) → g (enc x) e0 M1 fun e2 M2 => tc e2 M2 fun b M3 => IfK b (te e2 M3 Q) (M3 = M1 ∧ N)) (h : E ((xs.filter p).map f) M1) : ∃ W, CompW e0 g tc te (xs.map enc) stay M1 E W := by
  refine ⟨fun i ys M => M = M1 ∧ ys = ((xs.take i).filter p).map f, ⟨⟨rfl, rfl⟩, fun i ys M _ w => by rw [w.1]; exact hst, fun i d ys M hd w => ?_, fun ys M w => ?_⟩⟩
  · obtain ⟨rfl, rfl⟩ := w
    rw [List.getElem?_map] at hd
    cases hx : xs[i]? with
    | none => rw [hx] at hd; cases hd
    | some x =>
      rw [hx] at hd
      obtain rfl : enc x = d := by simpa using hd
      obtain ⟨hl, he⟩ := List.getElem?_eq_some_iff.mp hx
      have hle : (((xs.take i).filter p).map f).length < sizeLine := by
        rw [List.length_map]
        have h1 := List.length_filter_le p (xs.take i)
        rw [List.length_take] at h1
        exact Nat.lt_of_le_of_lt (Nat.le_trans h1 (Nat.le_trans (Nat.min_le_right _ _) hn)) (by decide)
      have hs := step x (List.mem_of_getElem? hx) (fun v M4 => (((xs.take i).filter p).map f).length < sizeLine ∧ M4 = M ∧ ((xs.take i).filter p).map f ++ [v] = ((xs.take (i + 1)).filter p).map f) (((xs.take i).filter p).map f = ((xs.take (i + 1)).filter p).map f)
        (fun hp => ⟨hle, rfl, by rw [List.take_succ_eq_append_getElem hl, List.filter_append, List.map_append, he]; simp [hp]⟩)
        (fun hp => by rw [List.take_succ_eq_append_getElem hl, List.filter_append, List.map_append, he]; simp [hp])
      exact hs
  · obtain ⟨rfl, rfl⟩ := w
    rw [List.length_map, List.take_length]; exact h
end
end DL

namespace GM
open PySem PySem.Spec L2 DL
open PyProof.Rows hiding St
noncomputable def ratD (q : Rat) : D := .tup [.int q.num, .int (q.den : Int)]
theorem ratD_inj {q r : Rat} (h : ratD q = ratD r) : q = r := by
  unfold ratD at h
  injection h with h
  injection h with h1 h2
  injection h1 with h1
  injection h2 with h2 _
  injection h2 with h2
  exact Rat.ext h1 (by omega)
theorem ratD_iff {q r : Rat} : ratD q = ratD r ↔ q = r := ⟨ratD_inj, fun h => by rw [h]⟩
structure PoolAt (M : Mem) (p : Addr) : Prop where
  ex : ∃ x y z : Int, M p = some (.lst [.int x, .int y, .int z])
noncomputable def MK (M M' : Mem) : Prop := ∀ b o, M b = some o → M' b = some o
theorem MK.refl (M : Mem) : MK M M := fun _ _ h => h
theorem MK.trans {M M1 M2 : Mem} (a : MK M M1) (b : MK M1 M2) : MK M M2 := fun c o h => b c o (a c o h)
theorem MK.new {M : Mem} {p : Addr} {o : MO} (h : M p = none) : MK M (updM M p o) := fun b u e => by
  have : b ≠ p := by intro z; subst z; rw [h] at e; cases e
  rw [updM_ne this]; exact e
theorem MK.pool {M M' : Mem} (k : MK M M') {p : Addr} (h : PoolAt M p) : PoolAt M' p := let ⟨x, y, z, e⟩ := h.ex; ⟨x, y, z, k _ _ e⟩
structure PStep (p : Addr) (M M' : Mem) : Prop where
  keep : ∀ b o, b ≠ p → M b = some o → M' b = some o
  pool : PoolAt M' p
theorem PStep.refl {p : Addr} {M : Mem} (h : PoolAt M p) : PStep p M M := ⟨fun _ _ _ h => h, h⟩
theorem PStep.trans {p : Addr} {M M1 M2 : Mem} (a : PStep p M M1) (b : PStep p M1 M2) : PStep p M M2 := ⟨fun c o n h => b.keep c o n (a.keep c o n h), b.pool⟩
theorem PStep.upd {p : Addr} {M : Mem} (x y z : Int) : PStep p M (updM M p (.lst [.int x, .int y, .int z])) := ⟨fun b o n h => by rw [updM_ne n]; exact h, ⟨x, y, z, updM_same⟩⟩
theorem PoolAt.ne {M : Mem} {p l : Addr} (h : PoolAt M p) (hl : M l = none) : l ≠ p := by
  intro e; subst e; obtain ⟨x, y, z, q⟩ := h.ex; rw [hl] at q; cases q
noncomputable def spPool : DSp := fun ds M R _ => ∃ c : Int, ds = [.int c] ∧ ∀ p M', M p = none → MK M M' → PoolAt M' p → R (.ref p) M'
noncomputable def spNext : DSp := fun ds M R _ => ∃ (p : Addr) (b : Int), ds = [.ref p, .int b] ∧ PoolAt M p ∧ 0 < b ∧ b.natAbs.log2 < 9000 ∧ ∀ (r : Int) M', 0 ≤ r → r < b → PStep p M M' → R (.int r) M'
noncomputable def spLow : DSp := fun ds M R _ => ∃ a b : Int, ds = [.int a, .int b] ∧ b ≠ 0 ∧ b.natAbs.log2 < 9000 ∧ R (ratD (Rat.divInt a b)) M
noncomputable def spFloorRoot : DSp := fun ds M R _ => ∃ n : Nat, ds = [.int n] ∧ n.log2 < 4000 ∧ ∀ s : Nat, s * s ≤ n → n < (s + 1) * (s + 1) → R (.int s) M
noncomputable def RootIs (q : Rat) (v : D) : Prop := (∃ r : Rat, 0 ≤ r ∧ r * r = q ∧ v = ratD r) ∨ ((∀ r : Rat, r * r ≠ q) ∧ v = .non)
noncomputable def spRoot : DSp := fun ds M R _ => ∃ q : Rat, ds = [ratD q] ∧ RM.sz q ≤ 4000 ∧ ∀ v, RootIs q v → R v M
theorem cp18 : CPow 10 18 := ⟨by decide, by decide, by decide⟩
theorem m64l {a b : Int} (h1 : -(2 ^ 64) < a) (h2 : a < 2 ^ 64) : IntMulOk a b := .of_left (intBits_le_64 h1 h2)
theorem m64r {a b : Int} (h1 : -(2 ^ 64) < b) (h2 : b < 2 ^ 64) : IntMulOk a b := .of_right (intBits_le_64 h1 h2)
theorem mmod {x m k b : Int} (hm : 0 < m) (hm2 : m < 2 ^ 60) (hk : 0 ≤ k) (hk2 : k < 2 ^ 60) : IntMulOk (x % m + k) b := by
  have h1 := Int.emod_nonneg x (show m ≠ 0 by omega)
  have h2 := Int.emod_lt_of_pos x hm
  exact m64l (by omega) (by omega)
theorem mmod0 {x m b : Int} (hm : 0 < m) (hm2 : m < 2 ^ 60) : IntMulOk (x % m) b := by
  have h1 := Int.emod_nonneg x (show m ≠ 0 by omega)
  have h2 := Int.emod_lt_of_pos x hm
  exact m64l (by omega) (by omega)
theorem cfd8 {i : Int} : CFd i 8 := ⟨by decide, by decide⟩
theorem cfd2 {i : Int} : CFd i 2 := ⟨by decide, by decide⟩
theorem fdiv_nn {a b : Int} (ha : 0 ≤ a) (hb : 0 ≤ b) : a.fdiv b = a / b := Int.fdiv_eq_ediv_of_nonneg a hb
theorem gcd_log {a b : Int} (hb : b ≠ 0) (h : b.natAbs.log2 < 9000) : ((Nat.gcd a.natAbs b.natAbs : Nat) : Int).natAbs.log2 < 9000 := by
  have hp : 0 < b.natAbs := Int.natAbs_pos.mpr hb
  have hle : Nat.gcd a.natAbs b.natAbs ≤ b.natAbs := Nat.gcd_le_right _ hp
  have h1 : b.natAbs < 2 ^ 9000 := (Nat.log2_lt (by omega)).mp h
  rw [Int.natAbs_natCast]
  exact log_lt (Nat.lt_of_le_of_lt hle h1) (by decide)
theorem gcd_ne {a b : Int} (hb : b ≠ 0) : ((Nat.gcd a.natAbs b.natAbs : Nat) : Int) ≠ 0 := by
  have hp : 0 < b.natAbs := Int.natAbs_pos.mpr hb
  have := Nat.gcd_pos_of_pos_right a.natAbs hp
  omega
theorem low_fin {a b s : Int} (hb : b ≠ 0) (hs : s = if b < 0 then -((Nat.gcd a.natAbs b.natAbs : Nat) : Int) else ((Nat.gcd a.natAbs b.natAbs : Nat) : Int)) {M : Mem} {R : DK} (k : R (ratD (Rat.divInt a b)) M) :
    R (.tup [.int (a.fdiv s), .int (b.fdiv s)]) M := by
  obtain ⟨h1, h2⟩ := RM.low_eq a b hb s hs
  rw [h1, h2]; exact k
theorem low_sz {a b : Int} {n : Nat} (hn : 0 < n) (h1 : a.natAbs < 2 ^ n) (h2 : b.natAbs < 2 ^ n) (hb : b ≠ 0) : RM.sz (Rat.divInt a b) ≤ n :=
  Nat.le_trans (RM.sz_divInt a b hb) (Nat.max_le.mpr ⟨RM.bl_le h1 hn, RM.bl_le h2 hn⟩)
end GM
namespace GM
open PySem PySem.Spec L2 DL
open PyProof.Rows hiding St
theorem newton {n g : Nat} (hg : 0 < g) : n < ((g + n / g) / 2 + 1) * ((g + n / g) / 2 + 1) := by
  have h1 : n < g * (n / g + 1) := by
    have := Nat.lt_mul_div_succ n hg
    exact this
  have h2 : g + (n / g + 1) ≤ 2 * ((g + n / g) / 2 + 1) := by omega
  generalize (g + n / g) / 2 + 1 = b at h2 ⊢
  generalize n / g + 1 = y at h1 h2
  have h3 : (g + y) * (g + y) ≤ (2 * b) * (2 * b) := Nat.mul_le_mul h2 h2
  have h4 : 4 * (g * y) ≤ (g + y) * (g + y) := by
    rcases Nat.le_total g y with h | h
    · obtain ⟨k, rfl⟩ := Nat.le.dest h
      have : (g + (g + k)) * (g + (g + k)) = 4 * (g * (g + k)) + k * k := by grind
      omega
    · obtain ⟨k, rfl⟩ := Nat.le.dest h
      have : (y + k + y) * (y + k + y) = 4 * ((y + k) * y) + k * k := by grind
      omega
  have h5 : (2 * b) * (2 * b) = 4 * (b * b) := by grind
  omega
theorem newton_end {n g : Nat} (hg : 0 < g) (h : ¬ (g + n / g) / 2 < g) : g * g ≤ n := by
  have h1 : g ≤ n / g := by omega
  exact Nat.le_trans (Nat.mul_le_mul_left g h1) (Nat.mul_div_le n g)
theorem sq_unique {n s t : Nat} (h1 : s * s ≤ n) (h2 : n < (s + 1) * (s + 1)) (h3 : t * t = n) : t = s := by
  rcases Nat.lt_trichotomy t s with h | h | h
  · have : (t + 1) * (t + 1) ≤ s * s := Nat.mul_le_mul h h
    have e : (t + 1) * (t + 1) = t * t + 2 * t + 1 := by grind
    omega
  · exact h
  · have : (s + 1) * (s + 1) ≤ t * t := Nat.mul_le_mul h h
    omega
theorem sq_parts (r : Rat) : (r * r).num = r.num * r.num ∧ (r * r).den = r.den * r.den := by
  rw [Rat.mul_def]
  have hc : (r.num * r.num).natAbs.gcd (r.den * r.den) = 1 := by
    rw [Int.natAbs_mul]
    exact Nat.Coprime.mul_left (Nat.Coprime.mul_right r.reduced r.reduced) (Nat.Coprime.mul_right r.reduced r.reduced)
  rw [Rat.normalize_eq]
  simp [hc]
theorem root_some {q : Rat} {s t : Nat} (h1 : ((s : Int)) * (s : Int) = q.num) (h2 : t * t = q.den) : ∃ r : Rat, 0 ≤ r ∧ r * r = q ∧ r.num = (s : Int) ∧ r.den = t := by
  have ht : t ≠ 0 := by
    intro e; subst e; have := q.den_nz; omega
  have hcop : Nat.Coprime s t := by
    have hq := q.reduced
    have e1 : q.num.natAbs = s * s := by rw [← h1, Int.natAbs_mul, Int.natAbs_natCast]
    rw [e1, ← h2] at hq
    have a1 : Nat.Coprime s (t * t) := Nat.Coprime.coprime_mul_left hq
    exact Nat.Coprime.coprime_mul_left_right a1
  refine ⟨⟨(s : Int), t, ht, by simpa using hcop⟩, ?_, ?_, rfl, rfl⟩
  · rw [Rat.le_iff]; simp
  · have := sq_parts ⟨(s : Int), t, ht, by simpa using hcop⟩
    exact Rat.ext (by rw [this.1]; exact h1) (by rw [this.2]; exact h2)
theorem root_parts {q r : Rat} (h : r * r = q) : (∃ s : Nat, s * s = q.num.natAbs) ∧ (∃ t : Nat, t * t = q.den) ∧ 0 ≤ q.num := by
  have := sq_parts r
  rw [h] at this
  refine ⟨⟨r.num.natAbs, by rw [this.1, Int.natAbs_mul]⟩, ⟨r.den, this.2.symm⟩, ?_⟩
  rw [this.1]
  have := Int.natAbs_mul_self (a := r.num)
  rw [← this]; exact Int.natCast_nonneg _
theorem sz_log {q : Rat} {n : Nat} (h : RM.sz q ≤ n) : q.num.natAbs.log2 < n ∧ q.den.log2 < n := by
  have h1 := RM.sz_num q
  have h2 := RM.sz_den q
  unfold RM.bl at h1 h2
  omega
theorem lt_of_log {n k : Nat} (h : n.log2 < k) : n < 2 ^ k := by
  rcases Nat.eq_zero_or_pos n with h0 | h0
  · subst h0; exact Nat.two_pow_pos k
  · exact (Nat.log2_lt (by omega)).mp h
end GM
namespace GM
open PySem PySem.Spec L2 DL
open PyProof.Rows hiding St
noncomputable def spWhole : DSp := fun ds M R _ => ∃ n : Int, ds = [.int n] ∧ R (.bl true) M
end GM
namespace GM
open PySem PySem.Spec L2 DL
structure Sml (g : Nat) : Prop where
  log : g.log2 < 9000
theorem Sml.mono {a b : Nat} (h : Sml b) (l : a ≤ b) : Sml a := ⟨log_lt (Nat.lt_of_le_of_lt l (lt_of_log h.log)) (by decide)⟩
theorem Sml.pow {k : Nat} (h : k < 9000) : Sml (2 ^ k) := ⟨log_lt (Nat.pow_lt_pow_right (by decide) h) (by decide)⟩
end GM
namespace GM
open PySem PySem.Spec L2 DL
end GM
namespace GM
open PySem PySem.Spec L2 DL
noncomputable def spLaw : DSp := fun ds _ R _ => ∃ ns : List Int, ds = [.vl (ns.map D.int)] ∧ ns.length ≤ 63 ∧ ∀ M', R (.bl true) M'
end GM

namespace GM
open PySem PySem.Spec L2 DL
open RM (sz)
noncomputable def spDivisor : DSp := fun ds M R _ => ∃ a b : Nat, ds = [.int (a : Int), .int (b : Int)] ∧ R (.int ((Nat.gcd a b : Nat) : Int)) M
noncomputable def spOpp : DSp := fun ds M R _ => ∃ q : Rat, ds = [ratD q] ∧ R (ratD (-q)) M
noncomputable def spPlus : DSp := fun ds M R _ => ∃ q r : Rat, ds = [ratD q, ratD r] ∧ sz q + sz r ≤ 8900 ∧ R (ratD (q + r)) M
noncomputable def spMinus : DSp := fun ds M R _ => ∃ q r : Rat, ds = [ratD q, ratD r] ∧ sz q + sz r ≤ 8900 ∧ R (ratD (q - r)) M
noncomputable def spTimes : DSp := fun ds M R _ => ∃ q r : Rat, ds = [ratD q, ratD r] ∧ sz q + sz r ≤ 8900 ∧ R (ratD (q * r)) M
noncomputable def spOver : DSp := fun ds M R _ => ∃ q r : Rat, ds = [ratD q, ratD r] ∧ r ≠ 0 ∧ sz q + sz r ≤ 8900 ∧ R (ratD (q / r)) M
noncomputable def spLess : DSp := fun ds M R _ => ∃ q r : Rat, ds = [ratD q, ratD r] ∧ sz q + sz r ≤ 8900 ∧ R (.bl (decide (q < r))) M
theorem num_lt (q : Rat) : q.num.natAbs < 2 ^ sz q := Nat.lt_of_lt_of_le (RM.lt_bl _) (Nat.pow_le_pow_right (by decide) (RM.sz_num q))
theorem den_lt (q : Rat) : ((q.den : Int)).natAbs < 2 ^ sz q := by rw [Int.natAbs_natCast]; exact Nat.lt_of_lt_of_le (RM.lt_bl _) (Nat.pow_le_pow_right (by decide) (RM.sz_den q))
theorem mNN {q r : Rat} (h : sz q + sz r ≤ 8900) : IntMulOk q.num r.num := mulOk _ _ (num_lt q) (num_lt r) (by omega)
theorem mND {q r : Rat} (h : sz q + sz r ≤ 8900) : IntMulOk q.num (r.den : Int) := mulOk _ _ (num_lt q) (den_lt r) (by omega)
theorem mDD {q r : Rat} (h : sz q + sz r ≤ 8900) : IntMulOk (q.den : Int) (r.den : Int) := mulOk _ _ (den_lt q) (den_lt r) (by omega)
theorem mDN {q r : Rat} (h : sz q + sz r ≤ 8900) : IntMulOk (q.den : Int) r.num := mulOk _ _ (den_lt q) (num_lt r) (by omega)
theorem lDD {q r : Rat} (h : sz q + sz r ≤ 8900) : ((q.den : Int) * (r.den : Int)).natAbs.log2 < 9000 := by
  have h1 := RM.bl_mul q.den r.den
  have h2 := RM.sz_den q
  have h3 := RM.sz_den r
  rw [Int.natAbs_mul, Int.natAbs_natCast, Int.natAbs_natCast]
  unfold RM.bl at *
  omega
theorem lDN {q r : Rat} (h : sz q + sz r ≤ 8900) : ((q.den : Int) * r.num).natAbs.log2 < 9000 := by
  have h1 := RM.bl_mul q.den r.num.natAbs
  have h2 := RM.sz_den q
  have h3 := RM.sz_num r
  rw [Int.natAbs_mul, Int.natAbs_natCast]
  unfold RM.bl at *
  omega
theorem num_ne {r : Rat} (h : r ≠ 0) : r.num ≠ 0 := fun z => h (Rat.num_eq_zero.mp z)
noncomputable def absQ (q : Rat) : Rat := if 0 ≤ q then q else -q
theorem absQ_D (q : Rat) : ratD (absQ q) = .tup [.int (q.num.natAbs : Int), .int (q.den : Int)] := by
  unfold absQ ratD
  have hz : 0 ≤ q ↔ 0 ≤ q.num := Rat.num_nonneg.symm
  split
  · rename_i h
    have := hz.mp h
    rw [show q.num = (q.num.natAbs : Int) by omega]; simp
  · rename_i h
    have h' : ¬ 0 ≤ q.num := fun z => h (hz.mpr z)
    rw [Rat.neg_num, Rat.neg_den, show -q.num = (q.num.natAbs : Int) by omega]
theorem num_neg_iff (t : Rat) : t.num < 0 ↔ t < 0 := by
  have := Rat.num_nonneg (q := t)
  constructor
  · intro h; have : ¬ 0 ≤ t := fun z => by have := Rat.num_nonneg.mpr z; omega
    grind
  · intro h; have h' : ¬ 0 ≤ t.num := fun z => by have := Rat.num_nonneg.mp z; grind
    omega
end GM

namespace GM
open RM (sz)
theorem num_lt' (q : Rat) {k : Nat} (h : sz q ≤ k) : q.num.natAbs < 2 ^ k := Nat.lt_of_lt_of_le (RM.lt_bl _) (Nat.pow_le_pow_right (by decide) (Nat.le_trans (RM.sz_num q) h))
theorem den_lt' (q : Rat) {k : Nat} (h : sz q ≤ k) : q.den < 2 ^ k := Nat.lt_of_lt_of_le (RM.lt_bl _) (Nat.pow_le_pow_right (by decide) (Nat.le_trans (RM.sz_den q) h))
theorem mul_den (q : Rat) : q * (q.den : Rat) = (q.num : Rat) := by
  have h : (q.den : Rat) ≠ 0 := by
    intro z; exact q.den_nz (by exact_mod_cast z)
  have e := Rat.num_divInt_den q
  rw [Rat.divInt_eq_div, Rat.intCast_natCast] at e
  grind
end GM

namespace GM
open PySem PySem.Spec L2 DL
open RM (sz)
noncomputable abbrev tabD (a b c d : Rat) : D := .tup [ratD a, ratD b, ratD c, ratD d]
noncomputable abbrev rayD (y u : Rat) : D := .tup [ratD y, ratD u]
structure T2 (S : Nat) (y u : Rat) : Prop where
  y : sz y ≤ S
  u : sz u ≤ S
noncomputable def spColumns : DSp := fun ds M R _ => ∃ a b c d : Rat, ds = [rayD a c, rayD b d] ∧ R (tabD a b c d) M
end GM

namespace GM
open PySem PySem.Spec L2 DL
open RM (sz)
theorem sz_abs (q : Rat) : sz (absQ q) = sz q := by
  unfold absQ; split
  · rfl
  · exact RM.sz_neg q
noncomputable def partD (x : Str × Rat) : D := .tup [.str x.1, ratD x.2]
theorem ints_item2 {ns ms : List Int} {i : Nat} {d : D} (h : (ns.map D.int ++ ms.map D.int)[i]? = some d) : ∃ n : Int, d = .int n := by
  have hm := List.mem_of_getElem? h
  rcases List.mem_append.mp hm with z | z
  · obtain ⟨n, _, e⟩ := List.mem_map.mp z; exact ⟨n, e.symm⟩
  · obtain ⟨n, _, e⟩ := List.mem_map.mp z; exact ⟨n, e.symm⟩
theorem sgn_eq (g b : Int) : g * (1 - 2 * (if decide (b < 0) = true then 1 else 0)) = if b < 0 then -g else g := by
  by_cases h : b < 0
  · rw [if_pos h, if_pos (decide_eq_true h)]; omega
  · rw [if_neg h, if_neg (by rw [decide_eq_false h]; exact Bool.false_ne_true)]; omega
end GM

namespace GM
open PySem PySem.Spec L2 DL
open RM (sz)
noncomputable def rayF : Option Rat → Rat × Rat
  | none => (1, 0)
  | some q => (q, 1)
end GM

namespace GM
open PySem PySem.Spec L2 DL
open RM (sz)
end GM

namespace GM
open PySem PySem.Spec L2 DL
open RM (sz)
end GM

namespace GM
open PySem PySem.Spec L2 DL
open RM (sz)
theorem partD_inj {x y : Str × Rat} (h : partD x = partD y) : x = y := by
  unfold partD at h
  injection h with h
  injection h with h1 h2
  injection h1 with h1
  injection h2 with h2 _
  exact Prod.ext h1 (ratD_inj h2)
theorem partD_iff {x y : Str × Rat} : partD x = partD y ↔ x = y := ⟨partD_inj, fun h => by rw [h]⟩
theorem partsD_iff {xs ys : List (Str × Rat)} : xs.map partD = ys.map partD ↔ xs = ys := List.map_inj_right (fun _ _ h => partD_inj h)
noncomputable def lineD (l : Rat × Rat × Rat) : D := .tup [ratD l.1, ratD l.2.1, ratD l.2.2]
theorem lineD_inj {x y : Rat × Rat × Rat} (h : lineD x = lineD y) : x = y := by
  unfold lineD at h
  injection h with h
  injection h with h1 h2
  injection h2 with h2 h3
  injection h3 with h3 _
  exact Prod.ext (ratD_inj h1) (Prod.ext (ratD_inj h2) (ratD_inj h3))
theorem lineD_iff {x y : Rat × Rat × Rat} : lineD x = lineD y ↔ x = y := ⟨lineD_inj, fun h => by rw [h]⟩
theorem linesD_iff {xs ys : List (Rat × Rat × Rat)} : xs.map lineD = ys.map lineD ↔ xs = ys := List.map_inj_right (fun _ _ h => lineD_inj h)
theorem r_line {p q r : Rat} : D.tup [ratD p, ratD q, ratD r] = lineD (p, q, r) := rfl
theorem z_lineG {gs : DTGs} {l : Rat × Rat × Rat} {e : Ev} {M : Mem} {Q : Ev → Mem → Prop} : dgTup 3 gs (lineD l) e M Q = gs [ratD l.1, ratD l.2.1, ratD l.2.2] e M Q := z_gTup rfl
theorem z_line0 {l : Rat × Rat × Rat} {M : Mem} {R : DK} : gIx (lineD l) (.int 0) M R = R (ratD l.1) M := z_ixT0
theorem z_line1 {l : Rat × Rat × Rat} {M : Mem} {R : DK} : gIx (lineD l) (.int 1) M R = R (ratD l.2.1) M := z_ixT1
theorem z_line2 {l : Rat × Rat × Rat} {M : Mem} {R : DK} : gIx (lineD l) (.int 2) M R = R (ratD l.2.2) M := z_ixT2
theorem z_rat0 {q : Rat} {M : Mem} {R : DK} : gIx (ratD q) (.int 0) M R = R (.int q.num) M := z_ixT0
theorem z_rat1 {q : Rat} {M : Mem} {R : DK} : gIx (ratD q) (.int 1) M R = R (.int (q.den : Int)) M := z_ixT1
theorem z_ratG {gs : DTGs} {q : Rat} {e : Ev} {M : Mem} {Q : Ev → Mem → Prop} : dgTup 2 gs (ratD q) e M Q = gs [.int q.num, .int (q.den : Int)] e M Q := z_gTup rfl
theorem z_ratL {q : Rat} {M : Mem} {R : DK} : gLen [ratD q] M R = R (.int 2) M := z_Len rfl
theorem z_part0 {x : Str × Rat} {M : Mem} {R : DK} : gIx (partD x) (.int 0) M R = R (.str x.1) M := z_ixT0
theorem z_part1 {x : Str × Rat} {M : Mem} {R : DK} : gIx (partD x) (.int 1) M R = R (ratD x.2) M := z_ixT1
theorem z_partG {gs : DTGs} {x : Str × Rat} {e : Ev} {M : Mem} {Q : Ev → Mem → Prop} : dgTup 2 gs (partD x) e M Q = gs [.str x.1, ratD x.2] e M Q := z_gTup rfl
theorem z_ratIsT {q : Rat} {M : Mem} {R : DK} : gIsi [ratD q, .ty "tuple"] M R = R (.bl true) M := z_Isi rfl rfl
theorem z_partIsT {x : Str × Rat} {M : Mem} {R : DK} : gIsi [partD x, .ty "tuple"] M R = R (.bl true) M := z_Isi rfl rfl
theorem z_partL {x : Str × Rat} {M : Mem} {R : DK} : gLen [partD x] M R = R (.int 2) M := z_Len rfl
theorem z_clR60 {q : Rat} : cl 60 (ratD q) = true := rfl
theorem z_clR59 {q : Rat} : cl 59 (ratD q) = true := rfl
theorem z_clR58 {q : Rat} : cl 58 (ratD q) = true := rfl
theorem z_clR57 {q : Rat} : cl 57 (ratD q) = true := rfl
theorem r0 : D.tup [.int 0, .int 1] = ratD 0 := rfl
theorem r1 : D.tup [.int 1, .int 1] = ratD 1 := rfl
theorem r2 : D.tup [.int 2, .int 1] = ratD 2 := rfl
theorem r4 : D.tup [.int 4, .int 1] = ratD 4 := rfl
theorem r_abs {q : Rat} : D.tup [.int (q.num.natAbs : Int), .int (q.den : Int)] = ratD (absQ q) := (absQ_D q).symm
theorem r_neg {q : Rat} : D.tup [.int (-q.num), .int (q.den : Int)] = ratD (-q) := by unfold ratD; rw [Rat.neg_num, Rat.neg_den]
theorem r_self {q : Rat} : D.tup [.int q.num, .int (q.den : Int)] = ratD q := rfl
theorem rm2 : D.tup [.int (-2), .int 1] = ratD (-2) := rfl
theorem rm1 : D.tup [.int (-1), .int 1] = ratD (-1) := rfl
theorem z_spDivisor {a b : Nat} {M : Mem} {R : DK} {Y : DXK} : spDivisor [.int (a : Int), .int (b : Int)] M R Y = (R (.int ((Nat.gcd a b : Nat) : Int)) M) := propext ⟨fun z => by obtain ⟨a', b', e, h⟩ := z; (simp only [List.cons.injEq, and_true, true_and, GM.ratD_iff, GM.partD_iff, GM.partsD_iff, GM.lineD_iff, GM.linesD_iff, D.tup.injEq, D.ref.injEq, D.int.injEq, D.str.injEq, D.bl.injEq, D.vl.injEq, Int.natCast_inj, and_assoc] at e; (repeat (obtain ⟨e1, e⟩ := e; subst e1)); subst e; exact h), fun h => ⟨a, b, rfl, h⟩⟩
theorem z_spOpp {q : Rat} {M : Mem} {R : DK} {Y : DXK} : spOpp [ratD q] M R Y = (R (ratD (-q)) M) := propext ⟨fun z => by obtain ⟨q', e, h⟩ := z; (simp only [List.cons.injEq, and_true, true_and, GM.ratD_iff, GM.partD_iff, GM.partsD_iff, GM.lineD_iff, GM.linesD_iff, D.tup.injEq, D.ref.injEq, D.int.injEq, D.str.injEq, D.bl.injEq, D.vl.injEq, Int.natCast_inj, and_assoc] at e; (repeat (obtain ⟨e1, e⟩ := e; subst e1)); subst e; exact h), fun h => ⟨q, rfl, h⟩⟩
theorem z_spPlus {q r : Rat} {M : Mem} {R : DK} {Y : DXK} : spPlus [ratD q, ratD r] M R Y = (sz q + sz r ≤ 8900 ∧ R (ratD (q + r)) M) := propext ⟨fun z => by obtain ⟨q', r', e, h⟩ := z; (simp only [List.cons.injEq, and_true, true_and, GM.ratD_iff, GM.partD_iff, GM.partsD_iff, GM.lineD_iff, GM.linesD_iff, D.tup.injEq, D.ref.injEq, D.int.injEq, D.str.injEq, D.bl.injEq, D.vl.injEq, Int.natCast_inj, and_assoc] at e; (repeat (obtain ⟨e1, e⟩ := e; subst e1)); subst e; exact h), fun h => ⟨q, r, rfl, h⟩⟩
theorem z_spMinus {q r : Rat} {M : Mem} {R : DK} {Y : DXK} : spMinus [ratD q, ratD r] M R Y = (sz q + sz r ≤ 8900 ∧ R (ratD (q - r)) M) := propext ⟨fun z => by obtain ⟨q', r', e, h⟩ := z; (simp only [List.cons.injEq, and_true, true_and, GM.ratD_iff, GM.partD_iff, GM.partsD_iff, GM.lineD_iff, GM.linesD_iff, D.tup.injEq, D.ref.injEq, D.int.injEq, D.str.injEq, D.bl.injEq, D.vl.injEq, Int.natCast_inj, and_assoc] at e; (repeat (obtain ⟨e1, e⟩ := e; subst e1)); subst e; exact h), fun h => ⟨q, r, rfl, h⟩⟩
theorem z_spTimes {q r : Rat} {M : Mem} {R : DK} {Y : DXK} : spTimes [ratD q, ratD r] M R Y = (sz q + sz r ≤ 8900 ∧ R (ratD (q * r)) M) := propext ⟨fun z => by obtain ⟨q', r', e, h⟩ := z; (simp only [List.cons.injEq, and_true, true_and, GM.ratD_iff, GM.partD_iff, GM.partsD_iff, GM.lineD_iff, GM.linesD_iff, D.tup.injEq, D.ref.injEq, D.int.injEq, D.str.injEq, D.bl.injEq, D.vl.injEq, Int.natCast_inj, and_assoc] at e; (repeat (obtain ⟨e1, e⟩ := e; subst e1)); subst e; exact h), fun h => ⟨q, r, rfl, h⟩⟩
theorem z_spOver {q r : Rat} {M : Mem} {R : DK} {Y : DXK} : spOver [ratD q, ratD r] M R Y = (r ≠ 0 ∧ sz q + sz r ≤ 8900 ∧ R (ratD (q / r)) M) := propext ⟨fun z => by obtain ⟨q', r', e, h⟩ := z; (simp only [List.cons.injEq, and_true, true_and, GM.ratD_iff, GM.partD_iff, GM.partsD_iff, GM.lineD_iff, GM.linesD_iff, D.tup.injEq, D.ref.injEq, D.int.injEq, D.str.injEq, D.bl.injEq, D.vl.injEq, Int.natCast_inj, and_assoc] at e; (repeat (obtain ⟨e1, e⟩ := e; subst e1)); subst e; exact h), fun h => ⟨q, r, rfl, h⟩⟩
theorem z_spLess {q r : Rat} {M : Mem} {R : DK} {Y : DXK} : spLess [ratD q, ratD r] M R Y = (sz q + sz r ≤ 8900 ∧ R (.bl (decide (q < r))) M) := propext ⟨fun z => by obtain ⟨q', r', e, h⟩ := z; (simp only [List.cons.injEq, and_true, true_and, GM.ratD_iff, GM.partD_iff, GM.partsD_iff, GM.lineD_iff, GM.linesD_iff, D.tup.injEq, D.ref.injEq, D.int.injEq, D.str.injEq, D.bl.injEq, D.vl.injEq, Int.natCast_inj, and_assoc] at e; (repeat (obtain ⟨e1, e⟩ := e; subst e1)); subst e; exact h), fun h => ⟨q, r, rfl, h⟩⟩
theorem z_spLow {a b : Int} {M : Mem} {R : DK} {Y : DXK} : spLow [.int a, .int b] M R Y = (b ≠ 0 ∧ b.natAbs.log2 < 9000 ∧ R (ratD (Rat.divInt a b)) M) := propext ⟨fun z => by obtain ⟨a', b', e, h⟩ := z; (simp only [List.cons.injEq, and_true, true_and, GM.ratD_iff, GM.partD_iff, GM.partsD_iff, GM.lineD_iff, GM.linesD_iff, D.tup.injEq, D.ref.injEq, D.int.injEq, D.str.injEq, D.bl.injEq, D.vl.injEq, Int.natCast_inj, and_assoc] at e; (repeat (obtain ⟨e1, e⟩ := e; subst e1)); subst e; exact h), fun h => ⟨a, b, rfl, h⟩⟩
theorem z_spPool {c : Int} {M : Mem} {R : DK} {Y : DXK} : spPool [.int c] M R Y = (∀ p M', M p = none → MK M M' → PoolAt M' p → R (.ref p) M') := propext ⟨fun z => by obtain ⟨c', e, h⟩ := z; (simp only [List.cons.injEq, and_true, true_and, GM.ratD_iff, GM.partD_iff, GM.partsD_iff, GM.lineD_iff, GM.linesD_iff, D.tup.injEq, D.ref.injEq, D.int.injEq, D.str.injEq, D.bl.injEq, D.vl.injEq, Int.natCast_inj, and_assoc] at e; (repeat (obtain ⟨e1, e⟩ := e; subst e1)); subst e; exact h), fun h => ⟨c, rfl, h⟩⟩
theorem z_spNext {p : Addr} {b : Int} {M : Mem} {R : DK} {Y : DXK} : spNext [.ref p, .int b] M R Y = (PoolAt M p ∧ 0 < b ∧ b.natAbs.log2 < 9000 ∧ ∀ (r : Int) M', 0 ≤ r → r < b → PStep p M M' → R (.int r) M') := propext ⟨fun z => by obtain ⟨p', b', e, h⟩ := z; (simp only [List.cons.injEq, and_true, true_and, GM.ratD_iff, GM.partD_iff, GM.partsD_iff, GM.lineD_iff, GM.linesD_iff, D.tup.injEq, D.ref.injEq, D.int.injEq, D.str.injEq, D.bl.injEq, D.vl.injEq, Int.natCast_inj, and_assoc] at e; (repeat (obtain ⟨e1, e⟩ := e; subst e1)); subst e; exact h), fun h => ⟨p, b, rfl, h⟩⟩
theorem z_spRoot {q : Rat} {M : Mem} {R : DK} {Y : DXK} : spRoot [ratD q] M R Y = (RM.sz q ≤ 4000 ∧ ∀ v, RootIs q v → R v M) := propext ⟨fun z => by obtain ⟨q', e, h⟩ := z; (simp only [List.cons.injEq, and_true, true_and, GM.ratD_iff, GM.partD_iff, GM.partsD_iff, GM.lineD_iff, GM.linesD_iff, D.tup.injEq, D.ref.injEq, D.int.injEq, D.str.injEq, D.bl.injEq, D.vl.injEq, Int.natCast_inj, and_assoc] at e; (repeat (obtain ⟨e1, e⟩ := e; subst e1)); subst e; exact h), fun h => ⟨q, rfl, h⟩⟩
theorem z_spColumns {a b c d : Rat} {M : Mem} {R : DK} {Y : DXK} : spColumns [rayD a c, rayD b d] M R Y = (R (tabD a b c d) M) := propext ⟨fun z => by obtain ⟨a', b', c', d', e, h⟩ := z; (simp only [List.cons.injEq, and_true, true_and, GM.ratD_iff, GM.partD_iff, GM.partsD_iff, GM.lineD_iff, GM.linesD_iff, D.tup.injEq, D.ref.injEq, D.int.injEq, D.str.injEq, D.bl.injEq, D.vl.injEq, Int.natCast_inj, and_assoc] at e; (repeat (obtain ⟨e1, e⟩ := e; subst e1)); subst e; exact h), fun h => ⟨a, b, c, d, rfl, h⟩⟩
noncomputable def sLed : DSp := fun ds M R Y => ∃ (a b c d y u : Rat), ds = [tabD a b c d, rayD y u] ∧ sz a + sz y + (sz b + sz u) ≤ 8900 ∧ sz c + sz y + (sz d + sz u) ≤ 8900 ∧ R (rayD (a * y + b * u) (c * y + d * u)) M
theorem z_sLed {a b c d y u : Rat} {M : Mem} {R : DK} {Y : DXK} : sLed [tabD a b c d, rayD y u] M R Y = (sz a + sz y + (sz b + sz u) ≤ 8900 ∧ sz c + sz y + (sz d + sz u) ≤ 8900 ∧ R (rayD (a * y + b * u) (c * y + d * u)) M) := propext ⟨fun z => by obtain ⟨a', b', c', d', y', u', e, h⟩ := z; (simp only [List.cons.injEq, and_true, true_and, GM.ratD_iff, GM.partD_iff, GM.partsD_iff, GM.lineD_iff, GM.linesD_iff, D.tup.injEq, D.ref.injEq, D.int.injEq, D.str.injEq, D.bl.injEq, D.vl.injEq, Int.natCast_inj, and_assoc] at e; (repeat (obtain ⟨e1, e⟩ := e; subst e1)); subst e; exact h), fun h => ⟨a, b, c, d, y, u, rfl, h⟩⟩
theorem szS {ns : List Int} (h : ns.length ≤ 63) (k : Nat) (hk : k ≤ 100 := by decide) : (ns.map D.int).length + k ≤ sizeLine := by
  rw [List.length_map]; exact Nat.le_trans (Nat.add_le_add h hk) (sl 163)
mutual
/-- clean data of bounded width, k deep -/
noncomputable def clv : Nat → D → Bool
  | _, .int _ => true
  | _, .non => true
  | _, .str x => PyData.canLay0 (.str x)
  | k + 1, .tup ds => decide (ds.length ≤ 900) && clvL k ds
  | k + 1, .vl ds => decide (ds.length ≤ 900) && clvL k ds
  | _, _ => false
noncomputable def clvL : Nat → List D → Bool
  | _, [] => true
  | k, d :: r => clv k d && clvL k r
end
theorem clvL_mem {k : Nat} : ∀ {ds : List D} {x : D}, clvL k ds = true → x ∈ ds → clv k x = true
  | [], _, _, h => by cases h
  | d :: r, x, h, hx => by
    have h' : clv k d = true ∧ clvL k r = true := by simpa [clvL] using h
    rcases List.mem_cons.mp hx with rfl | z
    · exact h'.1
    · exact clvL_mem h'.2 z
noncomputable def sSame (k : Nat) : DSp := fun ds M R _ => ∃ x : D, ds = [x, x] ∧ clv k x = true ∧ R (.bl true) M
theorem z_sSame {k : Nat} {x : D} {M : Mem} {R : DK} {Y : DXK} : sSame k [x, x] M R Y = (clv k x = true ∧ R (.bl true) M) := propext ⟨fun zz => by obtain ⟨x', e, h⟩ := zz; cases e; exact h, fun h => ⟨x, rfl, h⟩⟩
theorem zipD_self {xs : List D} : zipD xs xs = xs.map fun x => D.tup [x, x] := by
  unfold zipD
  induction xs with
  | nil => rfl
  | cons a r ih => rw [List.zipWith_cons_cons, ih]; rfl
theorem all_true {α : Type} {xs : List α} : (xs.map fun _ => true).all id = true := by
  induction xs with
  | nil => rfl
  | cons a r ih => rw [List.map_cons, List.all_cons, ih]; rfl
theorem PStep.put {p l : Addr} {M M' : Mem} {o : MO} (h : PStep p M M') (hl : M l = none) (hp : l ≠ p) : PStep p M (updM M' l o) := ⟨fun b u hb e => by
    rw [updM_ne (by intro z; subst z; rw [hl] at e; cases e)]; exact h.keep b u hb e, by
    obtain ⟨x, y, z, e⟩ := h.pool.ex
    exact ⟨x, y, z, by rw [updM_ne (Ne.symm hp)]; exact e⟩⟩
theorem PStep.del {p l : Addr} {M M' : Mem} (h : PStep p M M') (hl : M l = none) (hp : l ≠ p) : PStep p M (delM M' l) := ⟨fun b u hb e => by
    rw [delM_ne (by intro z; subst z; rw [hl] at e; cases e)]; exact h.keep b u hb e, by
    obtain ⟨x, y, z, e⟩ := h.pool.ex
    exact ⟨x, y, z, by rw [delM_ne (Ne.symm hp)]; exact e⟩⟩
end GM

set_option maxHeartbeats 1000000
namespace GM
open PySem PySem.Spec L2 DL
open RM (sz)
end GM

namespace GM
open PySem PySem.Spec L2 DL
open RM (sz)
structure Small (w : Rat) : Prop where
  n : w.num.natAbs ≤ 4
  d : w.den ≤ 4
  ne : w ≠ 0
theorem small_one : Small 1 := ⟨by decide, by decide, by decide⟩
theorem Small.sz {w : Rat} (h : Small w) : RM.sz w ≤ 3 := by
  rw [← Rat.num_divInt_den w]
  exact low_sz (by decide) (by have := h.n; omega) (by have := h.d; omega) (RM.den_ne w)
end GM

namespace GM
open PySem PySem.Spec L2 DL
open RM (sz)
theorem isNN {neg : Bool} {M : Mem} {R : DK} : gIs neg .non .non M R = R (.bl (neg.xor true)) M := z_Is rfl
theorem isRN {neg : Bool} {q : Rat} {M : Mem} {R : DK} : gIs neg (ratD q) .non M R = R (.bl (neg.xor false)) M := z_Is rfl
noncomputable def optD : Option Rat → D
  | none => .non
  | some q => ratD q
end GM

namespace GM
open PySem PySem.Spec L2 DL
open RM (sz)
theorem div_pos' {a b : Rat} (ha : 0 < a) (hb : 0 < b) : 0 < a / b := (Rat.lt_div_iff hb).mpr (by grind)
end GM

namespace GM
open PySem PySem.Spec L2 DL
end GM

namespace GM
open PySem PySem.Spec L2 DL
open RM (sz)
theorem num_neg' {q : Rat} : q.num < 0 ↔ q < 0 := num_neg_iff q
end GM

namespace GM
open PySem PySem.Spec L2 DL
open RM (sz)
noncomputable def negO (o : Option Rat) : Option Rat := o.map fun q => -q
theorem z_sIsO {neg : Bool} {o : Option Rat} {M : Mem} {R : DK} : gIs neg (optD o) .non M R = R (.bl (neg.xor o.isNone)) M := by
  cases o with
  | none => exact isNN
  | some q => exact isRN
noncomputable def sRayFr : DSp := fun ds M R Y => ∃ (x : D), ds = [x] ∧ ∃ o : Option Rat, x = optD o ∧ R (rayD (rayF o).1 (rayF o).2) M
theorem z_sRayFr {x : D} {M : Mem} {R : DK} {Y : DXK} : sRayFr [x] M R Y = (∃ o : Option Rat, x = optD o ∧ R (rayD (rayF o).1 (rayF o).2) M) := propext ⟨fun z => by obtain ⟨x', e, h⟩ := z; (simp only [List.cons.injEq, and_true, true_and, GM.ratD_iff, GM.partD_iff, GM.partsD_iff, GM.lineD_iff, GM.linesD_iff, D.tup.injEq, D.ref.injEq, D.int.injEq, D.str.injEq, D.bl.injEq, D.vl.injEq, Int.natCast_inj, and_assoc] at e; (repeat (obtain ⟨e1, e⟩ := e; subst e1)); subst e; exact h), fun h => ⟨x, rfl, h⟩⟩
end GM

namespace GM
open PySem PySem.Spec L2 DL
open RM (sz)
noncomputable abbrev Q2 := Rat × Rat
noncomputable def crQ (v w : Q2) : Rat := v.1 * w.2 - w.1 * v.2
noncomputable def frA (v1 v2 v3 : Q2) : Rat := v1.1 * crQ v3 v2
noncomputable def frB (v1 v2 v3 : Q2) : Rat := v2.1 * crQ v1 v3
noncomputable def frC (v1 v2 v3 : Q2) : Rat := v1.2 * crQ v3 v2
noncomputable def frD (v1 v2 v3 : Q2) : Rat := v2.2 * crQ v1 v3
structure E4 where
  a : Rat
  b : Rat
  c : Rat
  d : Rat
noncomputable def enQ (v1 v2 v3 w1 w2 w3 : Q2) : E4 :=
  ⟨frA w1 w2 w3 * frD v1 v2 v3 + frB w1 w2 w3 * -frC v1 v2 v3, frA w1 w2 w3 * -frB v1 v2 v3 + frB w1 w2 w3 * frA v1 v2 v3, frC w1 w2 w3 * frD v1 v2 v3 + frD w1 w2 w3 * -frC v1 v2 v3, frC w1 w2 w3 * -frB v1 v2 v3 + frD w1 w2 w3 * frA v1 v2 v3⟩
noncomputable def E4.det (e : E4) : Rat := e.a * e.d - e.b * e.c
noncomputable def frDet (v1 v2 v3 : Q2) : Rat := crQ v3 v2 * crQ v1 v3 * crQ v1 v2
theorem fr_det (v1 v2 v3 : Q2) : frA v1 v2 v3 * frD v1 v2 v3 - frB v1 v2 v3 * frC v1 v2 v3 = frDet v1 v2 v3 := by unfold frA frB frC frD frDet crQ; grind
theorem en_det (v1 v2 v3 w1 w2 w3 : Q2) : (enQ v1 v2 v3 w1 w2 w3).det = frDet v1 v2 v3 * frDet w1 w2 w3 := by
  rw [← fr_det, ← fr_det]
  unfold E4.det enQ
  simp only
  grind
noncomputable def ngF (a b : Rat) : Bool := decide ((if a = 0 then b else a) < 0)
theorem mul_lt0 {m b : Rat} (hm : 0 < m) : m * b < 0 ↔ b < 0 := by
  constructor
  · intro z
    apply Classical.byContradiction
    intro q
    have := Rat.mul_nonneg (a := m) (b := b) (by grind) (by grind)
    grind
  · intro z
    have := Rat.mul_pos (a := m) (b := -b) hm (by grind)
    grind
theorem ngF_scale {m a b : Rat} (hm : 0 < m) : ngF (m * a) (m * b) = ngF a b := by
  unfold ngF
  by_cases h : a = 0
  · rw [if_pos (by rw [h]; grind), if_pos h]
    exact decide_eq_decide.mpr (mul_lt0 hm)
  · rw [if_neg (by grind), if_neg h]
    exact decide_eq_decide.mpr (mul_lt0 hm)
theorem ngF_neg {a b : Rat} (h : a ≠ 0 ∨ b ≠ 0) : ngF (-a) (-b) = !ngF a b := by
  unfold ngF
  by_cases h0 : a = 0
  · rw [if_pos (by rw [h0]; grind), if_pos h0]
    have hb : b ≠ 0 := h.resolve_left (fun z => z h0)
    rw [← decide_not]
    exact decide_eq_decide.mpr (by constructor <;> intro z <;> grind)
  · rw [if_neg (by grind), if_neg h0, ← decide_not]
    exact decide_eq_decide.mpr (by constructor <;> intro z <;> grind)
noncomputable def shQ (e : E4) (r : Rat) : Rat := if ngF e.a e.b = true then -r else r
noncomputable def SzV (k : Nat) (v : Q2) : Prop := sz v.1 ≤ k ∧ sz v.2 ≤ 1
theorem szv_ray {o : Option Rat} {k : Nat} (hk : 0 < k) (h : ∀ q, o = some q → sz q ≤ k) : SzV k (rayF o) := by
  cases o with
  | none => exact ⟨by show sz 1 ≤ k; rw [RM.sz_one]; exact hk, by show sz 0 ≤ 1; rw [RM.sz_zero]; decide⟩
  | some q => exact ⟨h q rfl, by show sz 1 ≤ 1; rw [RM.sz_one]; decide⟩
theorem szv_neg {o : Option Rat} {k : Nat} (hk : 0 < k) (h : ∀ q, o = some q → sz q ≤ k) : SzV k (rayF (negO o)) := by
  refine szv_ray hk fun q hq => ?_
  cases o with
  | none => cases hq
  | some p =>
    have : -p = q := Option.some.inj hq
    rw [← this, RM.sz_neg]; exact h p rfl
theorem sz_cr {v w : Q2} {k : Nat} (hv : SzV k v) (hw : SzV k w) : sz (crQ v w) ≤ 2 * k + 3 := by
  have h1 := RM.sz_mul v.1 w.2
  have h2 := RM.sz_mul w.1 v.2
  have h3 := RM.sz_sub (v.1 * w.2) (w.1 * v.2)
  have a1 := hv.1
  have a2 := hv.2
  have b1 := hw.1
  have b2 := hw.2
  unfold crQ
  omega
theorem sz_fr {v1 v2 v3 : Q2} {k : Nat} (hk : 0 < k) (h1 : SzV k v1) (h2 : SzV k v2) (h3 : SzV k v3) : sz (frA v1 v2 v3) ≤ 3 * k + 3 ∧ sz (frB v1 v2 v3) ≤ 3 * k + 3 ∧ sz (frC v1 v2 v3) ≤ 3 * k + 3 ∧ sz (frD v1 v2 v3) ≤ 3 * k + 3 := by
  have c1 := sz_cr h3 h2
  have c2 := sz_cr h1 h3
  have m1 := RM.sz_mul v1.1 (crQ v3 v2)
  have m2 := RM.sz_mul v2.1 (crQ v1 v3)
  have m3 := RM.sz_mul v1.2 (crQ v3 v2)
  have m4 := RM.sz_mul v2.2 (crQ v1 v3)
  have a1 := h1.1
  have a2 := h1.2
  have b1 := h2.1
  have b2 := h2.2
  unfold frA frB frC frD
  refine ⟨?_, ?_, ?_, ?_⟩ <;> omega
theorem sz_en {v1 v2 v3 w1 w2 w3 : Q2} {k j : Nat} (hk : 0 < k) (hj : 0 < j) (h1 : SzV k v1) (h2 : SzV k v2) (h3 : SzV k v3) (g1 : SzV j w1) (g2 : SzV j w2) (g3 : SzV j w3) :
    sz (enQ v1 v2 v3 w1 w2 w3).a ≤ 6 * (k + j) + 13 ∧ sz (enQ v1 v2 v3 w1 w2 w3).b ≤ 6 * (k + j) + 13 ∧ sz (enQ v1 v2 v3 w1 w2 w3).c ≤ 6 * (k + j) + 13 ∧ sz (enQ v1 v2 v3 w1 w2 w3).d ≤ 6 * (k + j) + 13 := by
  obtain ⟨p1, p2, p3, p4⟩ := sz_fr hk h1 h2 h3
  obtain ⟨q1, q2, q3, q4⟩ := sz_fr hj g1 g2 g3
  have key : ∀ {x y z t : Rat}, sz x ≤ 3 * j + 3 → sz y ≤ 3 * k + 3 → sz z ≤ 3 * j + 3 → sz t ≤ 3 * k + 3 → sz (x * y + z * t) ≤ 6 * (k + j) + 13 := fun {x y z t} a b c d => by
    have m1 := RM.sz_mul x y
    have m2 := RM.sz_mul z t
    have m3 := RM.sz_add (x * y) (z * t)
    omega
  have n2 : sz (-frB v1 v2 v3) ≤ 3 * k + 3 := by rw [RM.sz_neg]; exact p2
  have n3 : sz (-frC v1 v2 v3) ≤ 3 * k + 3 := by rw [RM.sz_neg]; exact p3
  exact ⟨key q1 p4 q2 n3, key q1 n2 q2 p1, key q3 p4 q4 n3, key q3 n2 q4 p1⟩
theorem sz_sqrt {r q : Rat} (h : r * r = q) : sz r ≤ sz q := by
  have hn : q.num = r.num * r.num ∧ q.den = r.den * r.den := by
    rw [← h]
    exact sq_parts r
  have h1 : r.num.natAbs ≤ q.num.natAbs := by
    rw [hn.1, Int.natAbs_mul]
    rcases Nat.eq_zero_or_pos r.num.natAbs with z | z
    · rw [z]; exact Nat.zero_le _
    · exact Nat.le_mul_of_pos_left _ z
  have h2 : r.den ≤ q.den := by
    rw [hn.2]; exact Nat.le_mul_of_pos_left _ (Nat.pos_of_ne_zero r.den_nz)
  exact RM.sz_le (Nat.le_trans (RM.bl_mono h1) (RM.sz_num q)) (Nat.le_trans (RM.bl_mono h2) (RM.sz_den q))
noncomputable def sThen19 : DSp := fun ds M R Y => ∃ (a b c d a' b' c' d' : Rat), ds = [tabD a b c d, tabD a' b' c' d'] ∧ (sz a' + sz a + (sz b' + sz c) ≤ 8900 ∧ sz a' + sz b + (sz b' + sz d) ≤ 8900 ∧ sz c' + sz a + (sz d' + sz c) ≤ 8900 ∧ sz c' + sz b + (sz d' + sz d) ≤ 8900) ∧ R (tabD (a' * a + b' * c) (a' * b + b' * d) (c' * a + d' * c) (c' * b + d' * d)) M
theorem z_sThen19 {a b c d a' b' c' d' : Rat} {M : Mem} {R : DK} {Y : DXK} : sThen19 [tabD a b c d, tabD a' b' c' d'] M R Y = ((sz a' + sz a + (sz b' + sz c) ≤ 8900 ∧ sz a' + sz b + (sz b' + sz d) ≤ 8900 ∧ sz c' + sz a + (sz d' + sz c) ≤ 8900 ∧ sz c' + sz b + (sz d' + sz d) ≤ 8900) ∧ R (tabD (a' * a + b' * c) (a' * b + b' * d) (c' * a + d' * c) (c' * b + d' * d)) M) := propext ⟨fun z => by obtain ⟨a', b', c', d', a'', b'', c'', d'', e, h⟩ := z; (simp only [List.cons.injEq, and_true, true_and, GM.ratD_iff, GM.partD_iff, GM.partsD_iff, GM.lineD_iff, GM.linesD_iff, D.tup.injEq, D.ref.injEq, D.int.injEq, D.str.injEq, D.bl.injEq, D.vl.injEq, Int.natCast_inj, and_assoc] at e; (repeat (obtain ⟨e1, e⟩ := e; subst e1)); subst e; exact h), fun h => ⟨a, b, c, d, a', b', c', d', rfl, h⟩⟩
noncomputable def sCr : DSp := fun ds M R Y => ∃ (y u z w : Rat), ds = [rayD y u, rayD z w] ∧ (sz y + sz w + (sz z + sz u) ≤ 8900) ∧ R (ratD (y * w - z * u)) M
theorem z_sCr {y u z w : Rat} {M : Mem} {R : DK} {Y : DXK} : sCr [rayD y u, rayD z w] M R Y = ((sz y + sz w + (sz z + sz u) ≤ 8900) ∧ R (ratD (y * w - z * u)) M) := propext ⟨fun z => by obtain ⟨y', u', z', w', e, h⟩ := z; (simp only [List.cons.injEq, and_true, true_and, GM.ratD_iff, GM.partD_iff, GM.partsD_iff, GM.lineD_iff, GM.linesD_iff, D.tup.injEq, D.ref.injEq, D.int.injEq, D.str.injEq, D.bl.injEq, D.vl.injEq, Int.natCast_inj, and_assoc] at e; (repeat (obtain ⟨e1, e⟩ := e; subst e1)); subst e; exact h), fun h => ⟨y, u, z, w, rfl, h⟩⟩
noncomputable def sGrown : DSp := fun ds M R Y => ∃ (y u s : Rat), ds = [rayD y u, ratD s] ∧ (sz y + sz s ≤ 8900 ∧ sz u + sz s ≤ 8900) ∧ R (rayD (y * s) (u * s)) M
theorem z_sGrown {y u s : Rat} {M : Mem} {R : DK} {Y : DXK} : sGrown [rayD y u, ratD s] M R Y = ((sz y + sz s ≤ 8900 ∧ sz u + sz s ≤ 8900) ∧ R (rayD (y * s) (u * s)) M) := propext ⟨fun z => by obtain ⟨y', u', s', e, h⟩ := z; (simp only [List.cons.injEq, and_true, true_and, GM.ratD_iff, GM.partD_iff, GM.partsD_iff, GM.lineD_iff, GM.linesD_iff, D.tup.injEq, D.ref.injEq, D.int.injEq, D.str.injEq, D.bl.injEq, D.vl.injEq, Int.natCast_inj, and_assoc] at e; (repeat (obtain ⟨e1, e⟩ := e; subst e1)); subst e; exact h), fun h => ⟨y, u, s, rfl, h⟩⟩
noncomputable def sUndone : DSp := fun ds M R Y => ∃ (a b c d : Rat), ds = [tabD a b c d] ∧ R (tabD d (-b) (-c) a) M
theorem z_sUndone {a b c d : Rat} {M : Mem} {R : DK} {Y : DXK} : sUndone [tabD a b c d] M R Y = (R (tabD d (-b) (-c) a) M) := propext ⟨fun z => by obtain ⟨a', b', c', d', e, h⟩ := z; (simp only [List.cons.injEq, and_true, true_and, GM.ratD_iff, GM.partD_iff, GM.partsD_iff, GM.lineD_iff, GM.linesD_iff, D.tup.injEq, D.ref.injEq, D.int.injEq, D.str.injEq, D.bl.injEq, D.vl.injEq, Int.natCast_inj, and_assoc] at e; (repeat (obtain ⟨e1, e⟩ := e; subst e1)); subst e; exact h), fun h => ⟨a, b, c, d, rfl, h⟩⟩
noncomputable def sRayTo : DSp := fun ds M R Y => ∃ (x : D), ds = [x] ∧ ∃ o : Option Rat, x = optD o ∧ R (rayD (rayF (negO o)).1 (rayF (negO o)).2) M
theorem z_sRayTo {x : D} {M : Mem} {R : DK} {Y : DXK} : sRayTo [x] M R Y = (∃ o : Option Rat, x = optD o ∧ R (rayD (rayF (negO o)).1 (rayF (negO o)).2) M) := propext ⟨fun z => by obtain ⟨x', e, h⟩ := z; (simp only [List.cons.injEq, and_true, true_and, GM.ratD_iff, GM.partD_iff, GM.partsD_iff, GM.lineD_iff, GM.linesD_iff, D.tup.injEq, D.ref.injEq, D.int.injEq, D.str.injEq, D.bl.injEq, D.vl.injEq, Int.natCast_inj, and_assoc] at e; (repeat (obtain ⟨e1, e⟩ := e; subst e1)); subst e; exact h), fun h => ⟨x, rfl, h⟩⟩
noncomputable def sFrame : DSp := fun ds M R Y => ∃ (x : D), ds = [x] ∧ ∃ (v1 v2 v3 : Q2), x = .vl [rayD v1.1 v1.2, rayD v2.1 v2.2, rayD v3.1 v3.2] ∧ (SzV 400 v1 ∧ SzV 400 v2 ∧ SzV 400 v3) ∧ R (tabD (frA v1 v2 v3) (frB v1 v2 v3) (frC v1 v2 v3) (frD v1 v2 v3)) M
theorem z_sFrame {x : D} {M : Mem} {R : DK} {Y : DXK} : sFrame [x] M R Y = (∃ (v1 v2 v3 : Q2), x = .vl [rayD v1.1 v1.2, rayD v2.1 v2.2, rayD v3.1 v3.2] ∧ (SzV 400 v1 ∧ SzV 400 v2 ∧ SzV 400 v3) ∧ R (tabD (frA v1 v2 v3) (frB v1 v2 v3) (frC v1 v2 v3) (frD v1 v2 v3)) M) := propext ⟨fun z => by obtain ⟨x', e, h⟩ := z; (simp only [List.cons.injEq, and_true, true_and, GM.ratD_iff, GM.partD_iff, GM.partsD_iff, GM.lineD_iff, GM.linesD_iff, D.tup.injEq, D.ref.injEq, D.int.injEq, D.str.injEq, D.bl.injEq, D.vl.injEq, Int.natCast_inj, and_assoc] at e; (repeat (obtain ⟨e1, e⟩ := e; subst e1)); subst e; exact h), fun h => ⟨x, rfl, h⟩⟩
noncomputable def sBegB : DSp := fun ds M R Y => ∃ (a b c d : Rat), ds = [tabD a b c d] ∧ (a ≠ 0 ∨ b ≠ 0) ∧ (sz a ≤ 4000 ∧ sz b ≤ 4000 ∧ sz c ≤ 4000 ∧ sz d ≤ 4000) ∧ R (.bl (ngF a b)) M
theorem z_sBegB {a b c d : Rat} {M : Mem} {R : DK} {Y : DXK} : sBegB [tabD a b c d] M R Y = ((a ≠ 0 ∨ b ≠ 0) ∧ (sz a ≤ 4000 ∧ sz b ≤ 4000 ∧ sz c ≤ 4000 ∧ sz d ≤ 4000) ∧ R (.bl (ngF a b)) M) := propext ⟨fun z => by obtain ⟨a', b', c', d', e, h⟩ := z; (simp only [List.cons.injEq, and_true, true_and, GM.ratD_iff, GM.partD_iff, GM.partsD_iff, GM.lineD_iff, GM.linesD_iff, D.tup.injEq, D.ref.injEq, D.int.injEq, D.str.injEq, D.bl.injEq, D.vl.injEq, Int.natCast_inj, and_assoc] at e; (repeat (obtain ⟨e1, e⟩ := e; subst e1)); subst e; exact h), fun h => ⟨a, b, c, d, rfl, h⟩⟩
noncomputable def prO (o z : Option Rat) : D := .tup [optD o, optD z]
noncomputable def enO (o1 z1 o2 z2 o3 z3 : Option Rat) : E4 := enQ (rayF o1) (rayF o2) (rayF o3) (rayF (negO z1)) (rayF (negO z2)) (rayF (negO z3))
noncomputable def SzO (k : Nat) (o : Option Rat) : Prop := ∀ q, o = some q → sz q ≤ k
noncomputable def tabE (e : E4) (s : Rat) : D := tabD (e.a / s) (e.b / s) (e.c / s) (e.d / s)
noncomputable def sTabBy : DSp := fun ds M R Y => ∃ (x : D), ds = [x] ∧ ∃ (o1 z1 o2 z2 o3 z3 : Option Rat) (k j : Nat), seqD M x [prO o1 z1, prO o2 z2, prO o3 z3] ∧ ((SzO k o1 ∧ SzO k o2 ∧ SzO k o3) ∧ (SzO j z1 ∧ SzO j z2 ∧ SzO j z3) ∧ (0 < k ∧ 0 < j ∧ k + j ≤ 160) ∧ (enO o1 z1 o2 z2 o3 z3).det ≠ 0) ∧ ((∀ r : Rat, r * r ≠ (enO o1 z1 o2 z2 o3 z3).det) → R .non M) ∧ ∀ r : Rat, 0 ≤ r → r * r = (enO o1 z1 o2 z2 o3 z3).det → R (.tup [tabE (enO o1 z1 o2 z2 o3 z3) (shQ (enO o1 z1 o2 z2 o3 z3) r), tabE (enO o1 z1 o2 z2 o3 z3) (-shQ (enO o1 z1 o2 z2 o3 z3) r)]) M
theorem z_sTabBy {x : D} {M : Mem} {R : DK} {Y : DXK} : sTabBy [x] M R Y = (∃ (o1 z1 o2 z2 o3 z3 : Option Rat) (k j : Nat), seqD M x [prO o1 z1, prO o2 z2, prO o3 z3] ∧ ((SzO k o1 ∧ SzO k o2 ∧ SzO k o3) ∧ (SzO j z1 ∧ SzO j z2 ∧ SzO j z3) ∧ (0 < k ∧ 0 < j ∧ k + j ≤ 160) ∧ (enO o1 z1 o2 z2 o3 z3).det ≠ 0) ∧ ((∀ r : Rat, r * r ≠ (enO o1 z1 o2 z2 o3 z3).det) → R .non M) ∧ ∀ r : Rat, 0 ≤ r → r * r = (enO o1 z1 o2 z2 o3 z3).det → R (.tup [tabE (enO o1 z1 o2 z2 o3 z3) (shQ (enO o1 z1 o2 z2 o3 z3) r), tabE (enO o1 z1 o2 z2 o3 z3) (-shQ (enO o1 z1 o2 z2 o3 z3) r)]) M) := propext ⟨fun z => by obtain ⟨x', e, h⟩ := z; (simp only [List.cons.injEq, and_true, true_and, GM.ratD_iff, GM.partD_iff, GM.partsD_iff, GM.lineD_iff, GM.linesD_iff, D.tup.injEq, D.ref.injEq, D.int.injEq, D.str.injEq, D.bl.injEq, D.vl.injEq, Int.natCast_inj, and_assoc] at e; (repeat (obtain ⟨e1, e⟩ := e; subst e1)); subst e; exact h), fun h => ⟨x, rfl, h⟩⟩
theorem cr_ne {o z : Option Rat} (h : o ≠ z) : crQ (rayF o) (rayF z) ≠ 0 := by
  unfold crQ
  cases o with
  | none =>
    cases z with
    | none => exact absurd rfl h
    | some q => show (1 : Rat) * 1 - q * 0 ≠ 0; grind
  | some p =>
    cases z with
    | none => show p * 0 - 1 * 1 ≠ 0; grind
    | some q =>
      show p * 1 - q * 1 ≠ 0
      intro e
      exact h (by rw [show p = q by grind])
theorem frDet_ne {o1 o2 o3 : Option Rat} (h12 : o1 ≠ o2) (h13 : o1 ≠ o3) (h23 : o2 ≠ o3) : frDet (rayF o1) (rayF o2) (rayF o3) ≠ 0 := by
  have c1 := cr_ne (fun e => h23 e.symm : o3 ≠ o2)
  have c2 := cr_ne h13
  have c3 := cr_ne h12
  unfold frDet
  grind
theorem PoolAt.upd {M : Mem} {p l : Addr} {o : MO} (h : PoolAt M p) (hl : l ≠ p) : PoolAt (updM M l o) p := by
  obtain ⟨x, y, z, e⟩ := h
  exact ⟨x, y, z, by rw [updM_ne (Ne.symm hl)]; exact e⟩
theorem gSlR {l : Addr} {xs : List D} {lo hi : Option Int} {M : Mem} {R : DK} (h : M l = some (.lst xs)) (r : R (.vl (cutD xs lo hi)) M) : gSlV (.ref l) lo hi M R := .inl ⟨xs, by simp only [itemsD, h], r⟩
theorem rot3 {o1 o2 o3 : Option Rat} {k : Nat} {v : Int} (v0 : 0 ≤ v) (v1 : v < 3) (n : (o1 ≠ o2 ∧ o1 ≠ o3) ∧ o2 ≠ o3) (k1 : SzO k o1) (k2 : SzO k o2) (k3 : SzO k o3) : ∃ p1 p2 p3 : Option Rat, cutD [optD o1, optD o2, optD o3] (some v) none ++ cutD [optD o1, optD o2, optD o3] none (some v) = [optD p1, optD p2, optD p3] ∧ (p1 ≠ p2 ∧ p1 ≠ p3 ∧ p2 ≠ p3) ∧ (SzO k p1 ∧ SzO k p2 ∧ SzO k p3) := by
  have ht : v = 0 ∨ v = 1 ∨ v = 2 := by omega
  obtain ⟨⟨n1, n2⟩, n3⟩ := n
  rcases ht with rfl | rfl | rfl
  · exact ⟨o1, o2, o3, rfl, ⟨n1, n2, n3⟩, k1, k2, k3⟩
  · exact ⟨o2, o3, o1, rfl, ⟨n3, n1.symm, n2.symm⟩, k2, k3, k1⟩
  · exact ⟨o3, o1, o2, rfl, ⟨n2.symm, n3.symm, n1⟩, k3, k1, k2⟩
theorem pr_cl (o z : Option Rat) : cl 59 (prO o z) = true := by cases o <;> cases z <;> rfl
end GM

namespace L2
open PySem PySem.Spec PyProof.Rows
noncomputable abbrev IsZip2 (h : Heap) (z TI TO a : Addr) (f : Bool) : Prop :=
  h.get? z = some { cls := .type "zip", dict := none, data := .fields #[rawInt a, .bool f, .bool false, .ref TI, .ref TO], slots := #[] }
theorem zip_nolen : typeLookup (.type "zip") "__len__" = pure none := by rw [typeLookup_type, builtinLookup_eq_fast]; kernel_rfl
theorem zip_nohint : typeLookup (.type "zip") "__length_hint__" = pure none := by rw [typeLookup_type, builtinLookup_eq_fast]; kernel_rfl
section
variable {prog : Program} {w : World} {A : Around} {E : Value → Shared → Prop} {s : Shared}
theorem alive_at {a : Addr} {o : Obj} {Q : Option Obj → Shared → Prop} (ho : s.heap.get? a = some o) (h : Q (some o) s) : wpAny (model prog w) A (loadIfAlive a) Q E s := by
  have h' : Q (s.heap.get? a) s := by rw [ho]; exact h
  exact fun _ _ _ => h'
theorem zipOut {z TI TO a : Addr} {f : Bool} {oa : Obj} {Q : Bool → Shared → Prop} (iz : IsZip2 s.heap z TI TO a f) (ha : s.heap.get? a = some oa)
    (q : ∀ h', IsZip2 h' z TI TO a true → Heap.SameBut z s.heap h' → Q false { s with heap := h' }) : wpAny (model prog w) A (Builtin.SmallTypes.ownedTupleIsFree (.ref z)) Q E s := by
  unfold Builtin.SmallTypes.ownedTupleIsFree
  refine wpAny_bind (wpAny_field iz rfl (x := rawInt a) rfl ?_)
  show wpAny _ _ (loadIfAlive ((a : Int).toNat) >>= _) _ _ _
  rw [Int.toNat_natCast]
  refine wpAny_bind (alive_at ha ?_)
  show wpAny _ _ (field (.ref z) 1 >>= _) _ _ _
  refine wpAny_bind (wpAny_field iz rfl (x := .bool f) rfl ?_)
  cases f with
  | true =>
    refine wpAny_ite_split (fun y => absurd y (by decide)) (fun _ => ?_)
    refine wpAny_pure (q s.heap iz ?_)
    exact ⟨rfl, fun _ _ => rfl⟩
  | false =>
    refine wpAny_ite_split (fun _ => ?_) (fun y => absurd (by decide) y)
    refine wpAny_bind (wpAny_setField_rec iz (by simp) fun h' e1 e2 => wpAny_pure (q h' e1 e2))
theorem zipTurn2 {z TI TO p1 p2 l1 l2 a : Addr} {f : Bool} {oa : Obj} {c1 c2 : Bool} {n1 n2 : Nat} {xs ys : Array Value} {v1 v2 : Value} {Q : Option Value → Shared → Prop} (D : ZipApart z TI TO p1 p2 l1 l2)
    (iz : IsZip2 s.heap z TI TO a f) (ha : s.heap.get? a = some oa) (iI : IsPair s.heap TI (.ref p1) (.ref p2)) (g1 : SI c1 s.heap p1 l1 n1) (g2 : SI c2 s.heap p2 l2 n2) (m1 : SS c1 s.heap l1 xs) (m2 : SS c2 s.heap l2 ys) (w1 : xs[n1]? = some v1) (w2 : ys[n2]? = some v2)
    (q : ∀ h', IsZip2 h' z TI TO a true → SI c1 h' p1 l1 (n1 + 1) → SI c2 h' p2 l2 (n2 + 1) → IsPair h' s.heap.objs.size v1 v2 → h'.objs.size = s.heap.objs.size + 1 →
      (∀ b o, b ≠ z → b ≠ p1 → b ≠ p2 → s.heap.get? b = some o → h'.get? b = some o) → Q (some (.ref s.heap.objs.size)) { s with heap := h' }) : wpAny (model prog w) A (pyNext (.ref z)) Q E s := by
  have ty : s.TypeIs (.ref z) "zip" := ⟨_, iz, rfl⟩
  unfold pyNext
  refine wpAny_bind (wpAny_attempt (wpAny_callSpecial?_slot (name := Str.ofString "__next__") ty F.slot_zip_next (wpAny_call_entry F.slot_zip_next ty F.entry_zip_next ?_ (F.args_zip_next_1 _))))
  show wpAny _ _ (field (.ref z) 2 >>= _) _ _ _
  refine wpAny_bind (wpAny_field iz rfl (x := .bool false) rfl ?_)
  show wpAny _ _ (field (.ref z) 3 >>= _) _ _ _
  refine wpAny_bind (wpAny_field iz rfl (x := .ref TI) rfl (wpAny_bind (wpAny_seqItems iI rfl ?_)))
  show wpAny _ _ (Builtin.SmallTypes.ownedTupleIsFree (.ref z) >>= _) _ _ _
  refine wpAny_bind (zipOut iz ha fun ha' za sa => ?_)
  simp only [Bool.false_eq_true, if_false]
  refine wpAny_bind ?_
  simp only [List.forIn_toArray, List.forIn_cons, List.forIn_nil]
  refine wpAny_bind (wpAny_bind (wpAny_holding ?_))
  show wpAny _ _ (Builtin.SmallTypes.nextOf (.ref p1) >>= _) _ _ _
  refine wpAny_bind (seqStep (g1.but sa.extBut D.i1z) (m1.but sa.extBut D.l1z) w1 fun hb gb sb => wpAny_pure ?_)
  refine wpAny_pure (wpAny_bind (wpAny_bind (wpAny_holding ?_)))
  show wpAny _ _ (Builtin.SmallTypes.nextOf (.ref p2) >>= _) _ _ _
  refine wpAny_bind (seqStep ((g2.but sa.extBut D.i2z).but sb.extBut D.i12.symm) ((m2.but sa.extBut D.l2z).but sb.extBut D.l2i1) w2 fun hd gd sd => wpAny_pure ?_)
  refine wpAny_pure (wpAny_pure ?_)
  refine wpAny_bind (wpAny_newTuple (hsz := show 2 ≤ sizeLine by decide) ?_)
  have zs : hd.objs.size = s.heap.objs.size := by rw [sd.1, sb.1, sa.1]
  have kE : ∀ b o, b ≠ z → b ≠ p1 → b ≠ p2 → s.heap.get? b = some o → hd.get? b = some o := fun b o b1 b3 b4 e => sd.extBut _ _ b4 (sb.extBut _ _ b3 (sa.extBut _ _ b1 e))
  refine wpAny_pure ⟨_, rfl, wpAny_pure ?_⟩
  show Q (some (.ref hd.objs.size)) _
  have gz : IsZip2 hd z TI TO a true := sd.extBut _ _ D.i2z.symm (sb.extBut _ _ D.i1z.symm za)
  rw [zs]
  refine q _ (Heap.get?_push_of_some _ gz) ((gb.but sd.extBut D.i12).at fun o e => Heap.get?_push_of_some _ e) (gd.at fun o e => Heap.get?_push_of_some _ e) ?_ (by rw [Heap.size_push, zs]) fun b o b1 b3 b4 e => Heap.get?_push_of_some _ (kE b o b1 b3 b4 e)
  have e9 : (hd.push { cls := .type "tuple", data := .seq #[v1, v2] }).get? hd.objs.size = some { cls := .type "tuple", data := .seq #[v1, v2] } := Heap.get?_push_size _ rfl
  rw [zs] at e9
  exact e9
theorem zipEnd2 {z TI TO p1 p2 l1 l2 a : Addr} {f : Bool} {oa : Obj} {c1 c2 : Bool} {n1 n2 : Nat} {xs ys : Array Value} {Q : Option Value → Shared → Prop} (hA : A.handled = none) (D : ZipApart z TI TO p1 p2 l1 l2)
    (iz : IsZip2 s.heap z TI TO a f) (ha : s.heap.get? a = some oa) (iI : IsPair s.heap TI (.ref p1) (.ref p2)) (g1 : SI c1 s.heap p1 l1 n1) (g2 : SI c2 s.heap p2 l2 n2) (m1 : SS c1 s.heap l1 xs) (m2 : SS c2 s.heap l2 ys) (fin : xs[n1]? = none ∨ ys[n2]? = none)
    (q : ∀ h', (∀ b o, b ≠ z → b ≠ p1 → b ≠ p2 → s.heap.get? b = some o → h'.get? b = some o) → Q none { s with heap := h' }) : wpAny (model prog w) A (pyNext (.ref z)) Q E s := by
  have ty : s.TypeIs (.ref z) "zip" := ⟨_, iz, rfl⟩
  unfold pyNext
  have out : ∀ (h' : Heap) (e : Addr), (∀ b o, b ≠ z → b ≠ p1 → b ≠ p2 → s.heap.get? b = some o → h'.get? b = some o) → (∃ o, h'.get? e = some o ∧ o.cls = .type "StopIteration") →
      wpAny (model prog w) A (do if ← isInstance (.ref e) (.type "StopIteration") then pure none else throw (.ref e) : Sem (Option Value)) Q E { s with heap := h' } := fun h' e k ⟨o, e1, e2⟩ =>
    wpAny_bind (wpAny_isInstance (T := "StopIteration") (b := true) ⟨o, e1, e2⟩ isSubtype_stop (wpAny_pure (q h' k)))
  refine wpAny_bind (wpAny_attempt (wpAny_callSpecial?_slot (name := Str.ofString "__next__") ty F.slot_zip_next (wpAny_call_entry F.slot_zip_next ty F.entry_zip_next ?_ (F.args_zip_next_1 _))))
  show wpAny _ _ (field (.ref z) 2 >>= _) _ _ _
  refine wpAny_bind (wpAny_field iz rfl (x := .bool false) rfl ?_)
  show wpAny _ _ (field (.ref z) 3 >>= _) _ _ _
  refine wpAny_bind (wpAny_field iz rfl (x := .ref TI) rfl (wpAny_bind (wpAny_seqItems iI rfl ?_)))
  show wpAny _ _ (Builtin.SmallTypes.ownedTupleIsFree (.ref z) >>= _) _ _ _
  refine wpAny_bind (zipOut iz ha fun ha' za sa => ?_)
  simp only [Bool.false_eq_true, if_false]
  refine wpAny_bind ?_
  simp only [List.forIn_toArray, List.forIn_cons, List.forIn_nil]
  refine wpAny_bind (wpAny_bind (wpAny_holding ?_))
  show wpAny _ _ (Builtin.SmallTypes.nextOf (.ref p1) >>= _) _ _ _
  cases w1 : xs[n1]? with
  | none =>
    refine wpAny_bind (seqEnd hA (g1.but sa.extBut D.i1z) (m1.but sa.extBut D.l1z) w1 fun hb e sb oe => ?_)
    exact out hb e (fun b o b1 b3 _ y => sb _ _ b3 (sa.extBut _ _ b1 y)) oe
  | some v1 =>
    have w2 : ys[n2]? = none := fin.resolve_left (by rw [w1]; exact fun y => nomatch y)
    refine wpAny_bind (seqStep (g1.but sa.extBut D.i1z) (m1.but sa.extBut D.l1z) w1 fun hb gb sb => wpAny_pure ?_)
    refine wpAny_pure (wpAny_bind (wpAny_bind (wpAny_holding ?_)))
    show wpAny _ _ (Builtin.SmallTypes.nextOf (.ref p2) >>= _) _ _ _
    refine wpAny_bind (seqEnd hA ((g2.but sa.extBut D.i2z).but sb.extBut D.i12.symm) ((m2.but sa.extBut D.l2z).but sb.extBut D.l2i1) w2 fun hd e sd oe => ?_)
    exact out hd e (fun b o b1 b3 b4 y => sd _ _ b4 (sb.extBut _ _ b3 (sa.extBut _ _ b1 y))) oe
end
end L2
namespace L2
open PySem PySem.Spec PyProof.Rows
section
variable {prog : Program} {w : World} {A : Around} {E : Value → Shared → Prop} {s : Shared}
structure ZlSt (k1 k2 : Bool) (h : Heap) (z TI TO p1 p2 l1 l2 S : Addr) (xs ys : Array Value) (i : Nat) : Prop where
  zip : IsZip h z TI TO .none ∨ ∃ a f oa, IsZip2 h z TI TO a f ∧ h.get? a = some oa ∧ a ≠ z ∧ a ≠ p1 ∧ a ≠ p2 ∧ a ≠ S
  ti : IsPair h TI (.ref p1) (.ref p2)
  tO : ∃ a b, IsPair h TO a b
  s1 : SI k1 h p1 l1 i
  s2 : SI k2 h p2 l2 i
  m1 : SS k1 h l1 xs
  m2 : SS k2 h l2 ys
theorem ZlSt.keep {k1 k2 : Bool} {h h' : Heap} {z TI TO p1 p2 l1 l2 S : Addr} {xs ys : Array Value} {i : Nat} (x : ZlSt k1 k2 h z TI TO p1 p2 l1 l2 S xs ys i) (k : ∀ b o, b ≠ S → h.get? b = some o → h'.get? b = some o)
    (n : z ≠ S ∧ TI ≠ S ∧ TO ≠ S ∧ p1 ≠ S ∧ p2 ≠ S ∧ l1 ≠ S ∧ l2 ≠ S) : ZlSt k1 k2 h' z TI TO p1 p2 l1 l2 S xs ys i where
  zip := x.zip.elim (fun y => .inl (k _ _ n.1 y)) fun ⟨a, f, oa, y, ha, a1, a2, a3, a4⟩ => .inr ⟨a, f, oa, k _ _ n.1 y, k _ _ a4 ha, a1, a2, a3, a4⟩
  ti := k _ _ n.2.1 x.ti
  tO := let ⟨a, b, y⟩ := x.tO; ⟨a, b, k _ _ n.2.2.1 y⟩
  s1 := x.s1.at fun o e => k _ o n.2.2.2.1 e
  s2 := x.s2.at fun o e => k _ o n.2.2.2.2.1 e
  m1 := x.m1.at fun o e => k _ o n.2.2.2.2.2.1 e
  m2 := x.m2.at fun o e => k _ o n.2.2.2.2.2.2 e
theorem zl_item {k1 k2 : Bool} {z TI TO p1 p2 l1 l2 S : Addr} {xs ys : Array Value} {i : Nat} {v1 v2 : Value} {Q : Option Value → Shared → Prop} (D : ZipApart z TI TO p1 p2 l1 l2) (st : ZlSt k1 k2 s.heap z TI TO p1 p2 l1 l2 S xs ys i) (hS : S < s.heap.objs.size) (w1 : xs[i]? = some v1) (w2 : ys[i]? = some v2)
    (q : ∀ h', ZlSt k1 k2 h' z TI TO p1 p2 l1 l2 S xs ys (i + 1) → IsPair h' s.heap.objs.size v1 v2 → h'.objs.size = s.heap.objs.size + 1 →
      (∀ b o, b ≠ z → b ≠ TO → b ≠ p1 → b ≠ p2 → s.heap.get? b = some o → h'.get? b = some o) → Q (some (.ref s.heap.objs.size)) { s with heap := h' }) : wpAny (model prog w) A (pyNext (.ref z)) Q E s := by
  obtain ⟨u1, u2, iO⟩ := st.tO
  have lt : ∀ {c o}, s.heap.get? c = some o → s.heap.objs.size ≠ c := fun e => Nat.ne_of_gt (Heap.lt_size e)
  have np1 : s.heap.objs.size ≠ p1 := by obtain ⟨o, e, _⟩ := st.s1.obj; exact lt e
  have np2 : s.heap.objs.size ≠ p2 := by obtain ⟨o, e, _⟩ := st.s2.obj; exact lt e
  rcases st.zip with iz | ⟨a, f, oa, iz, ha, a1, a2, a3, a4⟩
  · refine zipTurn D iz st.ti iO st.s1 st.s2 st.m1 st.m2 w1 w2 fun h' b1 b2 b3 b4 b5 b6 kk => q h' ⟨.inr ⟨_, false, _, b1, b5, lt iz, np1, np2, Nat.ne_of_gt hS⟩, kk _ _ D.TIz D.TITO D.TIi1 D.TIi2 st.ti, ⟨_, _, b2⟩, b3, b4, st.m1.at fun o e => kk _ o D.l1z D.l1TO D.l1i1 D.l1i2 e, st.m2.at fun o e => kk _ o D.l2z D.l2TO D.l2i1 D.l2i2 e⟩ b5 b6 kk
  · refine zipTurn2 D iz ha st.ti st.s1 st.s2 st.m1 st.m2 w1 w2 fun h' b1 b3 b4 b5 b6 kk => q h' ⟨.inr ⟨a, true, oa, b1, kk _ _ a1 a2 a3 ha, a1, a2, a3, a4⟩, kk _ _ D.TIz D.TIi1 D.TIi2 st.ti, ⟨_, _, kk _ _ D.TOz D.TOi1 D.TOi2 iO⟩, b3, b4, st.m1.at fun o e => kk _ o D.l1z D.l1i1 D.l1i2 e, st.m2.at fun o e => kk _ o D.l2z D.l2i1 D.l2i2 e⟩ b5 b6 fun b o c1 _ c3 c4 e => kk b o c1 c3 c4 e
theorem zl_done {k1 k2 : Bool} {z TI TO p1 p2 l1 l2 S : Addr} {xs ys : Array Value} {i : Nat} {Q : Option Value → Shared → Prop} (hA : A.handled = none) (D : ZipApart z TI TO p1 p2 l1 l2) (st : ZlSt k1 k2 s.heap z TI TO p1 p2 l1 l2 S xs ys i) (fin : xs[i]? = none ∨ ys[i]? = none)
    (q : ∀ h', (∀ b o, b ≠ z → b ≠ TO → b ≠ p1 → b ≠ p2 → s.heap.get? b = some o → h'.get? b = some o) → Q none { s with heap := h' }) : wpAny (model prog w) A (pyNext (.ref z)) Q E s := by
  obtain ⟨u1, u2, iO⟩ := st.tO
  rcases st.zip with iz | ⟨a, f, oa, iz, ha, a1, a2, a3, a4⟩
  · exact zipEnd hA D iz st.ti iO st.s1 st.s2 st.m1 st.m2 fin q
  · exact zipEnd2 hA D iz ha st.ti st.s1 st.s2 st.m1 st.m2 fin fun h' kk => q h' fun b o c1 _ c3 c4 e => kk b o c1 c3 c4 e
structure ZlG (xs ys : Array Value) (lo : Addr) (h : Heap) (as : List Addr) : Prop where
  rise : as.Pairwise (· < ·)
  above : ∀ a ∈ as, lo ≤ a
  pairs : ∀ (j : Nat) (a : Addr), as[j]? = some a → ∃ x y, xs[j]? = some x ∧ ys[j]? = some y ∧ IsPair h a x y
theorem ZlG.there {xs ys : Array Value} {lo : Addr} {h : Heap} {as : List Addr} (g : ZlG xs ys lo h as) {a : Addr} (ha : a ∈ as) : a < h.objs.size := by
  obtain ⟨j, hj⟩ := List.mem_iff_getElem?.mp ha
  obtain ⟨_, _, _, _, e⟩ := g.pairs j a hj
  exact Heap.lt_size e
theorem ZlG.keep {xs ys : Array Value} {lo : Addr} {h h' : Heap} {as : List Addr} (g : ZlG xs ys lo h as) (k : ∀ a ∈ as, ∀ o, h.get? a = some o → h'.get? a = some o) : ZlG xs ys lo h' as := ⟨g.rise, g.above, fun j a hj => by
  obtain ⟨x, y, e1, e2, e3⟩ := g.pairs j a hj
  exact ⟨x, y, e1, e2, k a (List.mem_of_getElem? hj) _ e3⟩⟩
end
section
variable {prog : Program} {w : World} {A : Around} {s : Shared} {R : Result → Shared → Prop}
theorem zl_loop {k1 k2 : Bool} {z TI TO p1 p2 l1 l2 S lo : Addr} {xs ys : Array Value} (hh : A.handled = none) (D : ZipApart z TI TO p1 p2 l1 l2) (hS : z ≠ S ∧ TI ≠ S ∧ TO ≠ S ∧ p1 ≠ S ∧ p2 ≠ S ∧ l1 ≠ S ∧ l2 ≠ S) (hlo : z < lo ∧ TO < lo ∧ p1 < lo ∧ p2 < lo ∧ S < lo)
    (n : Nat) (hn : n = xs.size ∧ n = ys.size) (hz : n ≤ sizeLine) (res : Value) {h₁ : Heap}
    (hR : ∀ h' tk acc c as, (∀ b o, b ≠ S → b ≠ z → b ≠ TO → b ≠ p1 → b ≠ p2 → h₁.get? b = some o → h'.get? b = some o) → h'.get? S = some { cls := .type "list", dict := none, data := .seq acc c, slots := #[] } → as.length = n → ZlG xs ys lo h' as →
      acc.toList = as.map Value.ref → R (.ok (.ret res)) { s with heap := h', toks := tk }) :
    ∀ (k i : Nat) (h : Heap) (tk c : Nat) (acc : Array Value) (as : List Addr), n - i = k → i ≤ n → ZlSt k1 k2 h z TI TO p1 p2 l1 l2 S xs ys i → (∀ b o, b ≠ S → b ≠ z → b ≠ TO → b ≠ p1 → b ≠ p2 → h₁.get? b = some o → h.get? b = some o) →
      h.get? S = some { cls := .type "list", dict := none, data := .seq acc c, slots := #[] } → acc.toList = as.map Value.ref → as.length = i → ZlG xs ys lo h as → lo ≤ h.objs.size →
      codeAny (model prog w) A (.builtin "list.extend.loop" ⟨[.ref S, .ref z, res], []⟩) R { s with heap := h, toks := tk } := by
  obtain ⟨l1', l2', l3', l4', l5'⟩ := hlo
  intro k
  induction k with
  | zero =>
    intro i h tk c acc as hk hi hst hkeep hSo hacc hal hG hIs
    refine codeAny_builtin PySem.F.entry_extend_loop ?_
    rw [Around.under_plainId PySem.F.plain_extend_loop _]
    show wpAny _ A.in1 (pyNext (.ref z) >>= _) _ _ _
    refine wpAny_bind (zl_done (s := { s with heap := h, toks := tk }) (A := A.in1) hh D hst (.inl (by simp; omega)) fun h' he => ?_)
    refine wpAny_pure (hR h' tk acc c as (fun b o h0 h1 h2 h3 h4 e => he b o h1 h2 h3 h4 (hkeep b o h0 h1 h2 h3 h4 e)) (he S _ hS.1.symm hS.2.2.1.symm hS.2.2.2.1.symm hS.2.2.2.2.1.symm hSo) (by omega) (hG.keep fun a ha o e => ?_) hacc)
    have ne : ∀ {b : Addr}, b < lo → a ≠ b := fun hb => Nat.ne_of_gt (Nat.lt_of_lt_of_le hb (hG.above a ha))
    exact he a o (ne l1') (ne l2') (ne l3') (ne l4') e
  | succ k ih =>
    intro i h tk c acc as hk hi hst hkeep hSo hacc hal hG hIs
    have hlt : i < n := by omega
    obtain ⟨v1, hx⟩ : ∃ p, xs[i]? = some p := ⟨xs[i], Array.getElem?_eq_getElem (by omega)⟩
    obtain ⟨v2, hy⟩ : ∃ p, ys[i]? = some p := ⟨ys[i], Array.getElem?_eq_getElem (by omega)⟩
    have hsz : acc.size = i := by rw [← Array.length_toList, hacc, List.length_map, hal]
    have hSl : S < h.objs.size := Heap.lt_size hSo
    refine codeAny_builtin PySem.F.entry_extend_loop ?_
    rw [Around.under_plainId PySem.F.plain_extend_loop _]
    show wpAny _ A.in1 (pyNext (.ref z) >>= _) _ _ _
    refine wpAny_bind (zl_item (s := { s with heap := h, toks := tk }) (S := S) D hst hSl hx hy fun h' hst' ht hz' hkp => ?_)
    dsimp only at ht hz' hkp ⊢
    have hS' := hkp S _ hS.1.symm hS.2.2.1.symm hS.2.2.2.1.symm hS.2.2.2.2.1.symm hSo
    have up : ∀ b o, b ≠ S → h'.get? b = some o → (h'.update S (Obj.mapSeq (·.push (Value.ref h.objs.size)))).get? b = some o := fun b o hb e => (Heap.get?_update_other _ _ (Ne.symm hb)).trans e
    have hG1 : ZlG xs ys lo (h'.update S (Obj.mapSeq (·.push (Value.ref h.objs.size)))) as := hG.keep fun a ha o e => by
      have ne : ∀ {b : Addr}, b < lo → a ≠ b := fun hb => Nat.ne_of_gt (Nat.lt_of_lt_of_le hb (hG.above a ha))
      exact up a o (ne l5') (hkp a o (ne l1') (ne l2') (ne l3') (ne l4') e)
    show wpAny _ A.in1 (updateSeq S (·.push (Value.ref h.objs.size)) >>= _) _ _ _
    refine wpAny_bind ?_
    refine wpAny_updateSeq hS' rfl (wpAny_pure ⟨plainId_quiet PySem.F.plain_extend_loop _, ih (i + 1) _ tk _ (acc.push (Value.ref h.objs.size)) (as ++ [h.objs.size]) (by omega) hlt (hst'.keep up hS)
      (fun b o h0 h1 h2 h3 h4 e => up b o h0 (hkp b o h1 h2 h3 h4 (hkeep b o h0 h1 h2 h3 h4 e))) (Heap.get?_update_self _ hS' rfl) (by rw [Array.toList_push, hacc, List.map_append]; rfl) (by rw [List.length_append, hal]; rfl) ⟨?_, ?_, ?_⟩ ?_⟩) (by rw [hsz]; omega) (by show (acc.push (Value.ref h.objs.size)).size ≤ sizeLine + 1; rw [Array.size_push, hsz]; omega)
    · refine List.pairwise_append.mpr ⟨hG.rise, List.pairwise_singleton _ _, fun a ha b hb => ?_⟩
      rw [List.mem_singleton.mp hb]
      exact hG.there ha
    · intro a ha
      rcases List.mem_append.mp ha with ha | ha
      · exact hG.above a ha
      · rw [List.mem_singleton.mp ha]; exact hIs
    · intro j b hj
      rcases Nat.lt_trichotomy j as.length with h1 | h1 | h1
      · rw [List.getElem?_append_left h1] at hj
        exact hG1.pairs j b hj
      · subst h1
        have hb : h.objs.size = b := by simpa using hj
        subst hb
        exact ⟨v1, v2, by rw [hal]; exact hx, by rw [hal]; exact hy, up _ _ (Nat.ne_of_gt hSl) ht⟩
      · have hnone : (as ++ [h.objs.size])[j]? = none := List.getElem?_eq_none (by rw [List.length_append, List.length_singleton]; omega)
        rw [hnone] at hj; cases hj
    · have e : (h'.update S (Obj.mapSeq (·.push (Value.ref h.objs.size)))).get? h.objs.size = _ := up _ _ (Nat.ne_of_gt hSl) ht
      exact Nat.le_trans hIs (Nat.le_of_lt (Heap.lt_size e))
end
section
variable {prog : Program} {w : World} {A : Around} {E : Value → Shared → Prop} {s : Shared}
theorem zl_hint {z : Addr} (hT : s.TypeIs (.ref z) "zip") {Q : Bool → Shared → Prop} (h : Q true s) : wpAny (model prog w) A (Builtin.List.listLengthHint (.ref z)) Q E s := by
  unfold Builtin.List.listLengthHint
  refine wpAny_bind (wpAny_specialOf hT zip_nolen ?_)
  show wpAny _ A (specialOf (Value.ref z) (Str.ofString "__length_hint__") >>= _) Q E s
  refine wpAny_bind (wpAny_specialOf hT zip_nohint ?_)
  exact wpAny_pure h
theorem zl_extend {R : Result → Shared → Prop} {k1 k2 : Bool} {z TI TO p1 p2 l1 l2 S : Addr} {xs ys : Array Value} {c₀ : Nat} (hh : A.handled = none) (D : ZipApart z TI TO p1 p2 l1 l2) (hS : z ≠ S ∧ TI ≠ S ∧ TO ≠ S ∧ p1 ≠ S ∧ p2 ≠ S ∧ l1 ≠ S ∧ l2 ≠ S)
    (st : ZlSt k1 k2 s.heap z TI TO p1 p2 l1 l2 S xs ys 0) (iz : IsZip s.heap z TI TO .none) (n : Nat) (hn : n = xs.size ∧ n = ys.size) (hz : n ≤ sizeLine)
    (hSo : s.heap.get? S = some { cls := .type "list", data := .seq #[] c₀ })
    (hR : ∀ h' tk acc c as, (∀ b o, b ≠ S → b ≠ z → b ≠ TO → b ≠ p1 → b ≠ p2 → s.heap.get? b = some o → h'.get? b = some o) → h'.get? S = some { cls := .type "list", dict := none, data := .seq acc c, slots := #[] } → as.length = n → ZlG xs ys s.heap.objs.size h' as →
      acc.toList = as.map Value.ref → R (.ok (.ret .none)) { s with heap := h', toks := tk }) :
    wpAny (model prog w) A.in1 (Builtin.List.listExtendWith (.ref S) (.ref z) .none) (Fin2 prog w A R) (fun e s' => R (.error e) s') s := by
  have ty : s.TypeIs (.ref z) "zip" := ⟨_, iz, rfl⟩
  obtain ⟨u1, u2, iO⟩ := st.tO
  have q1 : p1 < s.heap.objs.size := by obtain ⟨o, e, _⟩ := st.s1.obj; exact Heap.lt_size e
  have q2 : p2 < s.heap.objs.size := by obtain ⟨o, e, _⟩ := st.s2.obj; exact Heap.lt_size e
  unfold Builtin.List.listExtendWith
  refine wpAny_bind (wpAny_typeOf ty ?_)
  have n1 : Builtin.List.listSameRef (.ref S) (.ref z) = false := by simp [Builtin.List.listSameRef, hS.1.symm]
  have n2 : (Value.type "zip" == Value.type "list") = false := by decide
  have n3 : (Value.type "zip" == Value.type "tuple") = false := by decide
  simp only [n1, n2, n3, Bool.or_false, Bool.false_eq_true, if_false]
  refine wpAny_bind (wpAny_pyIter_zip iz (wpAny_bind (wpAny_holding (zl_hint ty ?_))))
  refine wpAny_ite_split (fun _ => ?_) (fun y => absurd rfl y)
  refine wpAny_bind (wpAny_rule ?_)
  refine wpAny_bind ?_
  show wpAny _ A.in1 (updateSeq S (·.push .none) >>= fun _ => updateSeq S (·.pop)) _ _ _
  refine wpAny_bind (wpAny_updateSeq hSo rfl ?_)
  have g2 := Heap.get?_update_self (Obj.mapSeq (·.push Value.none)) hSo rfl
  refine wpAny_updateSeq (hz := by seq_fits) g2 rfl ?_
  have g3 := Heap.get?_update_self (Obj.mapSeq (·.pop)) g2 rfl
  have oth : ∀ b o, b ≠ S → s.heap.get? b = some o → ((s.heap.update S (Obj.mapSeq (·.push Value.none))).update S (Obj.mapSeq (·.pop))).get? b = some o :=
    fun b o q1 q2 => (Heap.get?_update_other _ _ (Ne.symm q1)).trans ((Heap.get?_update_other _ _ (Ne.symm q1)).trans q2)
  refine wpAny_pure ⟨plainId_quiet F.plain_extend_loop _, ?_⟩
  refine zl_loop (s := s) (lo := s.heap.objs.size) (h₁ := s.heap) hh D hS ⟨Heap.lt_size iz, Heap.lt_size iO, q1, q2, Heap.lt_size hSo⟩ n hn hz .none (fun h' tk acc c as k1 k2 k3 k4 k5 => hR h' tk acc c as k1 k2 k3 k4 k5) n 0 _ _ _ #[] [] (by omega) (Nat.zero_le _) (st.keep oth hS) (fun b o h0 _ _ _ _ e => oth b o h0 e) g3 rfl rfl ⟨List.Pairwise.nil, (fun _ ha => nomatch ha), (fun j a hj => by simp at hj)⟩ ?_
  have e1 : (s.heap.update S (Obj.mapSeq (·.push Value.none))).objs.size = s.heap.objs.size := (Heap.SameBut.update ..).1
  have e2 : ((s.heap.update S (Obj.mapSeq (·.push Value.none))).update S (Obj.mapSeq (·.pop))).objs.size = (s.heap.update S (Obj.mapSeq (·.push Value.none))).objs.size := (Heap.SameBut.update ..).1
  rw [e2, e1]
  exact Nat.le_refl _
theorem zl_init {R : Result → Shared → Prop} {k1 k2 : Bool} {z TI TO p1 p2 l1 l2 S : Addr} {xs ys : Array Value} (hh : A.handled = none) (D : ZipApart z TI TO p1 p2 l1 l2) (hS : z ≠ S ∧ TI ≠ S ∧ TO ≠ S ∧ p1 ≠ S ∧ p2 ≠ S ∧ l1 ≠ S ∧ l2 ≠ S)
    (st : ZlSt k1 k2 s.heap z TI TO p1 p2 l1 l2 S xs ys 0) (iz : IsZip s.heap z TI TO .none) (n : Nat) (hn : n = xs.size ∧ n = ys.size) (hz : n ≤ sizeLine)
    (hSo : s.heap.get? S = some { cls := .type "list", data := .seq #[] })
    (hR : ∀ h' tk acc c as, (∀ b o, b ≠ S → b ≠ z → b ≠ TO → b ≠ p1 → b ≠ p2 → s.heap.get? b = some o → h'.get? b = some o) → h'.get? S = some { cls := .type "list", dict := none, data := .seq acc c, slots := #[] } → as.length = n → ZlG xs ys s.heap.objs.size h' as →
      acc.toList = as.map Value.ref → R (.ok (.ret .none)) { s with heap := h', toks := tk }) :
    wpAny (model prog w) A.in1 (Builtin.«list.__init__» ⟨[.ref S, .ref z], []⟩) (Fin2 prog w A R) (fun e s' => R (.error e) s') s := by
  show wpAny _ A.in1 (Builtin.List.listItems (.ref S) >>= fun was => Builtin.List.listUpdate (.ref S) (fun _ => #[]) >>= fun _ => letGo was.toList.reverse >>= fun _ => Builtin.List.listExtendWith (.ref S) (.ref z) .none) (Fin2 prog w A R) (fun e s' => R (.error e) s') s
  unfold Builtin.List.listItems
  refine wpAny_bind (wpAny_bind (wpAny_seqItems hSo rfl (wpAny_pure ?_)))
  show wpAny _ A.in1 (updateSeq S (fun _ => #[]) >>= fun _ => letGo (#[] : Array Value).toList.reverse >>= fun _ => Builtin.List.listExtendWith (.ref S) (.ref z) .none) (Fin2 prog w A R) (fun e s' => R (.error e) s') s
  refine wpAny_bind (wpAny_updateSeq hSo rfl (wpAny_bind (wpAny_letGo ?_)))
  have g := Heap.get?_update_self (Obj.mapSeq fun _ => (#[] : Array Value)) hSo rfl
  have oth : ∀ b o, b ≠ S → s.heap.get? b = some o → (s.heap.update S (Obj.mapSeq fun _ => (#[] : Array Value))).get? b = some o := fun b o q1 q2 => (Heap.get?_update_other _ _ (Ne.symm q1)).trans q2
  have e1 : (s.heap.update S (Obj.mapSeq fun _ => (#[] : Array Value))).objs.size = s.heap.objs.size := (Heap.SameBut.update ..).1
  refine zl_extend hh D hS (st.keep oth hS) (oth _ _ hS.1 iz) n hn hz g fun h' tk acc c1 as q1 q2 q3 q4 q5 => ?_
  exact hR h' tk acc c1 as (fun b o h0 h1 h2 h3 h4 e => q1 b o h0 h1 h2 h3 h4 (oth b o h0 e)) q2 q3 ⟨q4.rise, fun a ha => by have := q4.above a ha; rw [← e1]; exact this, q4.pairs⟩ q5
theorem call_list_zip {k1 k2 : Bool} {z TI TO p1 p2 l1 l2 : Addr} {xs ys : Array Value} {Q : Value → Shared → Prop} (hh : A.handled = none) (D : ZipApart z TI TO p1 p2 l1 l2) (iz : IsZip s.heap z TI TO .none) (iI : IsPair s.heap TI (.ref p1) (.ref p2)) (iO : IsPair s.heap TO .none .none)
    (g1 : SI k1 s.heap p1 l1 0) (g2 : SI k2 s.heap p2 l2 0) (m1 : SS k1 s.heap l1 xs) (m2 : SS k2 s.heap l2 ys) (n : Nat) (hn : n = xs.size ∧ n = ys.size) (hz : n ≤ sizeLine)
    (fin : ∀ h' tk acc c as, (∀ b o, b ≠ z → b ≠ TO → b ≠ p1 → b ≠ p2 → s.heap.get? b = some o → h'.get? b = some o) → h'.get? s.heap.objs.size = some { cls := .type "list", dict := none, data := .seq acc c, slots := #[] } → as.length = n → ZlG xs ys (s.heap.objs.size + 1) h' as →
      acc.toList = as.map Value.ref → Q (.ref s.heap.objs.size) { s with heap := h', toks := tk }) :
    wpAny (model prog w) A (call (.type "list") [.ref z]) Q E s := by
  have lt : ∀ {c o}, s.heap.get? c = some o → c ≠ s.heap.objs.size := fun e => Nat.ne_of_lt (Heap.lt_size e)
  let h1 := s.heap.push { cls := .type "list", data := .seq #[] }
  have up : ∀ b o, s.heap.get? b = some o → h1.get? b = some o := fun b o e => Heap.get?_push_of_some _ e
  have gS : h1.get? s.heap.objs.size = some { cls := .type "list", data := .seq #[] } := Heap.get?_push_size _ rfl
  have hS : z ≠ s.heap.objs.size ∧ TI ≠ s.heap.objs.size ∧ TO ≠ s.heap.objs.size ∧ p1 ≠ s.heap.objs.size ∧ p2 ≠ s.heap.objs.size ∧ l1 ≠ s.heap.objs.size ∧ l2 ≠ s.heap.objs.size :=
    ⟨lt iz, lt iI, lt iO, by obtain ⟨o, e, _⟩ := g1.obj; exact lt e, by obtain ⟨o, e, _⟩ := g2.obj; exact lt e, by obtain ⟨o, e⟩ := m1.obj; exact lt e, by obtain ⟨o, e⟩ := m2.obj; exact lt e⟩
  refine callType_codes (Q₁ := fun x s1 => x = .ref s.heap.objs.size ∧ s1 = { s with heap := h1 }) F.called_list (F.typeCall_list_1 _) F.entry_list_init (code_list_new _ ⟨rfl, rfl⟩) ?_
  rintro x s1 ⟨rfl, rfl⟩
  have st : ZlSt k1 k2 h1 z TI TO p1 p2 l1 l2 s.heap.objs.size xs ys 0 := ⟨.inl (up _ _ iz), up _ _ iI, ⟨_, _, up _ _ iO⟩, g1.at fun o e => up _ o e, g2.at fun o e => up _ o e, m1.at fun o e => up _ o e, m2.at fun o e => up _ o e⟩
  refine ⟨⟨_, gS, rfl⟩, F.args_list_init_2 _ _, zl_init (A := A.in1) hh D hS st (up _ _ iz) n hn hz gS fun h' tk acc c1 as q1 q2 q3 q4 q5 => ?_⟩
  exact ⟨rfl, fin h' tk acc c1 as (fun b o b1 b2 b3 b4 e => q1 b o (lt e) b1 b2 b3 b4 (up b o e)) q2 q3 ⟨q4.rise, fun a ha => by have := q4.above a ha; rw [show h1.objs.size = s.heap.objs.size + 1 from Heap.size_push ..] at this; exact this, q4.pairs⟩ q5⟩
end
end L2
namespace L2
open PySem PySem.Spec PyProof.Rows
noncomputable def upds : Hp → List Addr → List V → List V → Hp
  | H, a :: as, x :: xs, y :: ys => upds (upd H a (.tup [x, y])) as xs ys
  | H, _, _, _ => H
theorem upds_out : ∀ {as : List Addr} {xs ys : List V} {H : Hp} {b : Addr}, b ∉ as → upds H as xs ys b = H b
  | [], _, _, _, _, _ => rfl
  | _ :: _, [], _, _, _, _ => rfl
  | _ :: _, _ :: _, [], _, _, _ => rfl
  | a :: as, x :: xs, y :: ys, H, b, h => by
    show upds (upd H a (.tup [x, y])) as xs ys b = H b
    rw [upds_out fun z => h (List.mem_cons_of_mem _ z), upd_ne fun z => h (by rw [z]; exact List.mem_cons_self)]
theorem upds_at : ∀ {as : List Addr} {xs ys : List V} {H : Hp} {j : Nat} {a : Addr} {x y : V}, as.Pairwise (· < ·) → as[j]? = some a → xs[j]? = some x → ys[j]? = some y → upds H as xs ys a = some (.tup [x, y])
  | [], _, _, _, _, _, _, _, _, h, _, _ => by simp at h
  | _ :: _, [], _, _, _, _, _, _, _, _, h, _ => by simp at h
  | _ :: _, _ :: _, [], _, _, _, _, _, _, _, _, h => by simp at h
  | c :: as, u :: xs, v :: ys, H, 0, a, x, y, hp, h1, h2, h3 => by
    obtain rfl : c = a := Option.some.inj h1
    obtain rfl : u = x := Option.some.inj h2
    obtain rfl : v = y := Option.some.inj h3
    show upds (upd H c (.tup [u, v])) as xs ys c = _
    rw [upds_out (fun z => Nat.lt_irrefl _ ((List.pairwise_cons.mp hp).1 c z)), upd_same]
  | c :: as, u :: xs, v :: ys, H, j + 1, a, x, y, hp, h1, h2, h3 => by
    show upds (upd H c (.tup [u, v])) as xs ys a = _
    exact upds_at (List.pairwise_cons.mp hp).2 (by simpa using h1) (by simpa using h2) (by simpa using h3)
section
variable {X : Cx} {pins : List (Addr × Obj)} {σ : St} {H H' : Hp} {s : Shared} {h' : Heap}
theorem Inv.laids {t' : Nat} (I : Inv X pins σ H s) (k : ∀ b u, s.heap.get? b = some u → h'.get? b = some u) (same : ∀ b, b < s.heap.objs.size → H' b = H b) (new : ∀ b u, s.heap.objs.size ≤ b → H' b = some u → ObjOk X.prog X.w H' h' b u) :
    Inv X pins σ H' { s with heap := h', toks := t' } := by
  have tr : ∀ {b u}, H b = some u → H' b = some u := fun {b u} e => by rw [same b (I.hok.lt e)]; exact e
  refine I.un (t' := t') (Un.mk (fun b u q _ _ _ => k b u q) (fun b u q _ _ _ => ⟨u.slots, k b u q⟩) (fun b u q n _ => by rw [same b (Heap.lt_size q)]; exact n) (fun b u q _ => ⟨u, k b u q⟩) (fun b xs q => tr q) (fun b u xs q => tr q) fun b ps q => ⟨#[], by rw [tr q]; simp⟩) fun b u e => ?_
  rcases Nat.lt_or_ge b s.heap.objs.size with hb | hb
  · rw [same b hb] at e
    exact (I.hok b u e).stay (fun c v _ q => k c v q) (fun c q => tr q) fun c xs q => tr q
  · exact new b u hb e
end
noncomputable def tLz (K : PySem.W.Frag) (ta : TA) : TE := fun σ H Q => ta σ H fun vs H1 => ∃ k1 k2 l1 l2 xs ys, vs = [.ref l1, .ref l2] ∧ SqK K k1 H1 l1 xs ∧ SqK K k2 H1 l2 ys ∧ xs.length = ys.length ∧ xs.length ≤ sizeLine ∧
  ∀ (as : List Addr) (S : Addr), as.length = xs.length → as.Pairwise (· < ·) → (∀ a ∈ as, H1 a = none) → S ∉ as → H1 S = none → Q (.ref S) (upd (upds H1 as xs ys) S (.lst (as.map V.ref)))
theorem vals_refs : ∀ (as : List Addr), Vals (as.map V.ref) (as.map Value.ref)
  | [] => .nil
  | a :: as => .cons rfl (vals_refs as)
theorem pe_listZip {X : Cx} {a b : Expr} {ta : TA} {p1 p2 pos1 pos2 : Pos} (hc : X.calm = true) (g1 : Gl X "list") (n1 : X.mg "list" = none) (v1 : bootBuiltins "list" = some (.type "list")) (g2 : Gl X "zip") (n2 : X.mg "zip" = none) (ha : PA X [a, b] ta)
    (hs : starEach [a, b] X.env = [(false, eval a X.env), (false, eval b X.env)] := by rfl) (hs2 : starEach [b] X.env = [(false, eval b X.env)] := by rfl) (hs3 : starEach [.Call (.Name "zip" p2) [a, b] [] pos2] X.env = [(false, eval (.Call (.Name "zip" p2) [a, b] [] pos2) X.env)] := by rfl) :
    PE X (.Call (.Name "list" p1) [.Call (.Name "zip" p2) [a, b] [] pos2] [] pos1) (tLz X.K ta) := by
  intro pins s σ H Q I h
  refine wpAny_Call_Name_kw (ld_blt I g1 n1 v1 ?_ (by decide) (by decide))
  refine PyProof.Rows.callWith_type1 ?_ (by rw [hs3]; rfl) (by rfl)
  rw [hs3]
  show wpAny _ _ (spliced ((false, eval (.Call (.Name "zip" p2) [a, b] [] pos2) X.env) :: backTo pos1 (starEach [] X.env))) _ _ s
  refine Calls.spliced_cons ?_
  refine wpAny_Call_Name_kw (ld_blt I g2 n2 PyProof.Rows.boot_zip (PyProof.Rows.callWith_type1 (thn (ha pos2 pins s σ H _ I h) fun us s1 ⟨vs, H1, I1, r1, q1⟩ => ?_) (by rw [hs, hs2]) (by rw [hs2]; rfl)) (by decide) (by decide))
  obtain ⟨k1, k2, l1, l2, xs, ys, rfl, q2, q3, hl, hz, q⟩ := q1
  cases r1 with
  | cons r rr =>
    cases rr with
    | cons r' rr =>
      cases rr
      cases r
      cases r'
      obtain ⟨is1, w1, m1⟩ := I1.sqk q2
      obtain ⟨is2, w2, m2⟩ := I1.sqk q3
      have lt1 : l1 < s1.heap.objs.size := by obtain ⟨o, e⟩ := m1.obj; exact Heap.lt_size e
      have lt2 : l2 < s1.heap.objs.size := by obtain ⟨o, e⟩ := m2.obj; exact Heap.lt_size e
      refine callZip m1 m2 fun h' a1 a2 a3 a4 a5 a6 kk => ?_
      refine Calls.spliced_nil ?_
      have D : ZipApart (s1.heap.objs.size + 4) (s1.heap.objs.size + 2) (s1.heap.objs.size + 3) s1.heap.objs.size (s1.heap.objs.size + 1) l1 l2 := PyProof.Rows.zipApart_new lt1 lt2
      refine call_list_zip (s := { s1 with heap := h' }) (I1.ok.hd hc) D a1 a2 a3 a4 a5 (m1.at fun o e => kk _ o e) (m2.at fun o e => kk _ o e) xs.length ⟨by rw [List.size_toArray]; exact w1.length, by rw [List.size_toArray, hl]; exact w2.length⟩ hz fun h2 tk acc c as e1 e2 e3 e4 e5 => ?_
      have e2' : h2.get? h'.objs.size = some { cls := .type "list", dict := none, data := .seq acc c, slots := #[] } := e2
      have e4' : ZlG is1.toArray is2.toArray (h'.objs.size + 1) h2 as := e4
      have e1' : ∀ b o, s1.heap.get? b = some o → h2.get? b = some o := fun b o e => by
        have lb := Heap.lt_size e
        have ne : ∀ k : Nat, b ≠ s1.heap.objs.size + k := fun k => Nat.ne_of_lt (Nat.lt_of_lt_of_le lb (Nat.le_add_right _ _))
        exact e1 b o (ne 4) (ne 3) (ne 0) (ne 1) (kk b o e)
      have hS : s1.heap.objs.size ≤ h'.objs.size := by rw [a6]; exact Nat.le_add_right _ _
      have hSa : h'.objs.size ∉ as := fun z => Nat.lt_irrefl _ (Nat.lt_of_lt_of_le (Nat.lt_succ_self _) (e4'.above _ z))
      have hab : ∀ a ∈ as, s1.heap.objs.size ≤ a := fun a ha => Nat.le_trans hS (Nat.le_trans (Nat.le_succ _) (e4'.above a ha))
      refine ⟨.ref h'.objs.size, _, I1.laids (H' := upd (upds H1 as xs ys) h'.objs.size (.lst (as.map V.ref))) (t' := tk) e1' (fun b hb => ?_) (fun b u hb e => ?_), rfl, q as h'.objs.size e3 e4'.rise (fun a ha => I1.hok.fresh (hab a ha)) hSa (I1.hok.fresh hS)⟩
      · rw [upd_ne (Nat.ne_of_lt (Nat.lt_of_lt_of_le hb hS)), upds_out fun z => Nat.lt_irrefl _ (Nat.lt_of_lt_of_le hb (hab b z))]
      · by_cases hbs : b = h'.objs.size
        · subst hbs
          rw [upd_same] at e
          cases e
          refine ⟨by rw [List.length_map, e3]; exact hz, as.map Value.ref, c, vals_refs as, ?_⟩
          rw [e2', ← e5, Array.toArray_toList]
        · rw [upd_ne hbs] at e
          by_cases hba : b ∈ as
          · obtain ⟨j, hj⟩ := List.mem_iff_getElem?.mp hba
            obtain ⟨x, y, f1, f2, f3⟩ := e4'.pairs j b hj
            have jl : j < xs.length := by
              have := (List.getElem?_eq_some_iff.mp hj).1
              omega
            have hx : xs[j]? = some xs[j] := List.getElem?_eq_getElem jl
            have hy : ys[j]? = some ys[j] := List.getElem?_eq_getElem (by omega)
            obtain ⟨u1, hu1, ru1⟩ := w1.get hx
            obtain ⟨u2, hu2, ru2⟩ := w2.get hy
            rw [upds_at e4'.rise hj hx hy] at e
            cases e
            have g1 : u1 = x := by rw [List.getElem?_toArray, hu1] at f1; exact Option.some.inj f1
            have g2 : u2 = y := by rw [List.getElem?_toArray, hu2] at f2; exact Option.some.inj f2
            refine ⟨show 2 ≤ sizeLine by decide, [u1, u2], .cons ru1 (.cons ru2 .nil), ?_⟩
            rw [g1, g2]
            exact ⟨_, f3, rfl, _, rfl⟩
          · rw [upds_out hba, I1.hok.fresh hb] at e
            cases e
end L2
namespace DL
open PySem PySem.Spec L2
section
variable {K : PySem.W.Frag} {M : Mem}
theorem none_upd {H : Hp} {a : Addr} {as : List Addr} {o : HO} (hp : (a :: as).Pairwise (· < ·)) (h : ∀ b ∈ a :: as, H b = none) : ∀ b ∈ as, L2.upd H a o b = none := fun b hb => by
  rw [upd_ne (Nat.ne_of_gt ((List.pairwise_cons.mp hp).1 b hb))]
  exact h b (List.mem_cons_of_mem _ hb)
theorem KT.upds : ∀ {as : List Addr} {xs ys : List V} {H : Hp}, as.Pairwise (· < ·) → (∀ a ∈ as, H a = none) → KT H (L2.upds H as xs ys)
  | [], _, _, H, _, _ => KT.refl H
  | _ :: _, [], _, H, _, _ => KT.refl H
  | _ :: _, _ :: _, [], H, _, _ => KT.refl H
  | a :: as, x :: xs, y :: ys, H, hp, h => (KT.alloc (o := .tup [x, y]) (h a List.mem_cons_self)).trans (KT.upds (List.pairwise_cons.mp hp).2 (none_upd hp h))
theorem AbsM.upds : ∀ {as : List Addr} {xs ys : List V} {H : Hp}, as.Pairwise (· < ·) → (∀ a ∈ as, H a = none) → AbsM K H M → AbsM K (L2.upds H as xs ys) M
  | [], _, _, _, _, _, am => am
  | _ :: _, [], _, _, _, _, am => am
  | _ :: _, _ :: _, [], _, _, _, am => am
  | a :: as, x :: xs, y :: ys, H, hp, h, am => by
    show AbsM K (L2.upds (L2.upd H a (.tup [x, y])) as xs ys) M
    exact AbsM.upds (List.pairwise_cons.mp hp).2 (none_upd hp h) (am.alloc (u := .tup [x, y]) (h a List.mem_cons_self))
theorem HasL.pairs : ∀ {as : List Addr} {xs ys : List V} {ds es : List D} {H : Hp}, as.Pairwise (· < ·) → (∀ a ∈ as, H a = none) → HasL K H xs ds → HasL K H ys es → as.length = xs.length → xs.length = ys.length → HasL K (L2.upds H as xs ys) (as.map V.ref) (zipD ds es)
  | [], [], [], _, _, _, _, _, .nil, .nil, _, _ => .nil
  | [], _ :: _, _, _, _, _, _, _, _, _, h, _ => by simp at h
  | [], [], _ :: _, _, _, _, _, _, _, _, _, h => by simp at h
  | _ :: _, [], _, _, _, _, _, _, _, _, h, _ => by simp at h
  | _ :: _, _ :: _, [], _, _, _, _, _, _, _, _, h => by simp at h
  | a :: as, x :: xs, y :: ys, _, _, H, hp, h, .cons (d := d) (ds := ds) h1 t1, .cons (d := e) (ds := es) h2 t2, l1, l2 => by
    have k0 : KT H (L2.upd H a (.tup [x, y])) := KT.alloc (h a List.mem_cons_self)
    have hp' := (List.pairwise_cons.mp hp).2
    have nn := none_upd (o := .tup [x, y]) hp h
    have k1 : KT H (L2.upds (L2.upd H a (.tup [x, y])) as xs ys) := k0.trans (KT.upds hp' nn)
    show HasL K (L2.upds (L2.upd H a (.tup [x, y])) as xs ys) (V.ref a :: as.map V.ref) (.tup [d, e] :: zipD ds es)
    refine .cons (.tup (.inl (Rd.of ?_)) (.cons (h1.mono k1) (.cons (h2.mono k1) .nil))) (HasL.pairs hp' nn (t1.mono k0) (t2.mono k0) (by simpa using l1) (by simpa using l2))
    rw [upds_out (fun z => Nat.lt_irrefl _ ((List.pairwise_cons.mp hp).1 a z)), upd_same]
end
noncomputable def gLz (ds : List D) (M : Mem) (R : DK) : Prop := ∃ x y xs ys, ds = [x, y] ∧ seqD M x xs ∧ seqD M y ys ∧ xs.length = ys.length ∧ xs.length ≤ sizeLine ∧ R (.vl (zipD xs ys)) M
noncomputable def dListZ (ta : DTA) : DTE := fun e M R => ta e M fun ds M1 => gLz ds M1 R
theorem z_ListZ {ta : DTA} {e : Ev} {M : Mem} {R : DK} : dListZ ta e M R = ta e M fun ds M1 => gLz ds M1 R := rfl
theorem d_listZip {X : Cx} {a b : Expr} {ta : DTA} {p1 p2 pos1 pos2 : Pos} (hc : X.calm = true) (g1 : Gl X "list") (n1 : X.mg "list" = none) (v1 : bootBuiltins "list" = some (.type "list")) (g2 : Gl X "zip") (n2 : X.mg "zip" = none) (h : DPA X [a, b] ta)
    (hs : starEach [a, b] X.env = [(false, eval a X.env), (false, eval b X.env)] := by rfl) (hs2 : starEach [b] X.env = [(false, eval b X.env)] := by rfl) (hs3 : starEach [.Call (.Name "zip" p2) [a, b] [] pos2] X.env = [(false, eval (.Call (.Name "zip" p2) [a, b] [] pos2) X.env)] := by rfl) :
    DPE X (.Call (.Name "list" p1) [.Call (.Name "zip" p2) [a, b] [] pos2] [] pos1) (dListZ ta) :=
  (pe_frz (pe_listZip hc g1 n1 v1 g2 n2 h hs hs2 hs3)).imp fun σ H Q ⟨e, M, R, ok, am, t, f⟩ => ⟨e, M, _, ok, am, t, fun ds M1 ⟨x, y, xs, ys, hd, s1, s2, hl, hz, r⟩ vs H1 k1 a1 r1 => by
    subst hd
    cases r1 with
    | cons rx rr =>
      cases rr with
      | cons ry rr =>
        cases rr
        obtain ⟨l1, us, rfl, q1, lx⟩ := seqD_has s1 a1 rx
        obtain ⟨l2, ws, rfl, q2, ly⟩ := seqD_has s2 a1 ry
        have e1 := lx.length
        have e2 := ly.length
        refine ⟨_, _, l1, l2, us, ws, rfl, q1, q2, by omega, by omega, fun as S hlen hp hn hS hS2 => ?_⟩
        exact frz_new f (k1.trans (KT.upds hp hn)) (AbsM.upds hp hn a1) (HasL.pairs hp hn lx ly hlen (by omega)) r S (by rw [upds_out hS]; exact hS2)⟩
theorem jd_listZip {X : Cx} {a b : Expr} {ta : DTA} {p1 p2 pos1 pos2 : Pos} (hc : X.calm = true) (g1 : Gl X "list") (n1 : X.mg "list" = none) (v1 : bootBuiltins "list" = some (.type "list")) (g2 : Gl X "zip") (n2 : X.mg "zip" = none) (h : JA X [a, b] ta)
    (hs : starEach [a, b] X.env = [(false, eval a X.env), (false, eval b X.env)] := by rfl) (hs2 : starEach [b] X.env = [(false, eval b X.env)] := by rfl) (hs3 : starEach [.Call (.Name "zip" p2) [a, b] [] pos2] X.env = [(false, eval (.Call (.Name "zip" p2) [a, b] [] pos2) X.env)] := by rfl) :
    JE X (.Call (.Name "list" p1) [.Call (.Name "zip" p2) [a, b] [] pos2] [] pos1) (dListZ ta) := ⟨d_listZip hc g1 n1 v1 g2 n2 h.out hs hs2 hs3⟩
end DL

namespace DL
open PySem PySem.Spec L2
noncomputable def CPowB (i j : Int) : Prop := 0 ≤ j ∧ (Builtin.Int.intBits i : Int) * j ≤ 2 ^ 27
theorem op_powB {X : Cx} : OpR X (binaryOp .Pow) (rI CPowB fun i j => .int (i ^ j.toNat)) := opI fun _ _ _ _ _ _ _ hc q => PyProof.Rows.pow_int hc.1 hc.2 q
theorem o_powB {X : Cx} : DOp X (binaryOp .Pow) (gI CPowB fun i j => .int (i ^ j.toNat)) := dop_I op_powB fun _ _ _ => .int _
end DL
namespace GM
open PySem PySem.Spec L2 DL
open RM (sz)
theorem cpb2 {n : Int} (h : n.natAbs < 2 ^ 9000) : CPowB n 2 := by
  refine ⟨by decide, ?_⟩
  have : Builtin.Int.intBits n ≤ 9001 := by
    unfold Builtin.Int.intBits
    split
    · omega
    · rename_i h0
      have h0 : n ≠ 0 := by simpa using h0
      have := (Nat.log2_lt (by omega : n.natAbs ≠ 0)).mpr h
      omega
  have e : (2 : Int) ^ 27 = 134217728 := by decide
  rw [e]
  omega
noncomputable def rdQ (v1 v2 v3 : Q2) : Rat := crQ v1 v2 * crQ v2 v3 * crQ v3 v1
theorem rd_fr (v1 v2 v3 : Q2) : rdQ v1 v2 v3 = frDet v1 v2 v3 := by unfold rdQ frDet crQ; grind
theorem rd_neg (o1 o2 o3 : Option Rat) : frDet (rayF (negO o1)) (rayF (negO o2)) (rayF (negO o3)) = -frDet (rayF o1) (rayF o2) (rayF o3) := by
  unfold frDet crQ
  cases o1 <;> cases o2 <;> cases o3 <;> simp only [negO, rayF] <;> grind
theorem en_rd (o1 z1 o2 z2 o3 z3 : Option Rat) : (enO o1 z1 o2 z2 o3 z3).det = rdQ (rayF z1) (rayF z2) (rayF z3) * (rdQ (rayF o1) (rayF o2) (rayF o3) * -1) := by
  unfold enO
  rw [en_det, rd_neg, rd_fr, rd_fr]; grind
theorem sz_rd {v1 v2 v3 : Q2} {k : Nat} (h1 : SzV k v1) (h2 : SzV k v2) (h3 : SzV k v3) : sz (rdQ v1 v2 v3) ≤ 6 * k + 9 := by
  have c1 := sz_cr h1 h2
  have c2 := sz_cr h2 h3
  have c3 := sz_cr h3 h1
  have m1 := RM.sz_mul (crQ v1 v2) (crQ v2 v3)
  have m2 := RM.sz_mul (crQ v1 v2 * crQ v2 v3) (crQ v3 v1)
  unfold rdQ
  omega
theorem en_ray1 (v1 v2 v3 w1 w2 w3 : Q2) : (enQ v1 v2 v3 w1 w2 w3).a * v1.1 + (enQ v1 v2 v3 w1 w2 w3).b * v1.2 = crQ v1 v3 * crQ v1 v2 * crQ w3 w2 * w1.1 ∧ (enQ v1 v2 v3 w1 w2 w3).c * v1.1 + (enQ v1 v2 v3 w1 w2 w3).d * v1.2 = crQ v1 v3 * crQ v1 v2 * crQ w3 w2 * w1.2 := by
  have e1 : frD v1 v2 v3 * v1.1 - frB v1 v2 v3 * v1.2 = crQ v1 v3 * crQ v1 v2 := by unfold frD frB; generalize crQ v1 v3 = x; unfold crQ; grind
  have e2 : -frC v1 v2 v3 * v1.1 + frA v1 v2 v3 * v1.2 = 0 := by unfold frC frA; generalize crQ v3 v2 = x; grind
  have e3 : frA w1 w2 w3 = crQ w3 w2 * w1.1 := by unfold frA; grind
  have e4 : frC w1 w2 w3 = crQ w3 w2 * w1.2 := by unfold frC; grind
  unfold enQ
  simp only
  constructor
  · rw [show (frA w1 w2 w3 * frD v1 v2 v3 + frB w1 w2 w3 * -frC v1 v2 v3) * v1.1 + (frA w1 w2 w3 * -frB v1 v2 v3 + frB w1 w2 w3 * frA v1 v2 v3) * v1.2 = frA w1 w2 w3 * (frD v1 v2 v3 * v1.1 - frB v1 v2 v3 * v1.2) + frB w1 w2 w3 * (-frC v1 v2 v3 * v1.1 + frA v1 v2 v3 * v1.2) by grind, e1, e2, e3]; grind
  · rw [show (frC w1 w2 w3 * frD v1 v2 v3 + frD w1 w2 w3 * -frC v1 v2 v3) * v1.1 + (frC w1 w2 w3 * -frB v1 v2 v3 + frD w1 w2 w3 * frA v1 v2 v3) * v1.2 = frC w1 w2 w3 * (frD v1 v2 v3 * v1.1 - frB v1 v2 v3 * v1.2) + frD w1 w2 w3 * (-frC v1 v2 v3 * v1.1 + frA v1 v2 v3 * v1.2) by grind, e1, e2, e4]; grind
theorem en_ray2 (v1 v2 v3 w1 w2 w3 : Q2) : (enQ v1 v2 v3 w1 w2 w3).a * v2.1 + (enQ v1 v2 v3 w1 w2 w3).b * v2.2 = crQ v3 v2 * crQ v1 v2 * crQ w1 w3 * w2.1 ∧ (enQ v1 v2 v3 w1 w2 w3).c * v2.1 + (enQ v1 v2 v3 w1 w2 w3).d * v2.2 = crQ v3 v2 * crQ v1 v2 * crQ w1 w3 * w2.2 := by
  have e1 : frD v1 v2 v3 * v2.1 - frB v1 v2 v3 * v2.2 = 0 := by unfold frD frB; generalize crQ v1 v3 = x; grind
  have e2 : -frC v1 v2 v3 * v2.1 + frA v1 v2 v3 * v2.2 = crQ v3 v2 * crQ v1 v2 := by unfold frC frA; generalize crQ v3 v2 = x; unfold crQ; grind
  have e3 : frB w1 w2 w3 = crQ w1 w3 * w2.1 := by unfold frB; grind
  have e4 : frD w1 w2 w3 = crQ w1 w3 * w2.2 := by unfold frD; grind
  unfold enQ
  simp only
  constructor
  · rw [show (frA w1 w2 w3 * frD v1 v2 v3 + frB w1 w2 w3 * -frC v1 v2 v3) * v2.1 + (frA w1 w2 w3 * -frB v1 v2 v3 + frB w1 w2 w3 * frA v1 v2 v3) * v2.2 = frA w1 w2 w3 * (frD v1 v2 v3 * v2.1 - frB v1 v2 v3 * v2.2) + frB w1 w2 w3 * (-frC v1 v2 v3 * v2.1 + frA v1 v2 v3 * v2.2) by grind, e1, e2, e3]; grind
  · rw [show (frC w1 w2 w3 * frD v1 v2 v3 + frD w1 w2 w3 * -frC v1 v2 v3) * v2.1 + (frC w1 w2 w3 * -frB v1 v2 v3 + frD w1 w2 w3 * frA v1 v2 v3) * v2.2 = frC w1 w2 w3 * (frD v1 v2 v3 * v2.1 - frB v1 v2 v3 * v2.2) + frD w1 w2 w3 * (-frC v1 v2 v3 * v2.1 + frA v1 v2 v3 * v2.2) by grind, e1, e2, e4]; grind
theorem en_ray3 (v1 v2 v3 w1 w2 w3 : Q2) : (enQ v1 v2 v3 w1 w2 w3).a * v3.1 + (enQ v1 v2 v3 w1 w2 w3).b * v3.2 = crQ v1 v3 * crQ v3 v2 * crQ w1 w2 * w3.1 ∧ (enQ v1 v2 v3 w1 w2 w3).c * v3.1 + (enQ v1 v2 v3 w1 w2 w3).d * v3.2 = crQ v1 v3 * crQ v3 v2 * crQ w1 w2 * w3.2 := by
  have e1 : frD v1 v2 v3 * v3.1 - frB v1 v2 v3 * v3.2 = crQ v1 v3 * crQ v3 v2 := by unfold frD frB; generalize crQ v1 v3 = x; unfold crQ; grind
  have e2 : -frC v1 v2 v3 * v3.1 + frA v1 v2 v3 * v3.2 = crQ v1 v3 * crQ v3 v2 := by unfold frC frA; generalize crQ v3 v2 = x; unfold crQ; grind
  have e3 : frA w1 w2 w3 + frB w1 w2 w3 = crQ w1 w2 * w3.1 := by unfold frA frB crQ; grind
  have e4 : frC w1 w2 w3 + frD w1 w2 w3 = crQ w1 w2 * w3.2 := by unfold frC frD crQ; grind
  unfold enQ
  simp only
  constructor
  · rw [show (frA w1 w2 w3 * frD v1 v2 v3 + frB w1 w2 w3 * -frC v1 v2 v3) * v3.1 + (frA w1 w2 w3 * -frB v1 v2 v3 + frB w1 w2 w3 * frA v1 v2 v3) * v3.2 = frA w1 w2 w3 * (frD v1 v2 v3 * v3.1 - frB v1 v2 v3 * v3.2) + frB w1 w2 w3 * (-frC v1 v2 v3 * v3.1 + frA v1 v2 v3 * v3.2) by grind, e1, e2, ← Rat.add_mul, e3]; grind
  · rw [show (frC w1 w2 w3 * frD v1 v2 v3 + frD w1 w2 w3 * -frC v1 v2 v3) * v3.1 + (frC w1 w2 w3 * -frB v1 v2 v3 + frD w1 w2 w3 * frA v1 v2 v3) * v3.2 = frC w1 w2 w3 * (frD v1 v2 v3 * v3.1 - frB v1 v2 v3 * v3.2) + frD w1 w2 w3 * (-frC v1 v2 v3 * v3.1 + frA v1 v2 v3 * v3.2) by grind, e1, e2, ← Rat.add_mul, e4]; grind
noncomputable def ldO (a b c d : Rat) (o z : Option Rat) : Prop := (a * (rayF o).1 + b * (rayF o).2) * (rayF z).2 + (c * (rayF o).1 + d * (rayF o).2) * (rayF z).1 = 0
theorem ld_of {a b c d : Rat} {o z : Option Rat} {k s : Rat} (h : a * (rayF o).1 + b * (rayF o).2 = k * (rayF (negO z)).1 ∧ c * (rayF o).1 + d * (rayF o).2 = k * (rayF (negO z)).2) : ldO (a / s) (b / s) (c / s) (d / s) o z := by
  unfold ldO
  have e1 : a / s * (rayF o).1 + b / s * (rayF o).2 = k * (rayF (negO z)).1 / s := by rw [← h.1]; grind
  have e2 : c / s * (rayF o).1 + d / s * (rayF o).2 = k * (rayF (negO z)).2 / s := by rw [← h.2]; grind
  rw [e1, e2]
  cases z <;> simp only [negO, rayF] <;> grind
theorem en_ok {o1 z1 o2 z2 o3 z3 : Option Rat} {r s : Rat} (hr : r * r = (enO o1 z1 o2 z2 o3 z3).det) (h0 : (enO o1 z1 o2 z2 o3 z3).det ≠ 0) (hs : s = shQ (enO o1 z1 o2 z2 o3 z3) r) (r0 : 0 ≤ r) :
    s ≠ 0 ∧ sz s = sz r ∧ (enO o1 z1 o2 z2 o3 z3).a / s * ((enO o1 z1 o2 z2 o3 z3).d / s) - (enO o1 z1 o2 z2 o3 z3).b / s * ((enO o1 z1 o2 z2 o3 z3).c / s) = 1 ∧ ngF ((enO o1 z1 o2 z2 o3 z3).a / s) ((enO o1 z1 o2 z2 o3 z3).b / s) = false ∧ ((enO o1 z1 o2 z2 o3 z3).a / s ≠ 0 ∨ (enO o1 z1 o2 z2 o3 z3).b / s ≠ 0) := by
  generalize enO o1 z1 o2 z2 o3 z3 = e at *
  have rn : r ≠ 0 := fun z => h0 (by rw [← hr, z]; grind)
  have sq : s * s = e.det := by rw [hs, ← hr]; unfold shQ; split <;> grind
  have sn : s ≠ 0 := fun z => h0 (by rw [← sq, z]; grind)
  have hd : e.a / s * (e.d / s) - e.b / s * (e.c / s) = 1 := by
    have : e.a * e.d - e.b * e.c = s * s := sq.symm
    grind
  have hab : e.a / s ≠ 0 ∨ e.b / s ≠ 0 := by
    by_cases h : e.a / s = 0
    · right; intro z; rw [h, z] at hd; grind
    · exact .inl h
  have hab' : e.a ≠ 0 ∨ e.b ≠ 0 := by
    rcases hab with h | h
    · left; intro z; apply h; rw [z]; grind
    · right; intro z; apply h; rw [z]; grind
  refine ⟨sn, by rw [hs]; unfold shQ; split; exact RM.sz_neg r; rfl, hd, ?_, hab⟩
  have rp : 0 < r := by grind
  have rp' : 0 < 1 / r := by
    have h1 : (1 / r) * r = 1 := by grind
    apply Classical.byContradiction
    intro q
    have := Rat.mul_nonneg (a := -(1 / r)) (b := r) (by grind) (by grind)
    grind
  have sc : ngF (e.a / r) (e.b / r) = ngF e.a e.b := by
    have := ngF_scale (a := e.a) (b := e.b) rp'
    rw [show 1 / r * e.a = e.a / r by grind, show 1 / r * e.b = e.b / r by grind] at this
    exact this
  rw [hs]
  unfold shQ
  cases hn : ngF e.a e.b with
  | true =>
    rw [if_pos rfl, show e.a / -r = -(e.a / r) by grind, show e.b / -r = -(e.b / r) by grind, ngF_neg, sc, hn]; rfl
    rcases hab' with h | h
    · left; intro z; apply h; grind
    · right; intro z; apply h; grind
  | false =>
    rw [if_neg (by decide), sc, hn]
theorem rt_uniq {a b n : Nat} (h1 : a * a ≤ n) (h2 : n < (a + 1) * (a + 1)) (hb : b * b = n) : a = b := by
  rcases Nat.lt_trichotomy a b with h | h | h
  · exfalso
    have : (a + 1) * (a + 1) ≤ b * b := Nat.mul_le_mul h h
    omega
  · exact h
  · exfalso
    have : (b + 1) * (b + 1) ≤ a * a := Nat.mul_le_mul h h
    have : b * b < (b + 1) * (b + 1) := Nat.mul_lt_mul_of_lt_of_lt (by omega) (by omega)
    omega
noncomputable def isSq (n : Nat) : Prop := ∃ b : Nat, b * b = n
theorem sq_iff (q : Rat) : (∃ r : Rat, r * r = q) ↔ 0 ≤ q.num ∧ isSq q.num.natAbs ∧ isSq q.den := by
  constructor
  · rintro ⟨r, rfl⟩
    obtain ⟨h1, h2⟩ := sq_parts r
    rw [h1, h2]
    refine ⟨?_, ⟨r.num.natAbs, by rw [Int.natAbs_mul]⟩, ⟨r.den, rfl⟩⟩
    have : 0 ≤ r.num * r.num := by
      rcases Int.le_total 0 r.num with h | h
      · exact Int.mul_nonneg h h
      · exact Int.mul_nonneg_of_nonpos_of_nonpos h h
    exact this
  · rintro ⟨h0, ⟨a, ha⟩, b, hb⟩
    have bn : b ≠ 0 := fun z => q.den_nz (by rw [← hb, z])
    have bn' : (b : Rat) ≠ 0 := by exact_mod_cast bn
    refine ⟨(a : Rat) / (b : Rat), ?_⟩
    have e := mul_den q
    have e1 : (q.num : Rat) = (a : Rat) * (a : Rat) := by
      have : q.num = (a : Int) * (a : Int) := by
        have : q.num = (q.num.natAbs : Int) := by omega
        rw [this, ← ha]; exact Int.natCast_mul a a
      rw [this]; push_cast; rfl
    have e2 : (q.den : Rat) = (b : Rat) * (b : Rat) := by rw [← hb]; exact_mod_cast rfl
    rw [e1, e2] at e
    grind
theorem div_gt {t b : Int} (ht : 0 < t) (hb : 0 < b) : 0 < Rat.divInt t b := by
  rw [Rat.divInt_eq_div]
  have h1 : (0 : Rat) < (t : Rat) := by exact_mod_cast ht
  have h2 : (0 : Rat) < (b : Rat) := by exact_mod_cast hb
  exact div_pos' h1 h2
noncomputable def Pw3 (k : Nat) (ps : List (Option Rat)) : Prop := ∃ o1 o2 o3, ps = [o1, o2, o3] ∧ ((SzO k o1 ∧ SzO k o2 ∧ SzO k o3) ∧ o1 ≠ o2 ∧ o1 ≠ o3 ∧ o2 ≠ o3)
theorem szo_some {k : Nat} {q : Rat} (h : sz q ≤ k) : SzO k (some q) := fun x e => by rw [← Option.some.inj e]; exact h
theorem szo_none {k : Nat} : SzO k none := fun _ e => by cases e
theorem pl_three {q u v : Rat} {k : Nat} (hu : 0 < u) (hv : 0 < v) (s1 : sz q ≤ k) (s2 : sz (q + u) ≤ k) (s3 : sz (q - v) ≤ k) : Pw3 k [some q, some (q + u), some (q - v)] := by
  refine ⟨_, _, _, rfl, ⟨szo_some s1, szo_some s2, szo_some s3⟩, fun e => ?_, fun e => ?_, fun e => ?_⟩ <;> (have := Option.some.inj e; grind)
theorem pl_none {q1 q2 q3 : Rat} {k : Nat} {i : Int} (i0 : 0 ≤ i) (i1 : i < 3) (h : Pw3 k [some q1, some q2, some q3]) : Pw3 k (([some q1, some q2, some q3]).set i.toNat none) := by
  obtain ⟨o1, o2, o3, e, ⟨z1, z2, z3⟩, n1, n2, n3⟩ := h
  cases e
  have : i = 0 ∨ i = 1 ∨ i = 2 := by omega
  rcases this with rfl | rfl | rfl
  · exact ⟨none, some q2, some q3, rfl, ⟨szo_none, z2, z3⟩, fun e => (by cases e), fun e => (by cases e), n3⟩
  · exact ⟨some q1, none, some q3, rfl, ⟨z1, szo_none, z3⟩, fun e => (by cases e), n2, fun e => (by cases e)⟩
  · exact ⟨some q1, some q2, none, rfl, ⟨z1, z2, szo_none⟩, n1, fun e => (by cases e), fun e => (by cases e)⟩
theorem pw_rot {k : Nat} {ps : List (Option Rat)} {v : Int} (v0 : 0 ≤ v) (v1 : v < 3) (h : Pw3 k ps) : ∃ o1 o2 o3 : Option Rat, cutD (ps.map optD) (some v) none ++ cutD (ps.map optD) none (some v) = [optD o1, optD o2, optD o3] ∧ ((SzO k o1 ∧ SzO k o2 ∧ SzO k o3) ∧ o1 ≠ o2 ∧ o1 ≠ o3 ∧ o2 ≠ o3) := by
  obtain ⟨o1, o2, o3, rfl, ⟨z1, z2, z3⟩, n1, n2, n3⟩ := h
  obtain ⟨p1, p2, p3, e, n, z⟩ := rot3 v0 v1 ⟨⟨n1, n2⟩, n3⟩ z1 z2 z3
  exact ⟨p1, p2, p3, e, z, n⟩
theorem delM_some {M : Mem} {l b : Addr} {o : MO} (h : delM M l b = some o) : M b = some o := by
  by_cases z : b = l
  · subst z; rw [delM_same] at h; cases h
  · rw [delM_ne z] at h; exact h
theorem cp20 : CPow 10 20 := ⟨by decide, by decide, by decide⟩
theorem cp19 : CPow 10 19 := ⟨by decide, by decide, by decide⟩
noncomputable def sPt : DSp := fun ds M R Y => ∃ (x : D), ds = [x] ∧ ∃ o : Option Rat, x = optD o ∧ R (rayD (rayF o).1 (rayF o).2) M
theorem z_sPt {x : D} {M : Mem} {R : DK} {Y : DXK} : sPt [x] M R Y = (∃ o : Option Rat, x = optD o ∧ R (rayD (rayF o).1 (rayF o).2) M) := propext ⟨fun z => by obtain ⟨x', e, h⟩ := z; (simp only [List.cons.injEq, and_true, true_and, GM.ratD_iff, GM.partD_iff, GM.partsD_iff, GM.lineD_iff, GM.linesD_iff, D.tup.injEq, D.ref.injEq, D.int.injEq, D.str.injEq, D.bl.injEq, D.vl.injEq, Int.natCast_inj, and_assoc] at e; (repeat (obtain ⟨e1, e⟩ := e; subst e1)); subst e; exact h), fun h => ⟨x, rfl, h⟩⟩
noncomputable def sCrO : DSp := fun ds M R Y => ∃ (x y : D), ds = [x, y] ∧ ∃ o z : Option Rat, x = optD o ∧ y = optD z ∧ (SzO 80 o ∧ SzO 80 z) ∧ R (ratD (crQ (rayF o) (rayF z))) M
theorem z_sCrO {x y : D} {M : Mem} {R : DK} {Y : DXK} : sCrO [x, y] M R Y = (∃ o z : Option Rat, x = optD o ∧ y = optD z ∧ (SzO 80 o ∧ SzO 80 z) ∧ R (ratD (crQ (rayF o) (rayF z))) M) := propext ⟨fun z => by obtain ⟨x', y', e, h⟩ := z; (simp only [List.cons.injEq, and_true, true_and, GM.ratD_iff, GM.partD_iff, GM.partsD_iff, GM.lineD_iff, GM.linesD_iff, D.tup.injEq, D.ref.injEq, D.int.injEq, D.str.injEq, D.bl.injEq, D.vl.injEq, Int.natCast_inj, and_assoc] at e; (repeat (obtain ⟨e1, e⟩ := e; subst e1)); subst e; exact h), fun h => ⟨x, y, rfl, h⟩⟩
noncomputable def sRound : DSp := fun ds M R Y => ∃ (x : D), ds = [x] ∧ ∃ o1 o2 o3 : Option Rat, x = .vl [optD o1, optD o2, optD o3] ∧ (SzO 80 o1 ∧ SzO 80 o2 ∧ SzO 80 o3) ∧ R (ratD (rdQ (rayF o1) (rayF o2) (rayF o3))) M
theorem z_sRound {x : D} {M : Mem} {R : DK} {Y : DXK} : sRound [x] M R Y = (∃ o1 o2 o3 : Option Rat, x = .vl [optD o1, optD o2, optD o3] ∧ (SzO 80 o1 ∧ SzO 80 o2 ∧ SzO 80 o3) ∧ R (ratD (rdQ (rayF o1) (rayF o2) (rayF o3))) M) := propext ⟨fun z => by obtain ⟨x', e, h⟩ := z; (simp only [List.cons.injEq, and_true, true_and, GM.ratD_iff, GM.partD_iff, GM.partsD_iff, GM.lineD_iff, GM.linesD_iff, D.tup.injEq, D.ref.injEq, D.int.injEq, D.str.injEq, D.bl.injEq, D.vl.injEq, Int.natCast_inj, and_assoc] at e; (repeat (obtain ⟨e1, e⟩ := e; subst e1)); subst e; exact h), fun h => ⟨x, rfl, h⟩⟩
noncomputable def sRt20 : DSp := fun ds M R Y => ∃ (n : Int), ds = [.int n] ∧ (0 ≤ n ∧ n.natAbs < 2 ^ 4000) ∧ ∀ a : Nat, a * a ≤ n.natAbs → n.natAbs < (a + 1) * (a + 1) → R (.int (a : Int)) M
theorem z_sRt20 {n : Int} {M : Mem} {R : DK} {Y : DXK} : sRt20 [.int n] M R Y = ((0 ≤ n ∧ n.natAbs < 2 ^ 4000) ∧ ∀ a : Nat, a * a ≤ n.natAbs → n.natAbs < (a + 1) * (a + 1) → R (.int (a : Int)) M) := propext ⟨fun z => by obtain ⟨n', e, h⟩ := z; (simp only [List.cons.injEq, and_true, true_and, GM.ratD_iff, GM.partD_iff, GM.partsD_iff, GM.lineD_iff, GM.linesD_iff, D.tup.injEq, D.ref.injEq, D.int.injEq, D.str.injEq, D.bl.injEq, D.vl.injEq, Int.natCast_inj, and_assoc] at e; (repeat (obtain ⟨e1, e⟩ := e; subst e1)); subst e; exact h), fun h => ⟨n, rfl, h⟩⟩
noncomputable def sIsSq : DSp := fun ds M R Y => ∃ (q : Rat), ds = [ratD q] ∧ sz q ≤ 3900 ∧ ((∃ r : Rat, r * r = q) → R (.bl true) M) ∧ ((∀ r : Rat, r * r ≠ q) → R (.bl false) M)
theorem z_sIsSq {q : Rat} {M : Mem} {R : DK} {Y : DXK} : sIsSq [ratD q] M R Y = (sz q ≤ 3900 ∧ ((∃ r : Rat, r * r = q) → R (.bl true) M) ∧ ((∀ r : Rat, r * r ≠ q) → R (.bl false) M)) := propext ⟨fun z => by obtain ⟨q', e, h⟩ := z; (simp only [List.cons.injEq, and_true, true_and, GM.ratD_iff, GM.partD_iff, GM.partsD_iff, GM.lineD_iff, GM.linesD_iff, D.tup.injEq, D.ref.injEq, D.int.injEq, D.str.injEq, D.bl.injEq, D.vl.injEq, Int.natCast_inj, and_assoc] at e; (repeat (obtain ⟨e1, e⟩ := e; subst e1)); subst e; exact h), fun h => ⟨q, rfl, h⟩⟩
noncomputable def Pl3 (k : Nat) (o1 o2 o3 : Option Rat) : Prop := (SzO k o1 ∧ SzO k o2 ∧ SzO k o3) ∧ o1 ≠ o2 ∧ o1 ≠ o3 ∧ o2 ≠ o3
noncomputable def m49 (o : Option Rat) : Option Rat := o.map fun q => q * (-(4 / 9))
theorem d49 : D.tup [D.int (-4), D.int 9] = ratD (-(4 / 9) : Rat) := by unfold ratD; rw [show (-(4 / 9) : Rat).num = -4 by decide +kernel, show (-(4 / 9) : Rat).den = 9 by decide +kernel]; rfl
theorem z49 : sz (-(4 / 9) : Rat) ≤ 4 := by decide +kernel
theorem m49_sz {o : Option Rat} (h : SzO 71 o) : SzO 75 (m49 o) := by
  cases o with
  | none => exact szo_none
  | some q =>
    have := h q rfl
    have e := RM.sz_mul q (-(4 / 9))
    have := z49
    exact szo_some (show sz (q * (-(4 / 9))) ≤ 75 by omega)
theorem m49_ne {o z : Option Rat} (h : o ≠ z) : m49 o ≠ m49 z := by
  cases o with
  | none =>
    cases z with
    | none => exact absurd rfl h
    | some q => exact fun e => by cases e
  | some p =>
    cases z with
    | none => exact fun e => by cases e
    | some q =>
      intro e
      have e : p * (-(4 / 9)) = q * (-(4 / 9)) := Option.some.inj e
      exact h (by rw [show p = q by grind])
theorem Pl3.up {o1 o2 o3 : Option Rat} (h : Pl3 71 o1 o2 o3) : Pl3 75 o1 o2 o3 := ⟨⟨fun q e => Nat.le_trans (h.1.1 q e) (by decide), fun q e => Nat.le_trans (h.1.2.1 q e) (by decide), fun q e => Nat.le_trans (h.1.2.2 q e) (by decide)⟩, h.2⟩
theorem Pl3.m49 {o1 o2 o3 : Option Rat} (h : Pl3 71 o1 o2 o3) : Pl3 75 (m49 o1) (m49 o2) (m49 o3) := ⟨⟨m49_sz h.1.1, m49_sz h.1.2.1, m49_sz h.1.2.2⟩, m49_ne h.2.1, m49_ne h.2.2.1, m49_ne h.2.2.2⟩
theorem gLz_of {xs ys : List D} {M : Mem} {R : DK} (h : xs.length = ys.length) (hz : xs.length ≤ 1000) (r : R (.vl (zipD xs ys)) M) : gLz [.vl xs, .vl ys] M R := ⟨_, _, xs, ys, rfl, by simp only [seqD_vl], by simp only [seqD_vl], h, Nat.le_trans hz (by decide), r⟩
theorem SzO.up {k j : Nat} {o : Option Rat} (h : SzO k o) (hk : k ≤ j) : SzO j o := fun q e => Nat.le_trans (h q e) hk
noncomputable def sPlanes : DSp := fun ds M R Y => ∃ (p : Addr), ds = [.ref p] ∧ PoolAt M p ∧ ∀ (o1 o2 o3 : Option Rat) M', Pl3 71 o1 o2 o3 → PStep p M M' → R (.vl [optD o1, optD o2, optD o3]) M'
theorem z_sPlanes {p : Addr} {M : Mem} {R : DK} {Y : DXK} : sPlanes [.ref p] M R Y = (PoolAt M p ∧ ∀ (o1 o2 o3 : Option Rat) M', Pl3 71 o1 o2 o3 → PStep p M M' → R (.vl [optD o1, optD o2, optD o3]) M') := propext ⟨fun z => by obtain ⟨p', e, h⟩ := z; (simp only [List.cons.injEq, and_true, true_and, GM.ratD_iff, GM.partD_iff, GM.partsD_iff, GM.lineD_iff, GM.linesD_iff, D.tup.injEq, D.ref.injEq, D.int.injEq, D.str.injEq, D.bl.injEq, D.vl.injEq, Int.natCast_inj, and_assoc] at e; (repeat (obtain ⟨e1, e⟩ := e; subst e1)); subst e; exact h), fun h => ⟨p, rfl, h⟩⟩
noncomputable def sRight : DSp := fun ds M R Y => ∃ (a b c d : Rat) (y : D), ds = [tabD a b c d, y] ∧ ∃ o1 z1 o2 z2 o3 z3 : Option Rat, y = .vl [prO o1 z1, prO o2 z2, prO o3 z3] ∧ ((SzO 80 o1 ∧ SzO 80 o2 ∧ SzO 80 o3) ∧ (SzO 80 z1 ∧ SzO 80 z2 ∧ SzO 80 z3)) ∧ (sz a ≤ 2000 ∧ sz b ≤ 2000 ∧ sz c ≤ 2000 ∧ sz d ≤ 2000) ∧ (a * d - b * c = 1 ∧ ldO a b c d o1 z1 ∧ ldO a b c d o2 z2 ∧ ldO a b c d o3 z3) ∧ R (.bl true) M
theorem z_sRight {a b c d : Rat} {y : D} {M : Mem} {R : DK} {Y : DXK} : sRight [tabD a b c d, y] M R Y = (∃ o1 z1 o2 z2 o3 z3 : Option Rat, y = .vl [prO o1 z1, prO o2 z2, prO o3 z3] ∧ ((SzO 80 o1 ∧ SzO 80 o2 ∧ SzO 80 o3) ∧ (SzO 80 z1 ∧ SzO 80 z2 ∧ SzO 80 z3)) ∧ (sz a ≤ 2000 ∧ sz b ≤ 2000 ∧ sz c ≤ 2000 ∧ sz d ≤ 2000) ∧ (a * d - b * c = 1 ∧ ldO a b c d o1 z1 ∧ ldO a b c d o2 z2 ∧ ldO a b c d o3 z3) ∧ R (.bl true) M) := propext ⟨fun z => by obtain ⟨a', b', c', d', y', e, h⟩ := z; (simp only [List.cons.injEq, and_true, true_and, GM.ratD_iff, GM.partD_iff, GM.partsD_iff, GM.lineD_iff, GM.linesD_iff, D.tup.injEq, D.ref.injEq, D.int.injEq, D.str.injEq, D.bl.injEq, D.vl.injEq, Int.natCast_inj, and_assoc] at e; (repeat (obtain ⟨e1, e⟩ := e; subst e1)); subst e; exact h), fun h => ⟨a, b, c, d, y, rfl, h⟩⟩
end GM


namespace K20
open PySem PySem.Spec L2 DL GM
open RM (sz)
open PyProof.Rows hiding St
local macro_rules | `(tactic| walk_at "sim") => `(tactic| (try simp only [↓DL.z_C, ↓DL.z_Op, ↓DL.z_Un, ↓DL.z_fI, ↓DL.z_fB, ↓DL.z_fS, ↓DL.z_gI, ↓DL.z_gU, ↓DL.z_Test, ↓DL.z_BlK, ↓DL.z_Or, ↓DL.z_Not, ↓DL.z_AndV, ↓DL.z_NotV, ↓DL.z_If, ↓DL.z_IfS, ↓DL.z_Nil, ↓DL.z_Cons, ↓DL.z_Tup, ↓DL.z_Lst, ↓DL.z_Call, ↓DL.z_CB, ↓DL.z_Next, ↓DL.z_Seq, ↓DL.z_Drop, ↓DL.z_Ret, ↓DL.z_Never, ↓DL.z_gName, ↓DL.z_gNil, ↓DL.z_gCons, ↓DL.z_gTup, ↓DL.z_gTupLs, ↓DL.z_Asg, ↓DL.z_Par, ↓DL.z_ParK, ↓DL.z_Abs, ↓DL.z_Max, ↓DL.z_IntB, ↓DL.z_IfT, ↓DL.z_IfF, ↓DL.z_IfK, ↓DL.z_LstV, ↓DL.z_CatV, ↓DL.z_SlV, ↓DL.z_NoPart, ↓DL.z_Part, ↓DL.z_PartK, ↓DL.z_gTupVl, ↓DL.z_gCatVl, ↓DL.z_gSlVl, ↓DL.z_gSub, ↓DL.z_gSlVt, ↓DL.z_Fgt, ↓DL.z_CompV, ↓DL.z_Yes, ↓DL.z_diSeq, ↓DL.z_SeqT, ↓DL.z_SeqV, ↓DL.z_diZip, ↓DL.z_ZipTT, ↓DL.z_ZipVV, ↓DL.z_ZipTV, ↓DL.z_ZipVT, ↓DL.z_diRng, ↓DL.z_RngK, ↓DL.z_For, ↓DL.z_EqC, ↓DL.z_LenV, ↓DL.z_LenT, ↓DL.z_LM, ↓DL.z_AllV, ↓DL.z_isi2T, ↓DL.z_isi2V, ↓DL.z_isi2I, ↓DL.z_isi2N, ↓DL.z_isi2S, ↓DL.z_isi2B, ↓DL.z_isi2D, ↓DL.z_isi3T, ↓DL.z_isi3V, ↓DL.z_isi3I, ↓DL.z_isi3N, ↓DL.z_isi3S, ↓DL.z_isi3B, ↓DL.z_isi3D, ↓DL.z_isiTTuple, ↓DL.z_isiTList, ↓DL.z_isiTInt, ↓DL.z_isiTBool, ↓DL.z_isiTStr, ↓DL.z_isiVTuple, ↓DL.z_isiVList, ↓DL.z_isiVInt, ↓DL.z_isiVBool, ↓DL.z_isiVStr, ↓DL.z_isiITuple, ↓DL.z_isiIList, ↓DL.z_isiIInt, ↓DL.z_isiIBool, ↓DL.z_isiIStr, ↓DL.z_isiNTuple, ↓DL.z_isiNList, ↓DL.z_isiNInt, ↓DL.z_isiNBool, ↓DL.z_isiNStr, ↓DL.z_isiSTuple, ↓DL.z_isiSList, ↓DL.z_isiSInt, ↓DL.z_isiSBool, ↓DL.z_isiSStr, ↓DL.z_isiBTuple, ↓DL.z_isiBList, ↓DL.z_isiBInt, ↓DL.z_isiBBool, ↓DL.z_isiBStr, ↓DL.z_isiDTuple, ↓DL.z_isiDList, ↓DL.z_isiDInt, ↓DL.z_isiDBool, ↓DL.z_isiDStr, ↓DL.z_v0, ↓DL.z_v1, ↓DL.z_v2, ↓DL.z_v3, ↓DL.z_v4, ↓DL.z_v5, ↓DL.z_v6, ↓DL.z_v7, ↓DL.z_v8, ↓DL.z_v9, ↓DL.z_v10, ↓DL.z_v11, ↓DL.z_v12, ↓DL.z_s0, ↓DL.z_s1, ↓DL.z_s2, ↓DL.z_s3, ↓DL.z_s4, ↓DL.z_s5, ↓DL.z_s6, ↓DL.z_s7, ↓DL.z_s8, ↓DL.z_s9, ↓DL.z_s10, ↓DL.z_s11, ↓DL.z_s12, ↓DL.z_ixT0, ↓DL.z_ixT1, ↓DL.z_ixT2, ↓DL.z_ixT3, ↓DL.z_ixT4, ↓DL.z_ixT5, ↓DL.z_ixT6, ↓DL.z_ixT7, ↓DL.z_ixV0, ↓DL.z_ixV1, ↓DL.z_ixV2, ↓DL.z_ixV3, ↓DL.z_ixV4, ↓DL.z_ixV5, ↓DL.z_ixV6, ↓DL.z_ixV7, ↓DL.z_sz0, ↓DL.z_sz1, ↓DL.z_sz2, ↓DL.z_sz3, ↓DL.z_sz4, ↓DL.z_sz5, ↓DL.z_sz6, ↓DL.z_sz7, ↓DL.z_sz8, ↓DL.z_sz9, ↓GM.z_ratIsT, ↓GM.z_partIsT, ↓GM.z_partL, ↓GM.z_rat0, ↓GM.z_rat1, ↓GM.z_ratG, ↓GM.z_ratL, ↓GM.z_part0, ↓GM.z_part1, ↓GM.z_partG, ↓GM.z_lineG, ↓GM.z_line0, ↓GM.z_line1, ↓GM.z_line2, ↓GM.z_sBegB, ↓GM.z_sCr, ↓GM.z_sCrO, ↓GM.z_sFrame, ↓GM.z_sGrown, ↓GM.z_sIsO, ↓GM.z_sIsSq, ↓GM.z_sLed, ↓GM.z_sPlanes, ↓GM.z_sPt, ↓GM.z_sRayFr, ↓GM.z_sRayTo, ↓GM.z_sRight, ↓GM.z_sRound, ↓GM.z_sRt20, ↓GM.z_sSame, ↓GM.z_sTabBy, ↓GM.z_sThen19, ↓GM.z_sUndone, ↓GM.z_spColumns, ↓GM.z_spDivisor, ↓GM.z_spLess, ↓GM.z_spLow, ↓GM.z_spMinus, ↓GM.z_spNext, ↓GM.z_spOpp, ↓GM.z_spOver, ↓GM.z_spPlus, ↓GM.z_spPool, ↓GM.z_spRoot, ↓GM.z_spTimes, GM.z_ratIsT, GM.z_partIsT, GM.z_partL, GM.z_rat0, GM.z_rat1, GM.z_ratG, GM.z_ratL, GM.z_part0, GM.z_part1, GM.z_partG, GM.z_lineG, GM.z_line0, GM.z_line1, GM.z_line2, GM.z_sBegB, GM.z_sCr, GM.z_sCrO, GM.z_sFrame, GM.z_sGrown, GM.z_sIsO, GM.z_sIsSq, GM.z_sLed, GM.z_sPlanes, GM.z_sPt, GM.z_sRayFr, GM.z_sRayTo, GM.z_sRight, GM.z_sRound, GM.z_sRt20, GM.z_sSame, GM.z_sTabBy, GM.z_sThen19, GM.z_sUndone, GM.z_spColumns, GM.z_spDivisor, GM.z_spLess, GM.z_spLow, GM.z_spMinus, GM.z_spNext, GM.z_spOpp, GM.z_spOver, GM.z_spPlus, GM.z_spPool, GM.z_spRoot, GM.z_spTimes, DL.z_C, DL.z_Op, DL.z_Un, DL.z_fI, DL.z_fB, DL.z_fS, DL.z_gI, DL.z_gU, DL.z_Test, DL.z_BlK, DL.z_Or, DL.z_Not, DL.z_AndV, DL.z_NotV, DL.z_If, DL.z_IfS, DL.z_Nil, DL.z_Cons, DL.z_Tup, DL.z_Lst, DL.z_Call, DL.z_CB, DL.z_Next, DL.z_Seq, DL.z_Drop, DL.z_Ret, DL.z_Never, DL.z_gName, DL.z_gNil, DL.z_gCons, DL.z_gTup, DL.z_gTupLs, DL.z_Asg, DL.z_Par, DL.z_ParK, DL.z_Abs, DL.z_Max, DL.z_IntB, DL.z_IfT, DL.z_IfF, DL.z_IfK, DL.z_LstV, DL.z_CatV, DL.z_SlV, DL.z_NoPart, DL.z_Part, DL.z_PartK, DL.z_gTupVl, DL.z_gCatVl, DL.z_gSlVl, DL.z_gSub, DL.z_gSlVt, DL.z_Fgt, DL.z_CompV, DL.z_Yes, DL.z_diSeq, DL.z_SeqT, DL.z_SeqV, DL.z_diZip, DL.z_ZipTT, DL.z_ZipVV, DL.z_ZipTV, DL.z_ZipVT, DL.z_diRng, DL.z_RngK, DL.z_For, DL.z_EqC, DL.z_LenV, DL.z_LenT, DL.z_LM, DL.z_AllV, DL.z_isi2T, DL.z_isi2V, DL.z_isi2I, DL.z_isi2N, DL.z_isi2S, DL.z_isi2B, DL.z_isi2D, DL.z_isi3T, DL.z_isi3V, DL.z_isi3I, DL.z_isi3N, DL.z_isi3S, DL.z_isi3B, DL.z_isi3D, DL.z_isiTTuple, DL.z_isiTList, DL.z_isiTInt, DL.z_isiTBool, DL.z_isiTStr, DL.z_isiVTuple, DL.z_isiVList, DL.z_isiVInt, DL.z_isiVBool, DL.z_isiVStr, DL.z_isiITuple, DL.z_isiIList, DL.z_isiIInt, DL.z_isiIBool, DL.z_isiIStr, DL.z_isiNTuple, DL.z_isiNList, DL.z_isiNInt, DL.z_isiNBool, DL.z_isiNStr, DL.z_isiSTuple, DL.z_isiSList, DL.z_isiSInt, DL.z_isiSBool, DL.z_isiSStr, DL.z_isiBTuple, DL.z_isiBList, DL.z_isiBInt, DL.z_isiBBool, DL.z_isiBStr, DL.z_isiDTuple, DL.z_isiDList, DL.z_isiDInt, DL.z_isiDBool, DL.z_isiDStr, DL.z_v0, DL.z_v1, DL.z_v2, DL.z_v3, DL.z_v4, DL.z_v5, DL.z_v6, DL.z_v7, DL.z_v8, DL.z_v9, DL.z_v10, DL.z_v11, DL.z_v12, DL.z_s0, DL.z_s1, DL.z_s2, DL.z_s3, DL.z_s4, DL.z_s5, DL.z_s6, DL.z_s7, DL.z_s8, DL.z_s9, DL.z_s10, DL.z_s11, DL.z_s12, DL.z_ixT0, DL.z_ixT1, DL.z_ixT2, DL.z_ixT3, DL.z_ixT4, DL.z_ixT5, DL.z_ixT6, DL.z_ixT7, DL.z_ixV0, DL.z_ixV1, DL.z_ixV2, DL.z_ixV3, DL.z_ixV4, DL.z_ixV5, DL.z_ixV6, DL.z_ixV7, DL.z_sz0, DL.z_sz1, DL.z_sz2, DL.z_sz3, DL.z_sz4, DL.z_sz5, DL.z_sz6, DL.z_sz7, DL.z_sz8, DL.z_sz9, DL.z_clI60, DL.z_clN60, DL.z_clT60, DL.z_clV60, DL.z_clI59, DL.z_clN59, DL.z_clT59, DL.z_clV59, DL.z_clI58, DL.z_clN58, DL.z_clT58, DL.z_clV58, DL.z_clI57, DL.z_clN57, DL.z_clT57, DL.z_clV57, DL.z_clI56, DL.z_clN56, DL.z_clT56, DL.z_clV56, DL.z_clI55, DL.z_clN55, DL.z_clT55, DL.z_clV55, DL.z_cln59, DL.z_clc59, DL.z_cln58, DL.z_clc58, DL.z_cln57, DL.z_clc57, DL.z_cln56, DL.z_clc56, DL.z_cln55, DL.z_clc55, DL.z_cln54, DL.z_clc54, GM.z_clR60, GM.z_clR59, GM.z_clR58, GM.z_clR57, DL.z_szk1, DL.z_szk2, DL.z_szk3, DL.z_szk4, DL.z_szk5, DL.z_szk6, DL.z_szk7, DL.z_szk8, DL.z_szk9, DL.z_szk10, DL.z_szk11, DL.z_szk12, Nat.reduceAdd, Nat.reduceLT, Nat.reduceLeDiff, Nat.zero_add, Int.reduceLT, Int.reduceLE, Int.reduceEq, eq_self, decide_true, decide_false, D.int.injEq, D.str.injEq, beq_self_eq_true, and_self, true_and, and_true, not_true_eq_false, not_false_eq_true, false_implies, true_implies, forall_const, dstart, List.map_cons, List.map_nil, List.cons_append, List.nil_append, List.append_nil, List.length_cons, List.length_nil, List.replicate, capE, List.getElem?_cons_zero, List.getElem?_cons_succ, Option.getD_some, decide_eq_true_eq, decide_eq_false_iff_not, Bool.not_eq_true', Bool.not_eq_false', Bool.and_self, Bool.true_and, Bool.and_true, Bool.xor_false, Bool.false_xor, Bool.true_xor, Bool.not_true, Bool.not_false, Bool.false_eq_true, Bool.true_eq_false, reduceIte, GM.r0, GM.r1, GM.r2, GM.r4, GM.rm1, GM.rm2, GM.ratD_iff, GM.r_line, GM.r_abs, GM.r_neg, GM.r_self]))
local macro_rules | `(tactic| walk_at "len") => `(tactic| first | (obtain ⟨_, rfl, _⟩ := h; rfl) | (obtain ⟨_, _, rfl, _⟩ := h; rfl) | (obtain ⟨_, _, _, rfl, _⟩ := h; rfl) | (obtain ⟨_, _, _, _, rfl, _⟩ := h; rfl) | (obtain ⟨_, _, _, _, _, rfl, _⟩ := h; rfl) | (obtain ⟨_, _, _, _, _, _, rfl, _⟩ := h; rfl) | (obtain ⟨_, _, _, _, _, _, _, rfl, _⟩ := h; rfl) | (obtain ⟨_, _, _, _, _, _, _, _, rfl, _⟩ := h; rfl) | (obtain ⟨_, _, _, _, _, _, _, _, _, rfl, _⟩ := h; rfl))
local macro_rules | `(tactic| walk_at "size") => `(tactic| first | omega | grind only [RM.sz_mul, RM.sz_add, RM.sz_sub, RM.sz_neg, RM.sz_one, RM.sz_zero, GM.sz_abs])
noncomputable def top (i : Nat) : Stmt := PySem.Challenge.pw_roundglass_k20_whole_tables_of_any_pairs.main.body.getD i (.Pass ⟨0, 0, 0, 0⟩)
noncomputable abbrev s__law_same : Stmt := top 41
noncomputable abbrev s__law_ratio : Stmt := top 36
noncomputable abbrev s__law_plus : Stmt := top 37
noncomputable abbrev s__law_times : Stmt := top 38
noncomputable abbrev s__law_point : Stmt := top 42
noncomputable abbrev s__law_minus : Stmt := top 40
noncomputable abbrev s__law_right : Stmt := top 48
noncomputable abbrev s__law_root : Stmt := top 45
noncomputable abbrev s__law_is_square : Stmt := top 46
noncomputable abbrev s__law_cross : Stmt := top 43
noncomputable abbrev s__law_round : Stmt := top 44
noncomputable abbrev s_opposite : Stmt := top 9
noncomputable abbrev s_divisor : Stmt := top 7
noncomputable abbrev s_is_whole : Stmt := top 6
noncomputable abbrev s_ratio : Stmt := top 8
noncomputable abbrev s_over : Stmt := top 13
noncomputable abbrev s_less : Stmt := top 14
noncomputable abbrev s_begins_below : Stmt := top 30
noncomputable abbrev s_floor_root : Stmt := top 15
noncomputable abbrev s_root : Stmt := top 16
noncomputable abbrev s_plus : Stmt := top 10
noncomputable abbrev s_minus : Stmt := top 11
noncomputable abbrev s_times : Stmt := top 12
noncomputable abbrev s_by_columns : Stmt := top 20
noncomputable abbrev s_led : Stmt := top 19
noncomputable abbrev s_behind : Stmt := top 21
noncomputable abbrev s_grown : Stmt := top 24
noncomputable abbrev s_cross : Stmt := top 23
noncomputable abbrev s_frame : Stmt := top 29
noncomputable abbrev s_ray_from : Stmt := top 26
noncomputable abbrev s_ray_to : Stmt := top 28
noncomputable abbrev s_undone : Stmt := top 22
noncomputable abbrev s_tables_by : Stmt := top 31
noncomputable abbrev s__law_draw : Stmt := top 34
noncomputable abbrev s__law_planes : Stmt := top 47
noncomputable abbrev s__law_pool : Stmt := top 33
noncomputable abbrev s_law : Stmt := top 49
theorem sc__law_same : FnScope ["found", "due"] ["found", "due"] (defScope s__law_same) := ⟨rfl, rfl, rfl, by decide +kernel, rfl, by decide +kernel, by decide +kernel⟩
theorem sc__law_ratio : FnScope ["top", "bottom", "one", "other"] ["top", "bottom"] (defScope s__law_ratio) := ⟨rfl, rfl, rfl, by decide +kernel, rfl, by decide +kernel, by decide +kernel⟩
theorem sc__law_plus : FnScope ["one", "other"] ["one", "other"] (defScope s__law_plus) := ⟨rfl, rfl, rfl, by decide +kernel, rfl, by decide +kernel, by decide +kernel⟩
theorem sc__law_times : FnScope ["one", "other"] ["one", "other"] (defScope s__law_times) := ⟨rfl, rfl, rfl, by decide +kernel, rfl, by decide +kernel, by decide +kernel⟩
theorem sc__law_point : FnScope ["plane"] ["plane"] (defScope s__law_point) := ⟨rfl, rfl, rfl, by decide +kernel, rfl, by decide +kernel, by decide +kernel⟩
theorem sc__law_minus : FnScope ["one", "other"] ["one", "other"] (defScope s__law_minus) := ⟨rfl, rfl, rfl, by decide +kernel, rfl, by decide +kernel, by decide +kernel⟩
theorem sc__law_right : FnScope ["table", "pairs", "a", "b", "c", "d", "x", "z", "p", "q", "height", "slope"] ["table", "pairs"] (defScope s__law_right) := ⟨rfl, rfl, rfl, by decide +kernel, rfl, by decide +kernel, by decide +kernel⟩
theorem sc__law_root : FnScope ["number", "low", "high", "mid"] ["number"] (defScope s__law_root) := ⟨rfl, rfl, rfl, by decide +kernel, rfl, by decide +kernel, by decide +kernel⟩
theorem sc__law_is_square : FnScope ["one"] ["one"] (defScope s__law_is_square) := ⟨rfl, rfl, rfl, by decide +kernel, rfl, by decide +kernel, by decide +kernel⟩
theorem sc__law_cross : FnScope ["one", "other", "p", "q", "v", "w"] ["one", "other"] (defScope s__law_cross) := ⟨rfl, rfl, rfl, by decide +kernel, rfl, by decide +kernel, by decide +kernel⟩
theorem sc__law_round : FnScope ["planes", "one", "two", "three"] ["planes"] (defScope s__law_round) := ⟨rfl, rfl, rfl, by decide +kernel, rfl, by decide +kernel, by decide +kernel⟩
theorem sc_opposite : FnScope ["one"] ["one"] (defScope s_opposite) := ⟨rfl, rfl, rfl, by decide +kernel, rfl, by decide +kernel, by decide +kernel⟩
theorem sc_divisor : FnScope ["one", "other"] ["one", "other"] (defScope s_divisor) := ⟨rfl, rfl, rfl, by decide +kernel, rfl, by decide +kernel, by decide +kernel⟩
theorem sc_is_whole : FnScope ["thing"] ["thing"] (defScope s_is_whole) := ⟨rfl, rfl, rfl, by decide +kernel, rfl, by decide +kernel, by decide +kernel⟩
theorem sc_ratio : FnScope ["top", "bottom", "share"] ["top", "bottom"] (defScope s_ratio) := ⟨rfl, rfl, rfl, by decide +kernel, rfl, by decide +kernel, by decide +kernel⟩
theorem sc_over : FnScope ["one", "other"] ["one", "other"] (defScope s_over) := ⟨rfl, rfl, rfl, by decide +kernel, rfl, by decide +kernel, by decide +kernel⟩
theorem sc_less : FnScope ["one", "other"] ["one", "other"] (defScope s_less) := ⟨rfl, rfl, rfl, by decide +kernel, rfl, by decide +kernel, by decide +kernel⟩
theorem sc_begins_below : FnScope ["entries", "signs"] ["entries"] (defScope s_begins_below) := ⟨rfl, rfl, rfl, by decide +kernel, rfl, by decide +kernel, by decide +kernel⟩
theorem sc_floor_root : FnScope ["number", "guess", "step", "better"] ["number"] (defScope s_floor_root) := ⟨rfl, rfl, rfl, by decide +kernel, rfl, by decide +kernel, by decide +kernel⟩
theorem sc_root : FnScope ["one", "top", "bottom"] ["one"] (defScope s_root) := ⟨rfl, rfl, rfl, by decide +kernel, rfl, by decide +kernel, by decide +kernel⟩
theorem sc_plus : FnScope ["one", "other"] ["one", "other"] (defScope s_plus) := ⟨rfl, rfl, rfl, by decide +kernel, rfl, by decide +kernel, by decide +kernel⟩
theorem sc_minus : FnScope ["one", "other"] ["one", "other"] (defScope s_minus) := ⟨rfl, rfl, rfl, by decide +kernel, rfl, by decide +kernel, by decide +kernel⟩
theorem sc_times : FnScope ["one", "other"] ["one", "other"] (defScope s_times) := ⟨rfl, rfl, rfl, by decide +kernel, rfl, by decide +kernel, by decide +kernel⟩
theorem sc_by_columns : FnScope ["first", "second"] ["first", "second"] (defScope s_by_columns) := ⟨rfl, rfl, rfl, by decide +kernel, rfl, by decide +kernel, by decide +kernel⟩
theorem sc_led : FnScope ["table", "ray", "a", "b", "c", "d", "y", "u"] ["table", "ray"] (defScope s_led) := ⟨rfl, rfl, rfl, by decide +kernel, rfl, by decide +kernel, by decide +kernel⟩
theorem sc_behind : FnScope ["one", "other", "a", "b", "c", "d"] ["one", "other"] (defScope s_behind) := ⟨rfl, rfl, rfl, by decide +kernel, rfl, by decide +kernel, by decide +kernel⟩
theorem sc_grown : FnScope ["ray", "share"] ["ray", "share"] (defScope s_grown) := ⟨rfl, rfl, rfl, by decide +kernel, rfl, by decide +kernel, by decide +kernel⟩
theorem sc_cross : FnScope ["one", "other", "y", "u", "z", "w"] ["one", "other"] (defScope s_cross) := ⟨rfl, rfl, rfl, by decide +kernel, rfl, by decide +kernel, by decide +kernel⟩
theorem sc_frame : FnScope ["rays", "first", "second", "third"] ["rays"] (defScope s_frame) := ⟨rfl, rfl, rfl, by decide +kernel, rfl, by decide +kernel, by decide +kernel⟩
theorem sc_ray_from : FnScope ["plane"] ["plane"] (defScope s_ray_from) := ⟨rfl, rfl, rfl, by decide +kernel, rfl, by decide +kernel, by decide +kernel⟩
theorem sc_ray_to : FnScope ["plane"] ["plane"] (defScope s_ray_to) := ⟨rfl, rfl, rfl, by decide +kernel, rfl, by decide +kernel, by decide +kernel⟩
theorem sc_undone : FnScope ["table", "a", "b", "c", "d"] ["table"] (defScope s_undone) := ⟨rfl, rfl, rfl, by decide +kernel, rfl, by decide +kernel, by decide +kernel⟩
theorem sc_tables_by : FnScope ["pairs", "back", "entries", "a", "b", "c", "d", "share", "first"] ["pairs"] (defScope s_tables_by) := ⟨rfl, rfl, rfl, by decide +kernel, rfl, by decide +kernel, by decide +kernel⟩
theorem sc__law_draw : FnScope ["pool", "base", "digit", "near"] ["pool", "base"] (defScope s__law_draw) := ⟨rfl, rfl, rfl, by decide +kernel, rfl, by decide +kernel, by decide +kernel⟩
theorem sc__law_planes : FnScope ["pool", "found", "turn"] ["pool"] (defScope s__law_planes) := ⟨rfl, rfl, rfl, by decide +kernel, rfl, by decide +kernel, by decide +kernel⟩
theorem sc__law_pool : FnScope ["cell"] ["cell"] (defScope s__law_pool) := ⟨rfl, rfl, rfl, by decide +kernel, rfl, by decide +kernel, by decide +kernel⟩
theorem sc_law : FnScope ["script", "cell", "pool", "ahead", "there", "pairs", "found", "ends"] ["script"] (defScope s_law) := ⟨rfl, rfl, rfl, by decide +kernel, rfl, by decide +kernel, by decide +kernel⟩
structure Txt (K : PySem.W.Frag) (mg : Str → Option Value) : Prop where
  b_abs : mg "abs" = none
  b_all : mg "all" = none
  b_bool : mg "bool" = none
  b_int : mg "int" = none
  b_isinstance : mg "isinstance" = none
  b_len : mg "len" = none
  b_list : mg "list" = none
  b_max : mg "max" = none
  b_range : mg "range" = none
  b_tuple : mg "tuple" = none
  b_zip : mg "zip" = none
  sub : SubOk K
  c_LEVEL_RAY : GlD K mg "LEVEL_RAY" (.tup [(.tup [(.int 1), (.int 1)]), (.tup [(.int 0), (.int 1)])])
  c_NOUGHT : GlD K mg "NOUGHT" (.tup [(.int 0), (.int 1)])
  c_ONE : GlD K mg "ONE" (.tup [(.int 1), (.int 1)])
section
variable {P : Program} {w : World} {K : PySem.W.Frag} {mg : Str → Option Value} {base : Heap}
theorem ok__law_same_0 (T : Txt K mg) (d : Df K mg "_law_same" s__law_same ["found", "due"]) : Fn P w K mg base "_law_same" 1 ["found", "due"] (sSame 0) := by
  have sc := sc__law_same
  refine fn_by d sc (fun ds M R Y h => by obtain ⟨_, rfl, _⟩ := h; rfl) (fun f cdv A outer s H E ds M R Y hr h => ?_)
  obtain ⟨x, rfl, hx, k⟩ := h
  have hu := hr.units
  refine ⟨_, (jds_cons (jds_if (jd_tval (jd_blt (c_isi2 T.sub) rfl T.b_isinstance bt_isinstance (jda_cons (jd_var 1) (jda_cons (jd_tup (jda_cons (jd_ty rfl T.b_tuple bt_tuple) (jda_cons (jd_ty rfl T.b_list bt_list) jda_nil))) jda_nil)))) jdss_never jds_nil) (jds_one (jds_ret (jd_vand (jd_vnot (jd_blt (c_isi T.sub) rfl T.b_isinstance bt_isinstance (jda_cons (jd_var 0) (jda_cons (jd_ty rfl T.b_bool bt_bool) jda_nil)))) (jd_vone (jd_cmp (o_eqC hu) (jd_var 0) (jd_var 1) (nomark _))))))), ?_⟩
  cases x with
  | int n => walk_at "sim"; exact k
  | non => walk_at "sim"; exact k
  | str x =>
    walk_at "sim"
    have hc : cl 60 (D.str x) = true := hx
    exact ⟨hc, hc, k⟩
  | _ => simp [clv] at hx
theorem ok__law_same_s {k : Nat} (T : Txt K mg) (d : Df K mg "_law_same" s__law_same ["found", "due"]) (G__law_same : Fn P w K mg base "_law_same" (k + 1) ["found", "due"] (sSame k)) : Fn P w K mg base "_law_same" (k + 2) ["found", "due"] (sSame (k + 1)) := by
  have sc := sc__law_same
  refine fn_by d sc (fun ds M R Y h => by obtain ⟨_, rfl, _⟩ := h; rfl) (fun f cdv A outer s H E ds M R Y hr h => ?_)
  obtain ⟨x, rfl, hx, kk⟩ := h
  have hu := hr.units
  refine ⟨_, (jds_cons (jds_if (jd_tval (jd_blt (c_isi2 T.sub) rfl T.b_isinstance bt_isinstance (jda_cons (jd_var 1) (jda_cons (jd_tup (jda_cons (jd_ty rfl T.b_tuple bt_tuple) (jda_cons (jd_ty rfl T.b_list bt_list) jda_nil))) jda_nil)))) (jds_cons (jds_if (jd_tw (jd_or (jd_tcmp o_neB (jd_blt (c_isi T.sub) rfl T.b_isinstance bt_isinstance (jda_cons (jd_var 0) (jda_cons (jd_ty rfl T.b_list bt_list) jda_nil))) (jd_blt (c_isi T.sub) rfl T.b_isinstance bt_isinstance (jda_cons (jd_var 1) (jda_cons (jd_ty rfl T.b_list bt_list) jda_nil))) (nomark _)) (jd_or1 (jd_not (jd_tval (jd_blt (c_isi2 T.sub) rfl T.b_isinstance bt_isinstance (jda_cons (jd_var 0) (jda_cons (jd_tup (jda_cons (jd_ty rfl T.b_tuple bt_tuple) (jda_cons (jd_ty rfl T.b_list bt_list) jda_nil))) jda_nil)))))))) (jds_one (jds_ret jd_bl)) jds_nil) (jds_cons (jds_if (jd_tcmp o_neI (jd_blt c_len rfl T.b_len bt_len (jda_cons (jd_var 0) jda_nil)) (jd_blt c_len rfl T.b_len bt_len (jda_cons (jd_var 1) jda_nil)) (nomark _)) (jds_one (jds_ret jd_bl)) jds_nil) (jds_one (jds_ret (jd_blt (c_all rfl) rfl T.b_all bt_all (jda_cons (jd_compV [] ["one", "other"] [] rfl (by decide +kernel) rfl (by decide +kernel) (by decide +kernel) rfl all0 all0 (jpd_zip rfl T.b_zip (jda_cons (jd_var 0) (jda_cons (jd_var 1) jda_nil))) (fun _ _ _ _ _ _ => (jdg_tup (n := 2) rfl (jdgs_cons (jdg_name (i := 0) (show (["one", "other"] : List Str).Nodup by decide +kernel) rfl (Or.inl rfl)) (jdgs_cons (jdg_name (i := 1) (show (["one", "other"] : List Str).Nodup by decide +kernel) rfl (Or.inl rfl)) jdgs_nil)))) (fun _ _ _ _ _ _ => jdifs_nil) (fun _ _ _ _ _ _ => (jd_callF G__law_same (hr.mono (by omega)) rfl (jda_cons (jd_var 0) (jda_cons (jd_var 1) jda_nil))))) jda_nil)))))) jds_nil) (jds_one (jds_ret (jd_vand (jd_vnot (jd_blt (c_isi T.sub) rfl T.b_isinstance bt_isinstance (jda_cons (jd_var 0) (jda_cons (jd_ty rfl T.b_bool bt_bool) jda_nil)))) (jd_vone (jd_cmp (o_eqC hu) (jd_var 0) (jd_var 1) (nomark _))))))), ?_⟩
  cases x with
  | int n => walk_at "sim"; exact kk
  | non => walk_at "sim"; exact kk
  | str x =>
    walk_at "sim"
    have hc : cl 60 (D.str x) = true := hx
    exact ⟨hc, hc, kk⟩
  | tup xs =>
    have hx' : xs.length ≤ 900 ∧ clvL k xs = true := by simpa [clv] using hx
    walk_at "sim"
    rw [zipD_self]
    refine compV_map (fun _ => .bl true) (by omega) (by simp only [seqD_tup, seqD_vl, and_self]) (fun z hz Q hQ => ?_) ?_
    · walk_at "sim"
      exact ⟨clvL_mem hx'.2 hz, hQ⟩
    · rw [z_mapB]
      show gAll [D.vl _] M R
      rw [z_AllV, all_true]
      exact kk
  | vl xs =>
    have hx' : xs.length ≤ 900 ∧ clvL k xs = true := by simpa [clv] using hx
    walk_at "sim"
    rw [zipD_self]
    refine compV_map (fun _ => .bl true) (by omega) (by simp only [seqD_tup, seqD_vl, and_self]) (fun z hz Q hQ => ?_) ?_
    · walk_at "sim"
      exact ⟨clvL_mem hx'.2 hz, hQ⟩
    · rw [z_mapB]
      show gAll [D.vl _] M R
      rw [z_AllV, all_true]
      exact kk
  | _ => simp [clv] at hx
theorem ok__law_same (T : Txt K mg) (d : Df K mg "_law_same" s__law_same ["found", "due"]) : Fn P w K mg base "_law_same" 4 ["found", "due"] (sSame 3) := by
  exact ok__law_same_s T d (ok__law_same_s T d (ok__law_same_s T d (ok__law_same_0 T d)))

theorem ok__law_ratio (T : Txt K mg) (d : Df K mg "_law_ratio" s__law_ratio ["top", "bottom"]) : Fn P w K mg base "_law_ratio" 1 ["top", "bottom"] spLow := by
  have sc := sc__law_ratio
  refine fn_by d sc (fun ds M R Y h => ?_) (fun f cdv A outer s H E ds M R Y hr h => ?_)
  · obtain ⟨p, b, rfl, _⟩ := h; rfl
  · obtain ⟨a, b, rfl, hb, hl, k⟩ := h
    refine ⟨_, (jds_cons (jds_set (i := 2) sc.nd rfl (Or.inl rfl) (jd_blt c_abs rfl T.b_abs bt_abs (jda_cons (jd_var 0) jda_nil))) (jds_cons (jds_set (i := 3) sc.nd rfl (Or.inl rfl) (jd_blt c_abs rfl T.b_abs bt_abs (jda_cons (jd_var 1) jda_nil))) (jds_cons (jds_while PassesOwn.never (jd_tcmp o_gt (jd_var 3) jd_int (nomark _)) (jds_one (jds_par (i := 2) (j := 3) rfl sc.nd rfl rfl (by decide) rfl rfl (jda_cons (jd_var 3) (jda_cons (jd_op o_mod (jd_var 2) (jd_var 3)) jda_nil))))) (jds_cons (jds_set (i := 2) sc.nd rfl (Or.inl rfl) (jd_op o_mul (jd_var 2) (jd_op o_sub jd_int (jd_op o_mul jd_int (jd_blty c_intB rfl T.b_int bt_int (jda_cons (jd_cmp o_lt (jd_var 1) jd_int (nomark _)) jda_nil)))))) (jds_one (jds_ret (jd_tup (jda_cons (jd_op o_fdiv (jd_var 0) (jd_var 2)) (jda_cons (jd_op o_fdiv (jd_var 1) (jd_var 2)) jda_nil))))))))), ?_⟩
    refine ⟨_, rfl, _, rfl, ?_⟩
    refine ⟨_, rfl, _, rfl, ?_⟩
    refine ⟨fun m e M' => M' = M ∧ ∃ u : Nat, e = [some (.int a), some (.int b), some (.int (u : Int)), some (.int (m : Int))] ∧ Nat.gcd u m = Nat.gcd a.natAbs b.natAbs, ⟨b.natAbs, rfl, a.natAbs, rfl, rfl⟩, ?_⟩
    rintro v e M' ⟨rfl, u, rfl, hg⟩
    refine ⟨_, rfl, _, rfl, _, rfl, ?_⟩
    refine iteD (fun h0 => ?_) (fun h0 => ?_)
    · have hv : 0 < v := by omega
      refine ⟨_, rfl, _, rfl, _, rfl, _, _, rfl, rfl, h0, _, _, rfl, ?_⟩
      exact ⟨u % v, Nat.mod_lt _ hv, rfl, v, rfl, by rw [← RM.gcd_step u v (by omega)]; exact hg⟩
    · have hv : v = 0 := by omega
      subst hv
      rw [Nat.gcd_zero_right] at hg
      subst hg
      have hn := gcd_ne (a := a) hb
      have hlg := gcd_log (a := a) hb hl
      have es := sgn_eq ((Nat.gcd a.natAbs b.natAbs : Nat) : Int) b
      have c1 : ∀ i : Int, CFd i (((Nat.gcd a.natAbs b.natAbs : Nat) : Int) * (1 - 2 * (if decide (b < 0) = true then 1 else 0))) := fun i => by
        rw [es]
        split
        · exact ⟨by omega, by rw [Int.natAbs_neg]; exact hlg⟩
        · exact ⟨hn, hlg⟩
      have bd : ∀ c : Bool, (-(2 ^ 64) < 1 - 2 * (if c = true then (1 : Int) else 0)) ∧ (1 - 2 * (if c = true then (1 : Int) else 0)) < 2 ^ 64 := fun c => by cases c <;> decide
      refine ⟨_, rfl, _, rfl, _, rfl, _, rfl, _, _, rfl, rfl, m64l (by decide) (by decide), _, rfl, _, _, rfl, rfl, m64r (bd _).1 (bd _).2, ?_⟩
      refine ⟨_, rfl, _, rfl, _, _, rfl, rfl, c1 _, _, rfl, _, rfl, _, _, rfl, rfl, c1 _, sl 2, ?_⟩
      exact low_fin hb es k
theorem ok__law_plus (T : Txt K mg) (d : Df K mg "_law_plus" s__law_plus ["one", "other"]) (G__law_ratio : Fn P w K mg base "_law_ratio" 1 ["top", "bottom"] spLow) : Fn P w K mg base "_law_plus" 2 ["one", "other"] spPlus := by
  have sc := sc__law_plus
  refine fn_by d sc (fun ds M R Y h => ?_) (fun f cdv A outer s H E ds M R Y hr h => ?_)
  · obtain ⟨q, r, rfl, _⟩ := h; rfl
  · obtain ⟨q, r, rfl, hz, k⟩ := h
    refine ⟨_, (jds_one (jds_ret (jd_callF G__law_ratio (hr.mono (by decide)) rfl (jda_cons (jd_op o_add (jd_op o_mul (jd_ix i_any (jd_var 0) jd_int (fun _ _ => rfl)) (jd_ix i_any (jd_var 1) jd_int (fun _ _ => rfl))) (jd_op o_mul (jd_ix i_any (jd_var 1) jd_int (fun _ _ => rfl)) (jd_ix i_any (jd_var 0) jd_int (fun _ _ => rfl)))) (jda_cons (jd_op o_mul (jd_ix i_any (jd_var 0) jd_int (fun _ _ => rfl)) (jd_ix i_any (jd_var 1) jd_int (fun _ _ => rfl))) jda_nil))))), ?_⟩
    refine ⟨_, rfl, _, rfl, _, rfl, _, rfl, _, _, rfl, rfl, mND hz, _, rfl, _, rfl, _, rfl, _, rfl, _, _, rfl, rfl, mND (by omega), _, rfl, _, rfl, _, rfl, _, rfl, _, rfl, _, _, rfl, rfl, mDD hz, _, _, rfl, Int.mul_ne_zero (RM.den_ne q) (RM.den_ne r), lDD hz, ?_⟩
    rw [RM.add_eq] at k
    exact k
theorem ok__law_times (T : Txt K mg) (d : Df K mg "_law_times" s__law_times ["one", "other"]) (G__law_ratio : Fn P w K mg base "_law_ratio" 1 ["top", "bottom"] spLow) : Fn P w K mg base "_law_times" 2 ["one", "other"] spTimes := by
  have sc := sc__law_times
  refine fn_by d sc (fun ds M R Y h => ?_) (fun f cdv A outer s H E ds M R Y hr h => ?_)
  · obtain ⟨q, r, rfl, _⟩ := h; rfl
  · obtain ⟨q, r, rfl, hz, k⟩ := h
    refine ⟨_, (jds_one (jds_ret (jd_callF G__law_ratio (hr.mono (by decide)) rfl (jda_cons (jd_op o_mul (jd_ix i_any (jd_var 0) jd_int (fun _ _ => rfl)) (jd_ix i_any (jd_var 1) jd_int (fun _ _ => rfl))) (jda_cons (jd_op o_mul (jd_ix i_any (jd_var 0) jd_int (fun _ _ => rfl)) (jd_ix i_any (jd_var 1) jd_int (fun _ _ => rfl))) jda_nil))))), ?_⟩
    refine ⟨_, rfl, _, rfl, _, rfl, _, rfl, _, _, rfl, rfl, mNN hz, _, rfl, _, rfl, _, rfl, _, rfl, _, _, rfl, rfl, mDD hz, _, _, rfl, Int.mul_ne_zero (RM.den_ne q) (RM.den_ne r), lDD hz, ?_⟩
    rw [RM.mul_eq] at k
    exact k
theorem ok__law_point (T : Txt K mg) (d : Df K mg "_law_point" s__law_point ["plane"])  : Fn P w K mg base "_law_point" 1 ["plane"] sPt := by
  have sc := sc__law_point
  refine fn_by d sc (fun ds M R Y h => by first | (obtain ⟨_, rfl, _⟩ := h; rfl) | (obtain ⟨_, _, rfl, _⟩ := h; rfl) | (obtain ⟨_, _, _, rfl, _⟩ := h; rfl) | (obtain ⟨_, _, _, _, rfl, _⟩ := h; rfl) | (obtain ⟨_, _, _, _, _, rfl, _⟩ := h; rfl) | (obtain ⟨_, _, _, _, _, _, rfl, _⟩ := h; rfl) | (obtain ⟨_, _, _, _, _, _, _, rfl, _⟩ := h; rfl) | (obtain ⟨_, _, _, _, _, _, _, _, rfl, _⟩ := h; rfl) | (obtain ⟨_, _, _, _, _, _, _, _, _, rfl, _⟩ := h; rfl) | (obtain ⟨_, _, _, _, _, _, _, _, _, _, rfl, _⟩ := h; rfl) | (obtain ⟨_, _, _, _, _, _, _, _, _, _, _, rfl, _⟩ := h; rfl) | (obtain ⟨_, _, _, _, _, _, _, _, _, _, _, _, rfl, _⟩ := h; rfl)) (fun f cdv A outer s H E ds M R Y hr h => ?_)
  have hu := hr.units
  obtain ⟨x, rfl, o, rfl, k⟩ := h
  cases o with
  | none =>
    refine ⟨_, (jds_cons (jds_if (jd_tcmp o_is (jd_var 0) jd_non (nomark _)) (jds_one (jds_ret (jd_tup (jda_cons (jd_tup (jda_cons jd_int (jda_cons jd_int jda_nil))) (jda_cons (jd_tup (jda_cons jd_int (jda_cons jd_int jda_nil))) jda_nil))))) jds_nil) (jds_one (jds_ret (jd_tup (jda_cons (jd_var 0) (jda_cons (jd_tup (jda_cons jd_int (jda_cons jd_int jda_nil))) jda_nil)))))), ?_⟩
    walk_at "sim"
    exact ⟨fun _ => k, fun h => (by cases h)⟩
  | some q =>
    refine ⟨_, (jds_cons (jds_if (jd_tcmp o_is (jd_var 0) jd_non (nomark _)) (jds_one (jds_ret (jd_tup (jda_cons (jd_tup (jda_cons jd_int (jda_cons jd_int jda_nil))) (jda_cons (jd_tup (jda_cons jd_int (jda_cons jd_int jda_nil))) jda_nil))))) jds_nil) (jds_one (jds_ret (jd_tup (jda_cons (jd_var 0) (jda_cons (jd_tup (jda_cons jd_int (jda_cons jd_int jda_nil))) jda_nil)))))), ?_⟩
    walk_at "sim"
    exact ⟨fun h => (by cases h), fun _ => k⟩
theorem ok__law_minus (T : Txt K mg) (d : Df K mg "_law_minus" s__law_minus ["one", "other"]) (G__law_plus : Fn P w K mg base "_law_plus" 2 ["one", "other"] spPlus) : Fn P w K mg base "_law_minus" 3 ["one", "other"] spMinus := by
  have sc := sc__law_minus
  refine fn_by d sc (fun ds M R Y h => ?_) (fun f cdv A outer s H E ds M R Y hr h => ?_)
  · obtain ⟨q, r, rfl, _⟩ := h; rfl
  · obtain ⟨q, r, rfl, hz, k⟩ := h
    refine ⟨_, (jds_one (jds_ret (jd_callF G__law_plus (hr.mono (by decide)) rfl (jda_cons (jd_var 0) (jda_cons (jd_tup (jda_cons (jd_neg (jd_ix i_any (jd_var 1) jd_int (fun _ _ => rfl))) (jda_cons (jd_ix i_any (jd_var 1) jd_int (fun _ _ => rfl)) jda_nil))) jda_nil))))), ?_⟩
    refine ⟨_, rfl, _, rfl, _, rfl, _, rfl, _, rfl, _, rfl, sl 2, q, -r, by unfold ratD; rw [Rat.neg_num, Rat.neg_den]; rfl, by rw [RM.sz_neg]; exact hz, ?_⟩
    rw [Rat.sub_eq_add_neg] at k
    exact k
theorem ok__law_right (T : Txt K mg) (d : Df K mg "_law_right" s__law_right ["table", "pairs"]) (G__law_plus : Fn P w K mg base "_law_plus" 2 ["one", "other"] spPlus) (G__law_times : Fn P w K mg base "_law_times" 2 ["one", "other"] spTimes) (G__law_point : Fn P w K mg base "_law_point" 1 ["plane"] sPt) (G__law_minus : Fn P w K mg base "_law_minus" 3 ["one", "other"] spMinus) : Fn P w K mg base "_law_right" 4 ["table", "pairs"] sRight := by
  have sc := sc__law_right
  refine fn_by d sc (fun ds M R Y h => by first | (obtain ⟨_, rfl, _⟩ := h; rfl) | (obtain ⟨_, _, rfl, _⟩ := h; rfl) | (obtain ⟨_, _, _, rfl, _⟩ := h; rfl) | (obtain ⟨_, _, _, _, rfl, _⟩ := h; rfl) | (obtain ⟨_, _, _, _, _, rfl, _⟩ := h; rfl) | (obtain ⟨_, _, _, _, _, _, rfl, _⟩ := h; rfl) | (obtain ⟨_, _, _, _, _, _, _, rfl, _⟩ := h; rfl) | (obtain ⟨_, _, _, _, _, _, _, _, rfl, _⟩ := h; rfl) | (obtain ⟨_, _, _, _, _, _, _, _, _, rfl, _⟩ := h; rfl) | (obtain ⟨_, _, _, _, _, _, _, _, _, _, rfl, _⟩ := h; rfl) | (obtain ⟨_, _, _, _, _, _, _, _, _, _, _, rfl, _⟩ := h; rfl) | (obtain ⟨_, _, _, _, _, _, _, _, _, _, _, _, rfl, _⟩ := h; rfl)) (fun f cdv A outer s H E ds M R Y hr h => ?_)
  have hu := hr.units
  obtain ⟨a, b, c, d, y, rfl, o1, z1, o2, z2, o3, z3, rfl, ⟨⟨h1, h2, h3⟩, g1, g2, g3⟩, ⟨s1, s2, s3, s4⟩, ⟨det, l1, l2, l3⟩, k⟩ := h
  have e1 := RM.sz_mul a d
  have e2 := RM.sz_mul b c
  refine ⟨_, (jds_cons (jds_asg (jd_var 0) (jdg_tup (n := 4) rfl (jdgs_cons (jdg_name (i := 2) sc.nd rfl (Or.inl rfl)) (jdgs_cons (jdg_name (i := 3) sc.nd rfl (Or.inl rfl)) (jdgs_cons (jdg_name (i := 4) sc.nd rfl (Or.inl rfl)) (jdgs_cons (jdg_name (i := 5) sc.nd rfl (Or.inl rfl)) jdgs_nil)))))) (jds_cons (jds_if (jd_tcmp (o_neC hu) (jd_callF G__law_minus (hr.mono (by decide)) rfl (jda_cons (jd_callF G__law_times (hr.mono (by decide)) rfl (jda_cons (jd_var 2) (jda_cons (jd_var 5) jda_nil))) (jda_cons (jd_callF G__law_times (hr.mono (by decide)) rfl (jda_cons (jd_var 3) (jda_cons (jd_var 4) jda_nil))) jda_nil))) (jd_tup (jda_cons jd_int (jda_cons jd_int jda_nil))) (nomark _)) (jds_one (jds_ret jd_bl)) jds_nil) (jds_cons (jds_forI PassesOwn.never rfl (jpd_seq (jd_var 1)) (jdg_tup (n := 2) rfl (jdgs_cons (jdg_name (i := 6) sc.nd rfl (Or.inl rfl)) (jdgs_cons (jdg_name (i := 7) sc.nd rfl (Or.inl rfl)) jdgs_nil))) (jds_cons (jds_asg (jd_callF G__law_point (hr.mono (by decide)) rfl (jda_cons (jd_var 6) jda_nil)) (jdg_tup (n := 2) rfl (jdgs_cons (jdg_name (i := 8) sc.nd rfl (Or.inl rfl)) (jdgs_cons (jdg_name (i := 9) sc.nd rfl (Or.inl rfl)) jdgs_nil)))) (jds_cons (jds_set (i := 10) sc.nd rfl (Or.inl rfl) (jd_callF G__law_plus (hr.mono (by decide)) rfl (jda_cons (jd_callF G__law_times (hr.mono (by decide)) rfl (jda_cons (jd_var 2) (jda_cons (jd_var 8) jda_nil))) (jda_cons (jd_callF G__law_times (hr.mono (by decide)) rfl (jda_cons (jd_var 3) (jda_cons (jd_var 9) jda_nil))) jda_nil)))) (jds_cons (jds_set (i := 11) sc.nd rfl (Or.inl rfl) (jd_callF G__law_plus (hr.mono (by decide)) rfl (jda_cons (jd_callF G__law_times (hr.mono (by decide)) rfl (jda_cons (jd_var 4) (jda_cons (jd_var 8) jda_nil))) (jda_cons (jd_callF G__law_times (hr.mono (by decide)) rfl (jda_cons (jd_var 5) (jda_cons (jd_var 9) jda_nil))) jda_nil)))) (jds_cons (jds_asg (jd_callF G__law_point (hr.mono (by decide)) rfl (jda_cons (jd_var 7) jda_nil)) (jdg_tup (n := 2) rfl (jdgs_cons (jdg_name (i := 8) sc.nd rfl (Or.inl rfl)) (jdgs_cons (jdg_name (i := 9) sc.nd rfl (Or.inl rfl)) jdgs_nil)))) (jds_one (jds_if (jd_tcmp (o_neC hu) (jd_callF G__law_plus (hr.mono (by decide)) rfl (jda_cons (jd_callF G__law_times (hr.mono (by decide)) rfl (jda_cons (jd_var 10) (jda_cons (jd_var 9) jda_nil))) (jda_cons (jd_callF G__law_times (hr.mono (by decide)) rfl (jda_cons (jd_var 11) (jda_cons (jd_var 8) jda_nil))) jda_nil))) (jd_tup (jda_cons jd_int (jda_cons jd_int jda_nil))) (nomark _)) (jds_one (jds_ret jd_bl)) jds_nil))))))) (jds_one (jds_ret jd_bl))))), ?_⟩
  walk_at "sim"
  refine ⟨by omega, by omega, by omega, fun h => absurd det h, fun _ => ?_⟩
  refine ForK.by (fun i e M' => M = M' ∧ ∃ z6 z7 z8 z9 z10 z11 : Option D, e = [some (tabD a b c d), some (D.vl [prO o1 z1, prO o2 z2, prO o3 z3]), some (ratD a), some (ratD b), some (ratD c), some (ratD d), z6, z7, z8, z9, z10, z11]) ⟨rfl, _, _, _, _, _, _, rfl⟩ (fun _ _ _ _ _ => by simp only [seqD_vl]) ?_ ?_
  · rintro i dd e M' hd ⟨rfl, z6, z7, z8, z9, z10, z11, rfl⟩
    obtain ⟨o, z, rfl, ho, hz, hl⟩ : ∃ o z, dd = prO o z ∧ SzO 80 o ∧ SzO 80 z ∧ ldO a b c d o z := by
      have := List.mem_of_getElem? hd
      simp only [List.mem_cons, List.not_mem_nil, or_false] at this
      rcases this with rfl | rfl | rfl
      · exact ⟨_, _, rfl, h1, g1, l1⟩
      · exact ⟨_, _, rfl, h2, g2, l2⟩
      · exact ⟨_, _, rfl, h3, g3, l3⟩
    have v1 := szv_ray (by decide) ho
    have v2 := szv_ray (by decide) hz
    have p1 := v1.1
    have p2 := v1.2
    have p3 := v2.1
    have p4 := v2.2
    unfold prO
    walk_at "sim"
    have t1 := RM.sz_mul a (rayF o).1
    have t2 := RM.sz_mul b (rayF o).2
    have t3 := RM.sz_mul c (rayF o).1
    have t4 := RM.sz_mul d (rayF o).2
    have t5 := RM.sz_add (a * (rayF o).1) (b * (rayF o).2)
    have t6 := RM.sz_add (c * (rayF o).1) (d * (rayF o).2)
    have t7 := RM.sz_mul (a * (rayF o).1 + b * (rayF o).2) (rayF z).2
    have t8 := RM.sz_mul (c * (rayF o).1 + d * (rayF o).2) (rayF z).1
    exact ⟨o, rfl, by omega, by omega, by omega, by omega, by omega, by omega, z, rfl, by omega, by omega, by omega, fun h => absurd hl h, fun _ => ⟨_, _, _, _, _, _, rfl⟩⟩
  · rintro e M' ⟨rfl, z6, z7, z8, z9, z10, z11, rfl⟩
    walk_at "sim"
    exact k
theorem ok__law_root (T : Txt K mg) (d : Df K mg "_law_root" s__law_root ["number"])  : Fn P w K mg base "_law_root" 1 ["number"] sRt20 := by
  have sc := sc__law_root
  refine fn_by d sc (fun ds M R Y h => by first | (obtain ⟨_, rfl, _⟩ := h; rfl) | (obtain ⟨_, _, rfl, _⟩ := h; rfl) | (obtain ⟨_, _, _, rfl, _⟩ := h; rfl) | (obtain ⟨_, _, _, _, rfl, _⟩ := h; rfl) | (obtain ⟨_, _, _, _, _, rfl, _⟩ := h; rfl) | (obtain ⟨_, _, _, _, _, _, rfl, _⟩ := h; rfl) | (obtain ⟨_, _, _, _, _, _, _, rfl, _⟩ := h; rfl) | (obtain ⟨_, _, _, _, _, _, _, _, rfl, _⟩ := h; rfl) | (obtain ⟨_, _, _, _, _, _, _, _, _, rfl, _⟩ := h; rfl) | (obtain ⟨_, _, _, _, _, _, _, _, _, _, rfl, _⟩ := h; rfl) | (obtain ⟨_, _, _, _, _, _, _, _, _, _, _, rfl, _⟩ := h; rfl) | (obtain ⟨_, _, _, _, _, _, _, _, _, _, _, _, rfl, _⟩ := h; rfl)) (fun f cdv A outer s H E ds M R Y hr h => ?_)
  have hu := hr.units
  obtain ⟨n, rfl, ⟨n0, hn⟩, k⟩ := h
  obtain ⟨N, rfl⟩ := Int.eq_ofNat_of_zero_le n0
  rw [Int.natAbs_natCast] at hn k
  refine ⟨_, (jds_cons (jds_set (i := 1) sc.nd rfl (Or.inl rfl) jd_int) (jds_cons (jds_set (i := 2) sc.nd rfl (Or.inl rfl) (jd_op o_add (jd_var 0) jd_int)) (jds_cons (jds_while PassesOwn.never (jd_tcmp o_gt (jd_op o_sub (jd_var 2) (jd_var 1)) jd_int (nomark _)) (jds_cons (jds_set (i := 3) sc.nd rfl (Or.inl rfl) (jd_op o_fdiv (jd_op o_add (jd_var 1) (jd_var 2)) jd_int)) (jds_one (jds_if (jd_tcmp o_le (jd_op o_mul (jd_var 3) (jd_var 3)) (jd_var 0) (nomark _)) (jds_one (jds_set (i := 1) sc.nd rfl (Or.inl rfl) (jd_var 3))) (jds_one (jds_set (i := 2) sc.nd rfl (Or.inl rfl) (jd_var 3))))))) (jds_one (jds_ret (jd_var 1)))))), ?_⟩
  walk_at "sim"
  refine WhileBy (fun m e M' => M = M' ∧ ∃ (lo hi : Nat) (z3 : Option D), m = hi - lo ∧ e = [some (D.int (N : Int)), some (D.int (lo : Int)), some (D.int (hi : Int)), z3] ∧ lo * lo ≤ N ∧ N < hi * hi ∧ lo < hi ∧ hi ≤ N + 1) (N + 1) ⟨rfl, 0, N + 1, _, by omega, rfl, by omega, by rw [Nat.add_mul, Nat.mul_add]; omega, by omega, by omega⟩ ?_
  rintro m e M' ⟨rfl, lo, hi, z3, rfl, rfl, h1, h2, h3, h4⟩
  walk_at "sim"
  have em : ((lo : Int) + (hi : Int)).fdiv 2 = (((lo + hi) / 2 : Nat) : Int) := by rw [fdiv_nn (by omega) (by decide)]; omega
  refine ⟨fun h0 => ⟨cfd2, ?_⟩, fun h0 => ?_⟩
  · rw [em]
    have hm : (lo + hi) / 2 ≤ N := by omega
    have hmz : (((lo + hi) / 2 : Nat) : Int).natAbs < 2 ^ 4000 := by rw [Int.natAbs_natCast]; exact Nat.lt_of_le_of_lt hm hn
    have hlm : lo < (lo + hi) / 2 := by omega
    have hmh : (lo + hi) / 2 < hi := by omega
    generalize (lo + hi) / 2 = md at *
    refine ⟨mulOk _ _ hmz hmz (by decide), fun h5 => ⟨hi - md, by omega, md, hi, _, rfl, rfl, by exact_mod_cast h5, h2, hmh, h4⟩, fun h5 => ⟨md - lo, by omega, lo, md, _, rfl, rfl, h1, ?_, hlm, by omega⟩⟩
    have : ¬ md * md ≤ N := fun z => h5 (by exact_mod_cast z)
    omega
  · have : hi = lo + 1 := by omega
    subst this
    exact k lo h1 h2
theorem ok__law_is_square (T : Txt K mg) (d : Df K mg "_law_is_square" s__law_is_square ["one"]) (G__law_root : Fn P w K mg base "_law_root" 1 ["number"] sRt20) : Fn P w K mg base "_law_is_square" 2 ["one"] sIsSq := by
  have sc := sc__law_is_square
  refine fn_by d sc (fun ds M R Y h => by first | (obtain ⟨_, rfl, _⟩ := h; rfl) | (obtain ⟨_, _, rfl, _⟩ := h; rfl) | (obtain ⟨_, _, _, rfl, _⟩ := h; rfl) | (obtain ⟨_, _, _, _, rfl, _⟩ := h; rfl) | (obtain ⟨_, _, _, _, _, rfl, _⟩ := h; rfl) | (obtain ⟨_, _, _, _, _, _, rfl, _⟩ := h; rfl) | (obtain ⟨_, _, _, _, _, _, _, rfl, _⟩ := h; rfl) | (obtain ⟨_, _, _, _, _, _, _, _, rfl, _⟩ := h; rfl) | (obtain ⟨_, _, _, _, _, _, _, _, _, rfl, _⟩ := h; rfl) | (obtain ⟨_, _, _, _, _, _, _, _, _, _, rfl, _⟩ := h; rfl) | (obtain ⟨_, _, _, _, _, _, _, _, _, _, _, rfl, _⟩ := h; rfl) | (obtain ⟨_, _, _, _, _, _, _, _, _, _, _, _, rfl, _⟩ := h; rfl)) (fun f cdv A outer s H E ds M R Y hr h => ?_)
  have hu := hr.units
  obtain ⟨q, rfl, hq, ky, kn⟩ := h
  have b1 : q.num.natAbs < 2 ^ 4000 := num_lt' q (by omega)
  have b2 : q.den < 2 ^ 4000 := den_lt' q (by omega)
  have small : ∀ {a N : Nat}, a * a ≤ N → N < 2 ^ 4000 → (a : Int).natAbs < 2 ^ 9000 := fun {a N} h h2 => by
    rw [Int.natAbs_natCast]
    refine Nat.lt_of_le_of_lt ?_ (Nat.lt_of_lt_of_le h2 (Nat.pow_le_pow_right (by decide) (by decide)))
    rcases Nat.eq_zero_or_pos a with z | z
    · omega
    · exact Nat.le_trans (Nat.le_mul_of_pos_left _ z) h
  have sq2 : ∀ a : Nat, ((a : Int)) ^ Int.toNat 2 = ((a * a : Nat) : Int) := fun a => by rw [show Int.toNat 2 = 2 from rfl, Int.pow_succ, Int.pow_succ, Int.pow_zero, Int.one_mul, Int.natCast_mul]
  refine ⟨_, (jds_cons (jds_if (jd_tcmp o_lt (jd_ix i_any (jd_var 0) jd_int (fun _ _ => rfl)) jd_int (nomark _)) (jds_one (jds_ret jd_bl)) jds_nil) (jds_one (jds_ret (jd_vand (jd_cmp o_eqI (jd_op o_powB (jd_callF G__law_root (hr.mono (by decide)) rfl (jda_cons (jd_ix i_any (jd_var 0) jd_int (fun _ _ => rfl)) jda_nil)) jd_int) (jd_ix i_any (jd_var 0) jd_int (fun _ _ => rfl)) (nomark _)) (jd_vone (jd_cmp o_eqI (jd_op o_powB (jd_callF G__law_root (hr.mono (by decide)) rfl (jda_cons (jd_ix i_any (jd_var 0) jd_int (fun _ _ => rfl)) jda_nil)) jd_int) (jd_ix i_any (jd_var 0) jd_int (fun _ _ => rfl)) (nomark _))))))), ?_⟩
  walk_at "sim"
  refine ⟨fun h => kn fun r hr => ?_, fun h => ⟨⟨by omega, b1⟩, fun a a1 a2 => ⟨cpb2 (small a1 b1), fun e => ⟨⟨by omega, by rw [Int.natAbs_natCast]; exact b2⟩, fun c c1 c2 => ⟨cpb2 (small c1 (by rw [Int.natAbs_natCast]; exact b2)), ?_⟩⟩, fun e => kn fun r hr => ?_⟩⟩⟩
  · have := ((sq_iff q).mp ⟨r, hr⟩).1
    omega
  · rw [sq2] at e ⊢
    rw [Int.natAbs_natCast] at c1 c2
    by_cases hd : ((c * c : Nat) : Int) = (q.den : Int)
    · rw [decide_eq_true hd]
      exact ky ((sq_iff q).mpr ⟨by omega, ⟨a, by omega⟩, ⟨c, by exact_mod_cast hd⟩⟩)
    · rw [decide_eq_false hd]
      refine kn fun r hr => ?_
      obtain ⟨_, _, b, hb⟩ := (sq_iff q).mp ⟨r, hr⟩
      have := rt_uniq c1 c2 hb
      subst this
      exact hd (by exact_mod_cast hb)
  · rw [sq2] at e
    obtain ⟨h0, ⟨b, hb⟩, _⟩ := (sq_iff q).mp ⟨r, hr⟩
    have := rt_uniq a1 a2 hb
    subst this
    exact e (by omega)
theorem ok__law_cross (T : Txt K mg) (d : Df K mg "_law_cross" s__law_cross ["one", "other"]) (G__law_minus : Fn P w K mg base "_law_minus" 3 ["one", "other"] spMinus) (G__law_times : Fn P w K mg base "_law_times" 2 ["one", "other"] spTimes) (G__law_point : Fn P w K mg base "_law_point" 1 ["plane"] sPt) : Fn P w K mg base "_law_cross" 4 ["one", "other"] sCrO := by
  have sc := sc__law_cross
  refine fn_by d sc (fun ds M R Y h => by first | (obtain ⟨_, rfl, _⟩ := h; rfl) | (obtain ⟨_, _, rfl, _⟩ := h; rfl) | (obtain ⟨_, _, _, rfl, _⟩ := h; rfl) | (obtain ⟨_, _, _, _, rfl, _⟩ := h; rfl) | (obtain ⟨_, _, _, _, _, rfl, _⟩ := h; rfl) | (obtain ⟨_, _, _, _, _, _, rfl, _⟩ := h; rfl) | (obtain ⟨_, _, _, _, _, _, _, rfl, _⟩ := h; rfl) | (obtain ⟨_, _, _, _, _, _, _, _, rfl, _⟩ := h; rfl) | (obtain ⟨_, _, _, _, _, _, _, _, _, rfl, _⟩ := h; rfl) | (obtain ⟨_, _, _, _, _, _, _, _, _, _, rfl, _⟩ := h; rfl) | (obtain ⟨_, _, _, _, _, _, _, _, _, _, _, rfl, _⟩ := h; rfl) | (obtain ⟨_, _, _, _, _, _, _, _, _, _, _, _, rfl, _⟩ := h; rfl)) (fun f cdv A outer s H E ds M R Y hr h => ?_)
  have hu := hr.units
  obtain ⟨x, y, rfl, o, z, rfl, rfl, ⟨ho, hz⟩, k⟩ := h
  have v1 := szv_ray (by decide) ho
  have v2 := szv_ray (by decide) hz
  have a1 := v1.1
  have a2 := v1.2
  have b1 := v2.1
  have b2 := v2.2
  have m1 := RM.sz_mul (rayF o).1 (rayF z).2
  have m2 := RM.sz_mul (rayF o).2 (rayF z).1
  refine ⟨_, (jds_cons (jds_asg (jd_tup (jda_cons (jd_callF G__law_point (hr.mono (by decide)) rfl (jda_cons (jd_var 0) jda_nil)) (jda_cons (jd_callF G__law_point (hr.mono (by decide)) rfl (jda_cons (jd_var 1) jda_nil)) jda_nil))) (jdg_tup (n := 2) rfl (jdgs_cons (jdg_tup (n := 2) rfl (jdgs_cons (jdg_name (i := 2) sc.nd rfl (Or.inl rfl)) (jdgs_cons (jdg_name (i := 3) sc.nd rfl (Or.inl rfl)) jdgs_nil))) (jdgs_cons (jdg_tup (n := 2) rfl (jdgs_cons (jdg_name (i := 4) sc.nd rfl (Or.inl rfl)) (jdgs_cons (jdg_name (i := 5) sc.nd rfl (Or.inl rfl)) jdgs_nil))) jdgs_nil)))) (jds_one (jds_ret (jd_callF G__law_minus (hr.mono (by decide)) rfl (jda_cons (jd_callF G__law_times (hr.mono (by decide)) rfl (jda_cons (jd_var 2) (jda_cons (jd_var 5) jda_nil))) (jda_cons (jd_callF G__law_times (hr.mono (by decide)) rfl (jda_cons (jd_var 3) (jda_cons (jd_var 4) jda_nil))) jda_nil)))))), ?_⟩
  walk_at "sim"
  refine ⟨o, rfl, z, rfl, by omega, by omega, by omega, ?_⟩
  rw [show (rayF o).1 * (rayF z).2 - (rayF o).2 * (rayF z).1 = crQ (rayF o) (rayF z) by unfold crQ; grind]
  exact k
theorem ok__law_round (T : Txt K mg) (d : Df K mg "_law_round" s__law_round ["planes"]) (G__law_times : Fn P w K mg base "_law_times" 2 ["one", "other"] spTimes) (G__law_cross : Fn P w K mg base "_law_cross" 4 ["one", "other"] sCrO) : Fn P w K mg base "_law_round" 5 ["planes"] sRound := by
  have sc := sc__law_round
  refine fn_by d sc (fun ds M R Y h => by first | (obtain ⟨_, rfl, _⟩ := h; rfl) | (obtain ⟨_, _, rfl, _⟩ := h; rfl) | (obtain ⟨_, _, _, rfl, _⟩ := h; rfl) | (obtain ⟨_, _, _, _, rfl, _⟩ := h; rfl) | (obtain ⟨_, _, _, _, _, rfl, _⟩ := h; rfl) | (obtain ⟨_, _, _, _, _, _, rfl, _⟩ := h; rfl) | (obtain ⟨_, _, _, _, _, _, _, rfl, _⟩ := h; rfl) | (obtain ⟨_, _, _, _, _, _, _, _, rfl, _⟩ := h; rfl) | (obtain ⟨_, _, _, _, _, _, _, _, _, rfl, _⟩ := h; rfl) | (obtain ⟨_, _, _, _, _, _, _, _, _, _, rfl, _⟩ := h; rfl) | (obtain ⟨_, _, _, _, _, _, _, _, _, _, _, rfl, _⟩ := h; rfl) | (obtain ⟨_, _, _, _, _, _, _, _, _, _, _, _, rfl, _⟩ := h; rfl)) (fun f cdv A outer s H E ds M R Y hr h => ?_)
  have hu := hr.units
  obtain ⟨x, rfl, o1, o2, o3, rfl, ⟨h1, h2, h3⟩, k⟩ := h
  have c1 := sz_cr (szv_ray (by decide) h1) (szv_ray (by decide) h2)
  have c2 := sz_cr (szv_ray (by decide) h2) (szv_ray (by decide) h3)
  have c3 := sz_cr (szv_ray (by decide) h3) (szv_ray (by decide) h1)
  have m1 := RM.sz_mul (crQ (rayF o1) (rayF o2)) (crQ (rayF o2) (rayF o3))
  refine ⟨_, (jds_cons (jds_asg (jd_var 0) (jdg_tupL (n := 3) rfl (jdgs_cons (jdg_name (i := 1) sc.nd rfl (Or.inl rfl)) (jdgs_cons (jdg_name (i := 2) sc.nd rfl (Or.inl rfl)) (jdgs_cons (jdg_name (i := 3) sc.nd rfl (Or.inl rfl)) jdgs_nil))))) (jds_one (jds_ret (jd_callF G__law_times (hr.mono (by decide)) rfl (jda_cons (jd_callF G__law_times (hr.mono (by decide)) rfl (jda_cons (jd_callF G__law_cross (hr.mono (by decide)) rfl (jda_cons (jd_var 1) (jda_cons (jd_var 2) jda_nil))) (jda_cons (jd_callF G__law_cross (hr.mono (by decide)) rfl (jda_cons (jd_var 2) (jda_cons (jd_var 3) jda_nil))) jda_nil))) (jda_cons (jd_callF G__law_cross (hr.mono (by decide)) rfl (jda_cons (jd_var 3) (jda_cons (jd_var 1) jda_nil))) jda_nil)))))), ?_⟩
  walk_at "sim"
  exact ⟨o1, o2, rfl, rfl, ⟨h1, h2⟩, o2, o3, rfl, rfl, ⟨h2, h3⟩, by omega, o3, o1, rfl, rfl, ⟨h3, h1⟩, by omega, k⟩
theorem ok_opposite (T : Txt K mg) (d : Df K mg "opposite" s_opposite ["one"]) : Fn P w K mg base "opposite" 1 ["one"] spOpp := by
  have sc := sc_opposite
  refine fn_by d sc (fun ds M R Y h => ?_) (fun f cdv A outer s H E ds M R Y hr h => ?_)
  · obtain ⟨q, rfl, _⟩ := h; rfl
  · obtain ⟨q, rfl, k⟩ := h
    refine ⟨_, (jds_one (jds_ret (jd_tup (jda_cons (jd_neg (jd_ix i_any (jd_var 0) jd_int (fun _ _ => rfl))) (jda_cons (jd_ix i_any (jd_var 0) jd_int (fun _ _ => rfl)) jda_nil))))), ?_⟩
    refine ⟨_, rfl, _, rfl, _, rfl, _, rfl, _, rfl, sl 2, ?_⟩
    have e : ratD (-q) = .tup [.int (-q.num), .int (q.den : Int)] := by unfold ratD; rw [Rat.neg_num, Rat.neg_den]
    rw [e] at k
    exact k
theorem ok_divisor (T : Txt K mg) (d : Df K mg "divisor" s_divisor ["one", "other"]) : Fn P w K mg base "divisor" 1 ["one", "other"] spDivisor := by
  have sc := sc_divisor
  refine fn_by d sc (fun ds M R Y h => ?_) (fun f cdv A outer s H E ds M R Y hr h => ?_)
  · obtain ⟨a, b, rfl, _⟩ := h; rfl
  · obtain ⟨a, b, rfl, k⟩ := h
    refine ⟨_, (jds_cons (jds_while PassesOwn.never (jd_tcmp o_neI (jd_var 1) jd_int (nomark _)) (jds_one (jds_par (i := 0) (j := 1) rfl sc.nd rfl rfl (by decide) rfl rfl (jda_cons (jd_var 1) (jda_cons (jd_op o_mod (jd_var 0) (jd_var 1)) jda_nil))))) (jds_one (jds_ret (jd_var 0)))), ?_⟩
    refine ⟨fun m e M' => M' = M ∧ ∃ u : Nat, e = [some (.int (u : Int)), some (.int (m : Int))] ∧ Nat.gcd u m = Nat.gcd a b, ⟨b, rfl, a, rfl, rfl⟩, ?_⟩
    rintro v e M' ⟨rfl, u, rfl, hg⟩
    refine ⟨_, rfl, _, rfl, _, rfl, ?_⟩
    refine iteND (fun h0 => ?_) (fun h0 => ?_)
    · have hv : 0 < v := by omega
      refine ⟨_, rfl, _, rfl, _, rfl, _, _, rfl, rfl, by omega, _, _, rfl, ?_⟩
      exact ⟨u % v, Nat.mod_lt _ hv, rfl, v, rfl, by rw [← RM.gcd_step u v (by omega)]; exact hg⟩
    · have hv : v = 0 := by omega
      subst hv
      rw [Nat.gcd_zero_right] at hg
      subst hg
      exact ⟨_, rfl, k⟩
theorem ok_is_whole (T : Txt K mg) (d : Df K mg "is_whole" s_is_whole ["thing"]) : Fn P w K mg base "is_whole" 1 ["thing"] spWhole := by
  have sc := sc_is_whole
  refine fn_by d sc (fun ds M R Y h => ?_) (fun f cdv A outer s H E ds M R Y hr h => ?_)
  · obtain ⟨n, rfl, _⟩ := h; rfl
  · obtain ⟨n, rfl, k⟩ := h
    refine ⟨_, (jds_one (jds_ret (jd_vand (jd_blt (c_isi T.sub) rfl T.b_isinstance bt_isinstance (jda_cons (jd_var 0) (jda_cons (jd_ty rfl T.b_int bt_int) jda_nil))) (jd_vone (jd_vnot (jd_blt (c_isi T.sub) rfl T.b_isinstance bt_isinstance (jda_cons (jd_var 0) (jda_cons (jd_ty rfl T.b_bool bt_bool) jda_nil)))))))), ?_⟩
    refine ⟨_, rfl, _, _, _, _, rfl, rfl, rfl, _, rfl, ?_⟩
    refine iteT ?_
    exact ⟨_, rfl, _, _, _, _, rfl, rfl, rfl, _, rfl, k⟩
theorem ok_ratio (T : Txt K mg) (d : Df K mg "ratio" s_ratio ["top", "bottom"]) (G_is_whole : Fn P w K mg base "is_whole" 1 ["thing"] spWhole) (G_divisor : Fn P w K mg base "divisor" 1 ["one", "other"] spDivisor) : Fn P w K mg base "ratio" 2 ["top", "bottom"] spLow := by
  have sc := sc_ratio
  refine fn_by d sc (fun ds M R Y h => ?_) (fun f cdv A outer s H E ds M R Y hr h => ?_)
  · obtain ⟨p, b, rfl, _⟩ := h; rfl
  · obtain ⟨a, b, rfl, hb, hl, k⟩ := h
    refine ⟨_, (jds_cons (jds_if (jd_tw (jd_or (jd_not (jd_tval (jd_callF G_is_whole (hr.mono (by decide)) rfl (jda_cons (jd_var 0) jda_nil)))) (jd_or (jd_not (jd_tval (jd_callF G_is_whole (hr.mono (by decide)) rfl (jda_cons (jd_var 1) jda_nil)))) (jd_or1 (jd_tcmp o_eqI (jd_var 1) jd_int (nomark _)))))) (jds_one jds_never) jds_nil) (jds_cons (jds_set (i := 2) sc.nd rfl (Or.inl rfl) (jd_callF G_divisor (hr.mono (by decide)) rfl (jda_cons (jd_blt c_abs rfl T.b_abs bt_abs (jda_cons (jd_var 0) jda_nil)) (jda_cons (jd_blt c_abs rfl T.b_abs bt_abs (jda_cons (jd_var 1) jda_nil)) jda_nil)))) (jds_cons (jds_if (jd_tcmp o_lt (jd_var 1) jd_int (nomark _)) (jds_one (jds_set (i := 2) sc.nd rfl (Or.inl rfl) (jd_neg (jd_var 2)))) jds_nil) (jds_one (jds_ret (jd_tup (jda_cons (jd_op o_fdiv (jd_var 0) (jd_var 2)) (jda_cons (jd_op o_fdiv (jd_var 1) (jd_var 2)) jda_nil)))))))), ?_⟩
    refine ⟨_, rfl, _, rfl, true, rfl, ?_⟩
    refine iteF ?_
    refine ⟨_, rfl, _, rfl, true, rfl, ?_⟩
    refine iteF ?_
    refine ⟨_, rfl, _, rfl, _, rfl, ?_⟩
    refine iteD (fun h => absurd h hb) (fun _ => ?_)
    refine ⟨_, rfl, _, rfl, _, rfl, _, rfl, a.natAbs, b.natAbs, rfl, ?_⟩
    have hn := gcd_ne (a := a) hb
    have hlg := gcd_log (a := a) hb hl
    refine ⟨_, rfl, _, rfl, _, rfl, ?_⟩
    refine iteD (fun h1 => ?_) (fun h1 => ?_)
    · have c1 : ∀ i : Int, CFd i (-((Nat.gcd a.natAbs b.natAbs : Nat) : Int)) := fun i => ⟨by omega, by rw [Int.natAbs_neg]; exact hlg⟩
      refine ⟨_, rfl, _, rfl, _, rfl, _, rfl, _, _, rfl, rfl, c1 _, _, rfl, _, rfl, _, _, rfl, rfl, c1 _, sl 2, ?_⟩
      exact low_fin hb (by rw [if_pos h1]) k
    · have c1 : ∀ i : Int, CFd i ((Nat.gcd a.natAbs b.natAbs : Nat) : Int) := fun i => ⟨hn, hlg⟩
      refine ⟨_, rfl, _, rfl, _, _, rfl, rfl, c1 _, _, rfl, _, rfl, _, _, rfl, rfl, c1 _, sl 2, ?_⟩
      exact low_fin hb (by rw [if_neg h1]) k
theorem ok_over (T : Txt K mg) (d : Df K mg "over" s_over ["one", "other"]) (G_ratio : Fn P w K mg base "ratio" 2 ["top", "bottom"] spLow) : Fn P w K mg base "over" 3 ["one", "other"] spOver := by
  have sc := sc_over
  refine fn_by d sc (fun ds M R Y h => ?_) (fun f cdv A outer s H E ds M R Y hr h => ?_)
  · obtain ⟨q, r, rfl, _⟩ := h; rfl
  · obtain ⟨q, r, rfl, h0, hz, k⟩ := h
    refine ⟨_, (jds_one (jds_ret (jd_callF G_ratio (hr.mono (by decide)) rfl (jda_cons (jd_op o_mul (jd_ix i_any (jd_var 0) jd_int (fun _ _ => rfl)) (jd_ix i_any (jd_var 1) jd_int (fun _ _ => rfl))) (jda_cons (jd_op o_mul (jd_ix i_any (jd_var 0) jd_int (fun _ _ => rfl)) (jd_ix i_any (jd_var 1) jd_int (fun _ _ => rfl))) jda_nil))))), ?_⟩
    refine ⟨_, rfl, _, rfl, _, rfl, _, rfl, _, _, rfl, rfl, mND hz, _, rfl, _, rfl, _, rfl, _, rfl, _, _, rfl, rfl, mDN hz, _, _, rfl, Int.mul_ne_zero (RM.den_ne q) (num_ne h0), lDN hz, ?_⟩
    rw [RM.div_eq] at k
    exact k
theorem ok_less (T : Txt K mg) (d : Df K mg "less" s_less ["one", "other"]) : Fn P w K mg base "less" 1 ["one", "other"] spLess := by
  have sc := sc_less
  refine fn_by d sc (fun ds M R Y h => ?_) (fun f cdv A outer s H E ds M R Y hr h => ?_)
  · obtain ⟨q, r, rfl, _⟩ := h; rfl
  · obtain ⟨q, r, rfl, hz, k⟩ := h
    refine ⟨_, (jds_one (jds_ret (jd_cmp o_lt (jd_op o_mul (jd_ix i_any (jd_var 0) jd_int (fun _ _ => rfl)) (jd_ix i_any (jd_var 1) jd_int (fun _ _ => rfl))) (jd_op o_mul (jd_ix i_any (jd_var 1) jd_int (fun _ _ => rfl)) (jd_ix i_any (jd_var 0) jd_int (fun _ _ => rfl))) (nomark _)))), ?_⟩
    refine ⟨_, rfl, _, rfl, _, rfl, _, rfl, _, _, rfl, rfl, mND hz, _, rfl, _, rfl, _, rfl, _, rfl, _, _, rfl, rfl, mND (by omega), _, rfl, ?_⟩
    rw [← RM.lt_eq] at k
    exact k

theorem ok_begins_below (T : Txt K mg) (d : Df K mg "begins_below" s_begins_below ["entries"]) (G_less : Fn P w K mg base "less" 1 ["one", "other"] spLess) : Fn P w K mg base "begins_below" 2 ["entries"] sBegB := by
  have sc := sc_begins_below
  refine fn_by d sc (fun ds M R Y h => by first | (obtain ⟨_, rfl, _⟩ := h; rfl) | (obtain ⟨_, _, rfl, _⟩ := h; rfl) | (obtain ⟨_, _, _, rfl, _⟩ := h; rfl) | (obtain ⟨_, _, _, _, rfl, _⟩ := h; rfl) | (obtain ⟨_, _, _, _, _, rfl, _⟩ := h; rfl) | (obtain ⟨_, _, _, _, _, _, rfl, _⟩ := h; rfl) | (obtain ⟨_, _, _, _, _, _, _, rfl, _⟩ := h; rfl) | (obtain ⟨_, _, _, _, _, _, _, _, rfl, _⟩ := h; rfl) | (obtain ⟨_, _, _, _, _, _, _, _, _, rfl, _⟩ := h; rfl) | (obtain ⟨_, _, _, _, _, _, _, _, _, _, rfl, _⟩ := h; rfl) | (obtain ⟨_, _, _, _, _, _, _, _, _, _, _, rfl, _⟩ := h; rfl) | (obtain ⟨_, _, _, _, _, _, _, _, _, _, _, _, rfl, _⟩ := h; rfl)) (fun f cdv A outer s H E ds M R Y hr h => ?_)
  have hu := hr.units
  obtain ⟨a, b, c, d, rfl, hab, ⟨z1, z2, z3, z4⟩, k⟩ := h
  refine ⟨_, (jds_cons (jds_setCompV (i := 1) [] ["entry"] [] sc.nd rfl (Or.inl rfl) rfl (by decide +kernel) rfl (by decide +kernel) (by decide +kernel) rfl all0 all0 (jpd_seq (jd_var 0)) (fun _ _ _ _ _ _ => (jdg_name (i := 0) (show (["entry"] : List Str).Nodup by decide +kernel) rfl (Or.inl rfl))) (fun _ _ _ _ _ _ => (jdifs_one (jd_tcmp (o_neC hu) (jd_var 0) (jd_globD rfl T.c_NOUGHT) (nomark _)))) (fun _ _ _ _ _ _ => (jd_callF G_less (hr.mono (by decide)) rfl (jda_cons (jd_var 0) (jda_cons (jd_globD rfl T.c_NOUGHT) jda_nil))))) (jds_one (jds_ret (jd_ix i_any (jd_var 1) jd_int (fun _ _ => rfl))))), ?_⟩
  walk_at "sim"
  refine compV_filter (xs := [a, b, c, d]) (enc := ratD) (fun q => decide (q ≠ 0)) (fun q => .bl (decide (q < 0))) (by show 4 ≤ 1000; decide) (Or.inl rfl) (fun q hq Q N h1 h2 => ?_) ?_
  · have hz : sz q ≤ 4000 := by
      simp only [List.mem_cons, List.not_mem_nil, or_false] at hq
      rcases hq with rfl | rfl | rfl | rfl <;> assumption
    walk_at "sim"
    exact ⟨fun hq => ⟨by rw [RM.sz_zero]; omega, h1 (by simpa using hq)⟩, fun hq => h2 (by simpa using hq)⟩
  · unfold ngF at k
    by_cases h0 : a = 0
    · rw [if_pos h0] at k
      have hb : b ≠ 0 := hab.resolve_left fun z => z h0
      rw [List.filter_cons_of_neg (by simpa using h0), List.filter_cons_of_pos (by simpa using hb), List.map_cons]
      walk_at "sim"
      exact k
    · rw [if_neg h0] at k
      rw [List.filter_cons_of_pos (by simpa using h0), List.map_cons]
      walk_at "sim"
      exact k
theorem ok_floor_root (T : Txt K mg) (d : Df K mg "floor_root" s_floor_root ["number"]) : Fn P w K mg base "floor_root" 1 ["number"] spFloorRoot := by
  have sc := sc_floor_root
  refine fn_by d sc (fun ds M R Y h => ?_) (fun f cdv A outer s H E ds M R Y hr h => ?_)
  · obtain ⟨n, rfl, _⟩ := h; rfl
  · obtain ⟨n, rfl, hl, k⟩ := h
    refine ⟨_, (jds_cons (jds_if (jd_tcmp o_eqI (jd_var 0) jd_int (nomark _)) (jds_one (jds_ret jd_int)) jds_nil) (jds_cons (jds_set (i := 1) sc.nd rfl (Or.inl rfl) jd_int) (jds_cons (jds_forI PassesOwn.never rfl (jpd_rng rfl T.b_range (jda_cons (jd_op o_fdiv (jd_op o_add (jd_bits (jd_var 0)) jd_int) jd_int) jda_nil)) (jdg_name (i := 2) sc.nd rfl (Or.inl rfl)) (jds_one (jds_set (i := 1) sc.nd rfl (Or.inl rfl) (jd_op o_mul (jd_var 1) jd_int)))) (jds_cons (jds_set (i := 3) sc.nd rfl (Or.inl rfl) (jd_op o_fdiv (jd_op o_add (jd_var 1) (jd_op o_fdiv (jd_var 0) (jd_var 1))) jd_int)) (jds_cons (jds_while PassesOwn.never (jd_tcmp o_lt (jd_var 3) (jd_var 1) (nomark _)) (jds_cons (jds_set (i := 1) sc.nd rfl (Or.inl rfl) (jd_var 3)) (jds_one (jds_set (i := 3) sc.nd rfl (Or.inl rfl) (jd_op o_fdiv (jd_op o_add (jd_var 1) (jd_op o_fdiv (jd_var 0) (jd_var 1))) jd_int))))) (jds_one (jds_ret (jd_var 1)))))))), ?_⟩
    refine ⟨_, rfl, _, rfl, _, rfl, ?_⟩
    refine iteD (fun h0 => ?_) (fun h0 => ?_)
    · have hn : n = 0 := by omega
      subst hn
      exact k 0 (by decide) (by decide)
    · have hn : 0 < n := by omega
      have hlt := lt_of_log hl
      have hbe : Builtin.Int.intBits (n : Int) = n.log2 + 1 := by
        unfold Builtin.Int.intBits
        rw [if_neg (by first | omega | simp; omega)]
        simp
      have e2 : (((Builtin.Int.intBits (n : Int) : Nat) : Int) + 1).fdiv 2 = (((n.log2 + 2) / 2 : Nat) : Int) := by
        rw [hbe, fdiv_nn (by omega) (by decide)]; omega
      refine ⟨_, rfl, _, rfl, _, rfl, _, _, rfl, rfl, cfd2, _, rfl, by rw [e2]; omega, by rw [e2]; omega, ?_⟩
      refine ⟨fun i e M' => M' = M ∧ ∃ t : Option D, e = [some (.int n), some (.int ((2 ^ i : Nat) : Int)), t, none], ⟨rfl, none, rfl⟩, fun _ _ _ _ _ => trivial, ?_, ?_⟩
      · rintro i dd e M' hd ⟨rfl, t, rfl⟩
        have e : (((2 ^ i : Nat) : Int) * 2) = ((2 ^ (i + 1) : Nat) : Int) := by rw [Nat.pow_succ]; omega
        exact ⟨_, rfl, _, _, rfl, rfl, m64r (by decide) (by decide), rfl, some dd, by rw [← e]; rfl⟩
      · rw [rangeD_length, e2, Int.toNat_natCast]
        rintro e M' ⟨rfl, t, rfl⟩
        have hg0 : 0 < 2 ^ ((n.log2 + 2) / 2) := Nat.two_pow_pos _
        have hgn : n < 2 ^ ((n.log2 + 2) / 2) * 2 ^ ((n.log2 + 2) / 2) := by
          rw [← Nat.pow_add]
          refine Nat.lt_of_lt_of_le (Nat.lt_log2_self) (Nat.pow_le_pow_right (by decide) (by omega))
        have hgs : Sml (2 ^ ((n.log2 + 2) / 2)) := Sml.pow (by omega)
        generalize 2 ^ ((n.log2 + 2) / 2) = g at hg0 hgn hgs
        have cf : ∀ {g : Nat}, 0 < g → Sml g → CFd (n : Int) (g : Int) := fun h1 h2 => ⟨by omega, by rw [Int.natAbs_natCast]; exact h2.log⟩
        have ev : ∀ g : Nat, ((g : Int) + (n : Int).fdiv (g : Int)).fdiv 2 = (((g + n / g) / 2 : Nat) : Int) := fun g => by
          rw [fdiv_nn (Int.natCast_nonneg _) (Int.natCast_nonneg _), fdiv_nn (by have := Int.natCast_nonneg (g + n / g); exact_mod_cast this) (by decide)]; norm_cast
        refine ⟨_, rfl, _, rfl, _, rfl, _, _, rfl, rfl, cf hg0 hgs, _, rfl, _, _, rfl, rfl, cfd2, ?_⟩
        refine ⟨fun m e M'' => M'' = M' ∧ ∃ t : Option D, e = [some (.int n), some (.int (m : Int)), t, some (.int (((m + n / m) / 2 : Nat) : Int))] ∧ 0 < m ∧ Sml m ∧ n < (m + 1) * (m + 1), ⟨g, rfl, t, by rw [← ev]; rfl, hg0, hgs, by
          have : g * g ≤ (g + 1) * (g + 1) := Nat.mul_le_mul (by omega) (by omega)
          omega⟩, ?_⟩
        rintro m e M'' ⟨rfl, t, rfl, hm0, hms, hmn⟩
        refine ⟨_, rfl, _, rfl, _, rfl, _, rfl, ?_⟩
        refine iteD (fun h1 => ?_) (fun h1 => ?_)
        · have hb : (m + n / m) / 2 < m := by exact_mod_cast h1
          have hb0 : 0 < (m + n / m) / 2 := by
            rcases Nat.lt_or_ge 1 m with z | z
            · generalize n / m = y
              omega
            · have hm1 : m = 1 := by omega
              subst hm1
              rw [Nat.div_one]
              omega
          refine ⟨_, rfl, _, rfl, _, rfl, _, rfl, _, _, rfl, rfl, cf hb0 (hms.mono (Nat.le_of_lt hb)), _, rfl, _, _, rfl, rfl, cfd2, ?_⟩
          exact ⟨_, hb, rfl, t, by rw [← ev ((m + n / m) / 2)]; rfl, hb0, hms.mono (Nat.le_of_lt hb), newton hm0⟩
        · refine ⟨_, rfl, ?_⟩
          exact k m (newton_end hm0 (fun z => h1 (by exact_mod_cast z))) hmn
theorem ok_root (T : Txt K mg) (d : Df K mg "root" s_root ["one"]) (G_floor_root : Fn P w K mg base "floor_root" 1 ["number"] spFloorRoot) : Fn P w K mg base "root" 2 ["one"] spRoot := by
  have sc := sc_root
  refine fn_by d sc (fun ds M R Y h => ?_) (fun f cdv A outer s H E ds M R Y hr h => ?_)
  · obtain ⟨q, rfl, _⟩ := h; rfl
  · obtain ⟨q, rfl, hz, k⟩ := h
    have hu := hr.units
    obtain ⟨hl1, hl2⟩ := sz_log hz
    refine ⟨_, (jds_cons (jds_if (jd_tcmp o_lt (jd_ix i_any (jd_var 0) jd_int (fun _ _ => rfl)) jd_int (nomark _)) (jds_one (jds_ret jd_non)) jds_nil) (jds_cons (jds_set (i := 1) sc.nd rfl (Or.inl rfl) (jd_callF G_floor_root (hr.mono (by decide)) rfl (jda_cons (jd_ix i_any (jd_var 0) jd_int (fun _ _ => rfl)) jda_nil))) (jds_cons (jds_set (i := 2) sc.nd rfl (Or.inl rfl) (jd_callF G_floor_root (hr.mono (by decide)) rfl (jda_cons (jd_ix i_any (jd_var 0) jd_int (fun _ _ => rfl)) jda_nil))) (jds_cons (jds_if (jd_tw (jd_or (jd_tcmp o_neI (jd_op o_mul (jd_var 1) (jd_var 1)) (jd_ix i_any (jd_var 0) jd_int (fun _ _ => rfl)) (nomark _)) (jd_or1 (jd_tcmp o_neI (jd_op o_mul (jd_var 2) (jd_var 2)) (jd_ix i_any (jd_var 0) jd_int (fun _ _ => rfl)) (nomark _))))) (jds_one (jds_ret jd_non)) jds_nil) (jds_one (jds_ret (jd_tup (jda_cons (jd_var 1) (jda_cons (jd_var 2) jda_nil))))))))), ?_⟩
    refine ⟨_, rfl, _, rfl, _, rfl, _, rfl, ?_⟩
    refine iteD (fun h0 => ?_) (fun h0 => ?_)
    · refine k .non (.inr ⟨fun r hr => ?_, rfl⟩)
      have := (root_parts hr).2.2
      omega
    · have en : q.num = ((q.num.natAbs : Nat) : Int) := by omega
      refine ⟨_, rfl, _, rfl, q.num.natAbs, by rw [← en]; rfl, hl1, fun s h1 h2 => ?_⟩
      refine ⟨_, rfl, _, rfl, q.den, rfl, hl2, fun t h3 h4 => ?_⟩
      have hs : s < 2 ^ 4000 := Nat.lt_of_le_of_lt (Nat.le_trans (Nat.le_mul_self s) h1) (lt_of_log hl1)
      have ht : t < 2 ^ 4000 := Nat.lt_of_le_of_lt (Nat.le_trans (Nat.le_mul_self t) h3) (lt_of_log hl2)
      have m1 : IntMulOk (s : Int) (s : Int) := mulOk 4000 4000 (by rw [Int.natAbs_natCast]; exact hs) (by rw [Int.natAbs_natCast]; exact hs) (by decide)
      have m2 : IntMulOk (t : Int) (t : Int) := mulOk 4000 4000 (by rw [Int.natAbs_natCast]; exact ht) (by rw [Int.natAbs_natCast]; exact ht) (by decide)
      have no : (¬ (s : Int) * (s : Int) = q.num ∨ ¬ (t : Int) * (t : Int) = (q.den : Int)) → R .non M := fun hno => k .non (.inr ⟨fun r hr => by
        obtain ⟨⟨a, ha⟩, ⟨b, hb⟩, hq⟩ := root_parts hr
        have e1 := sq_unique h1 h2 ha
        have e2 := sq_unique h3 h4 hb
        subst e1; subst e2
        rcases hno with z | z
        · apply z; rw [en, ← ha]; norm_cast
        · apply z; rw [← hb]; norm_cast, rfl⟩)
      refine ⟨_, rfl, _, rfl, _, _, rfl, rfl, m1, _, rfl, _, rfl, _, rfl, _, rfl, ?_⟩
      refine iteND (fun h5 => ?_) (fun h5 => ?_)
      · exact no (.inl h5)
      · refine ⟨_, rfl, _, rfl, _, _, rfl, rfl, m2, _, rfl, _, rfl, _, rfl, _, rfl, ?_⟩
        refine iteND (fun h6 => ?_) (fun h6 => ?_)
        · exact no (.inr h6)
        · refine ⟨_, rfl, _, rfl, sl 2, ?_⟩
          obtain ⟨r, r0, r1, r2, r3⟩ := root_some (q := q) h5 (by exact_mod_cast h6)
          refine k _ (.inl ⟨r, r0, r1, ?_⟩)
          unfold ratD; rw [r2, r3]

theorem ok_plus (T : Txt K mg) (d : Df K mg "plus" s_plus ["one", "other"]) (G_ratio : Fn P w K mg base "ratio" 2 ["top", "bottom"] spLow) : Fn P w K mg base "plus" 3 ["one", "other"] spPlus := by
  have sc := sc_plus
  refine fn_by d sc (fun ds M R Y h => ?_) (fun f cdv A outer s H E ds M R Y hr h => ?_)
  · obtain ⟨q, r, rfl, _⟩ := h; rfl
  · obtain ⟨q, r, rfl, hz, k⟩ := h
    refine ⟨_, (jds_one (jds_ret (jd_callF G_ratio (hr.mono (by decide)) rfl (jda_cons (jd_op o_add (jd_op o_mul (jd_ix i_any (jd_var 0) jd_int (fun _ _ => rfl)) (jd_ix i_any (jd_var 1) jd_int (fun _ _ => rfl))) (jd_op o_mul (jd_ix i_any (jd_var 1) jd_int (fun _ _ => rfl)) (jd_ix i_any (jd_var 0) jd_int (fun _ _ => rfl)))) (jda_cons (jd_op o_mul (jd_ix i_any (jd_var 0) jd_int (fun _ _ => rfl)) (jd_ix i_any (jd_var 1) jd_int (fun _ _ => rfl))) jda_nil))))), ?_⟩
    refine ⟨_, rfl, _, rfl, _, rfl, _, rfl, _, _, rfl, rfl, mND hz, _, rfl, _, rfl, _, rfl, _, rfl, _, _, rfl, rfl, mND (by omega), _, rfl, _, rfl, _, rfl, _, rfl, _, rfl, _, _, rfl, rfl, mDD hz, _, _, rfl, Int.mul_ne_zero (RM.den_ne q) (RM.den_ne r), lDD hz, ?_⟩
    rw [RM.add_eq] at k
    exact k
theorem ok_minus (T : Txt K mg) (d : Df K mg "minus" s_minus ["one", "other"]) (G_plus : Fn P w K mg base "plus" 3 ["one", "other"] spPlus) (G_opposite : Fn P w K mg base "opposite" 1 ["one"] spOpp) : Fn P w K mg base "minus" 4 ["one", "other"] spMinus := by
  have sc := sc_minus
  refine fn_by d sc (fun ds M R Y h => ?_) (fun f cdv A outer s H E ds M R Y hr h => ?_)
  · obtain ⟨q, r, rfl, _⟩ := h; rfl
  · obtain ⟨q, r, rfl, hz, k⟩ := h
    refine ⟨_, (jds_one (jds_ret (jd_callF G_plus (hr.mono (by decide)) rfl (jda_cons (jd_var 0) (jda_cons (jd_callF G_opposite (hr.mono (by decide)) rfl (jda_cons (jd_var 1) jda_nil)) jda_nil))))), ?_⟩
    refine ⟨_, rfl, _, rfl, r, rfl, q, -r, rfl, by rw [RM.sz_neg]; exact hz, ?_⟩
    rw [Rat.sub_eq_add_neg] at k
    exact k
theorem ok_times (T : Txt K mg) (d : Df K mg "times" s_times ["one", "other"]) (G_ratio : Fn P w K mg base "ratio" 2 ["top", "bottom"] spLow) : Fn P w K mg base "times" 3 ["one", "other"] spTimes := by
  have sc := sc_times
  refine fn_by d sc (fun ds M R Y h => ?_) (fun f cdv A outer s H E ds M R Y hr h => ?_)
  · obtain ⟨q, r, rfl, _⟩ := h; rfl
  · obtain ⟨q, r, rfl, hz, k⟩ := h
    refine ⟨_, (jds_one (jds_ret (jd_callF G_ratio (hr.mono (by decide)) rfl (jda_cons (jd_op o_mul (jd_ix i_any (jd_var 0) jd_int (fun _ _ => rfl)) (jd_ix i_any (jd_var 1) jd_int (fun _ _ => rfl))) (jda_cons (jd_op o_mul (jd_ix i_any (jd_var 0) jd_int (fun _ _ => rfl)) (jd_ix i_any (jd_var 1) jd_int (fun _ _ => rfl))) jda_nil))))), ?_⟩
    refine ⟨_, rfl, _, rfl, _, rfl, _, rfl, _, _, rfl, rfl, mNN hz, _, rfl, _, rfl, _, rfl, _, rfl, _, _, rfl, rfl, mDD hz, _, _, rfl, Int.mul_ne_zero (RM.den_ne q) (RM.den_ne r), lDD hz, ?_⟩
    rw [RM.mul_eq] at k
    exact k
theorem ok_by_columns (T : Txt K mg) (d : Df K mg "by_columns" s_by_columns ["first", "second"])  : Fn P w K mg base "by_columns" 1 ["first", "second"] spColumns := by
  have sc := sc_by_columns
  refine fn_by d sc (fun ds M R Y h => by first | (obtain ⟨_, rfl, _⟩ := h; rfl) | (obtain ⟨_, _, rfl, _⟩ := h; rfl) | (obtain ⟨_, _, _, rfl, _⟩ := h; rfl) | (obtain ⟨_, _, _, _, rfl, _⟩ := h; rfl) | (obtain ⟨_, _, _, _, _, rfl, _⟩ := h; rfl) | (obtain ⟨_, _, _, _, _, _, rfl, _⟩ := h; rfl) | (obtain ⟨_, _, _, _, _, _, _, rfl, _⟩ := h; rfl) | (obtain ⟨_, _, _, _, _, _, _, _, rfl, _⟩ := h; rfl) | (obtain ⟨_, _, _, _, _, _, _, _, _, rfl, _⟩ := h; rfl) | (obtain ⟨_, _, _, _, _, _, _, _, _, _, rfl, _⟩ := h; rfl) | (obtain ⟨_, _, _, _, _, _, _, _, _, _, _, rfl, _⟩ := h; rfl) | (obtain ⟨_, _, _, _, _, _, _, _, _, _, _, _, rfl, _⟩ := h; rfl)) (fun f cdv A outer s H E ds M R Y hr h => ?_)
  have hu := hr.units
  obtain ⟨a, b, c, d, rfl, k⟩ := h
  refine ⟨_, (jds_one (jds_ret (jd_tup (jda_cons (jd_ix i_any (jd_var 0) jd_int (fun _ _ => rfl)) (jda_cons (jd_ix i_any (jd_var 1) jd_int (fun _ _ => rfl)) (jda_cons (jd_ix i_any (jd_var 0) jd_int (fun _ _ => rfl)) (jda_cons (jd_ix i_any (jd_var 1) jd_int (fun _ _ => rfl)) jda_nil))))))), ?_⟩
  walk_at "sim"
  exact k
theorem ok_led (T : Txt K mg) (d : Df K mg "led" s_led ["table", "ray"]) (G_plus : Fn P w K mg base "plus" 3 ["one", "other"] spPlus) (G_times : Fn P w K mg base "times" 3 ["one", "other"] spTimes) : Fn P w K mg base "led" 4 ["table", "ray"] sLed := by
  have sc := sc_led
  refine fn_by d sc (fun ds M R Y h => by first | (obtain ⟨_, rfl, _⟩ := h; rfl) | (obtain ⟨_, _, rfl, _⟩ := h; rfl) | (obtain ⟨_, _, _, rfl, _⟩ := h; rfl) | (obtain ⟨_, _, _, _, rfl, _⟩ := h; rfl) | (obtain ⟨_, _, _, _, _, rfl, _⟩ := h; rfl) | (obtain ⟨_, _, _, _, _, _, rfl, _⟩ := h; rfl) | (obtain ⟨_, _, _, _, _, _, _, rfl, _⟩ := h; rfl) | (obtain ⟨_, _, _, _, _, _, _, _, rfl, _⟩ := h; rfl) | (obtain ⟨_, _, _, _, _, _, _, _, _, rfl, _⟩ := h; rfl) | (obtain ⟨_, _, _, _, _, _, _, _, _, _, rfl, _⟩ := h; rfl) | (obtain ⟨_, _, _, _, _, _, _, _, _, _, _, rfl, _⟩ := h; rfl) | (obtain ⟨_, _, _, _, _, _, _, _, _, _, _, _, rfl, _⟩ := h; rfl)) (fun f cdv A outer s H E ds M R Y hr h => ?_)
  have hu := hr.units
  obtain ⟨a, b, c, d, y, u, rfl, h1, h2, k⟩ := h
  refine ⟨_, (jds_cons (jds_asg (jd_var 0) (jdg_tup (n := 4) rfl (jdgs_cons (jdg_name (i := 2) sc.nd rfl (Or.inl rfl)) (jdgs_cons (jdg_name (i := 3) sc.nd rfl (Or.inl rfl)) (jdgs_cons (jdg_name (i := 4) sc.nd rfl (Or.inl rfl)) (jdgs_cons (jdg_name (i := 5) sc.nd rfl (Or.inl rfl)) jdgs_nil)))))) (jds_cons (jds_asg (jd_var 1) (jdg_tup (n := 2) rfl (jdgs_cons (jdg_name (i := 6) sc.nd rfl (Or.inl rfl)) (jdgs_cons (jdg_name (i := 7) sc.nd rfl (Or.inl rfl)) jdgs_nil)))) (jds_one (jds_ret (jd_tup (jda_cons (jd_callF G_plus (hr.mono (by decide)) rfl (jda_cons (jd_callF G_times (hr.mono (by decide)) rfl (jda_cons (jd_var 2) (jda_cons (jd_var 6) jda_nil))) (jda_cons (jd_callF G_times (hr.mono (by decide)) rfl (jda_cons (jd_var 3) (jda_cons (jd_var 7) jda_nil))) jda_nil))) (jda_cons (jd_callF G_plus (hr.mono (by decide)) rfl (jda_cons (jd_callF G_times (hr.mono (by decide)) rfl (jda_cons (jd_var 4) (jda_cons (jd_var 6) jda_nil))) (jda_cons (jd_callF G_times (hr.mono (by decide)) rfl (jda_cons (jd_var 5) (jda_cons (jd_var 7) jda_nil))) jda_nil))) jda_nil))))))), ?_⟩
  walk_at "sim"
  exact ⟨by walk_at "size", by walk_at "size", by walk_at "size", by walk_at "size", by walk_at "size", by walk_at "size", k⟩
theorem ok_behind (T : Txt K mg) (d : Df K mg "behind" s_behind ["one", "other"]) (G_by_columns : Fn P w K mg base "by_columns" 1 ["first", "second"] spColumns) (G_led : Fn P w K mg base "led" 4 ["table", "ray"] sLed) : Fn P w K mg base "behind" 5 ["one", "other"] sThen19 := by
  have sc := sc_behind
  refine fn_by d sc (fun ds M R Y h => by first | (obtain ⟨_, rfl, _⟩ := h; rfl) | (obtain ⟨_, _, rfl, _⟩ := h; rfl) | (obtain ⟨_, _, _, rfl, _⟩ := h; rfl) | (obtain ⟨_, _, _, _, rfl, _⟩ := h; rfl) | (obtain ⟨_, _, _, _, _, rfl, _⟩ := h; rfl) | (obtain ⟨_, _, _, _, _, _, rfl, _⟩ := h; rfl) | (obtain ⟨_, _, _, _, _, _, _, rfl, _⟩ := h; rfl) | (obtain ⟨_, _, _, _, _, _, _, _, rfl, _⟩ := h; rfl) | (obtain ⟨_, _, _, _, _, _, _, _, _, rfl, _⟩ := h; rfl) | (obtain ⟨_, _, _, _, _, _, _, _, _, _, rfl, _⟩ := h; rfl) | (obtain ⟨_, _, _, _, _, _, _, _, _, _, _, rfl, _⟩ := h; rfl) | (obtain ⟨_, _, _, _, _, _, _, _, _, _, _, _, rfl, _⟩ := h; rfl)) (fun f cdv A outer s H E ds M R Y hr h => ?_)
  have hu := hr.units
  obtain ⟨a, b, c, d, a', b', c', d', rfl, ⟨h1, h2, h3, h4⟩, k⟩ := h
  refine ⟨_, (jds_cons (jds_asg (jd_var 0) (jdg_tup (n := 4) rfl (jdgs_cons (jdg_name (i := 2) sc.nd rfl (Or.inl rfl)) (jdgs_cons (jdg_name (i := 3) sc.nd rfl (Or.inl rfl)) (jdgs_cons (jdg_name (i := 4) sc.nd rfl (Or.inl rfl)) (jdgs_cons (jdg_name (i := 5) sc.nd rfl (Or.inl rfl)) jdgs_nil)))))) (jds_one (jds_ret (jd_callF G_by_columns (hr.mono (by decide)) rfl (jda_cons (jd_callF G_led (hr.mono (by decide)) rfl (jda_cons (jd_var 1) (jda_cons (jd_tup (jda_cons (jd_var 2) (jda_cons (jd_var 4) jda_nil))) jda_nil))) (jda_cons (jd_callF G_led (hr.mono (by decide)) rfl (jda_cons (jd_var 1) (jda_cons (jd_tup (jda_cons (jd_var 3) (jda_cons (jd_var 5) jda_nil))) jda_nil))) jda_nil)))))), ?_⟩
  walk_at "sim"
  exact ⟨by omega, by omega, by omega, by omega, k⟩
theorem ok_grown (T : Txt K mg) (d : Df K mg "grown" s_grown ["ray", "share"]) (G_times : Fn P w K mg base "times" 3 ["one", "other"] spTimes) : Fn P w K mg base "grown" 4 ["ray", "share"] sGrown := by
  have sc := sc_grown
  refine fn_by d sc (fun ds M R Y h => by first | (obtain ⟨_, rfl, _⟩ := h; rfl) | (obtain ⟨_, _, rfl, _⟩ := h; rfl) | (obtain ⟨_, _, _, rfl, _⟩ := h; rfl) | (obtain ⟨_, _, _, _, rfl, _⟩ := h; rfl) | (obtain ⟨_, _, _, _, _, rfl, _⟩ := h; rfl) | (obtain ⟨_, _, _, _, _, _, rfl, _⟩ := h; rfl) | (obtain ⟨_, _, _, _, _, _, _, rfl, _⟩ := h; rfl) | (obtain ⟨_, _, _, _, _, _, _, _, rfl, _⟩ := h; rfl) | (obtain ⟨_, _, _, _, _, _, _, _, _, rfl, _⟩ := h; rfl) | (obtain ⟨_, _, _, _, _, _, _, _, _, _, rfl, _⟩ := h; rfl) | (obtain ⟨_, _, _, _, _, _, _, _, _, _, _, rfl, _⟩ := h; rfl) | (obtain ⟨_, _, _, _, _, _, _, _, _, _, _, _, rfl, _⟩ := h; rfl)) (fun f cdv A outer s H E ds M R Y hr h => ?_)
  have hu := hr.units
  obtain ⟨y, u, s', rfl, ⟨h1, h2⟩, k⟩ := h
  refine ⟨_, (jds_one (jds_ret (jd_tup (jda_cons (jd_callF G_times (hr.mono (by decide)) rfl (jda_cons (jd_ix i_any (jd_var 0) jd_int (fun _ _ => rfl)) (jda_cons (jd_var 1) jda_nil))) (jda_cons (jd_callF G_times (hr.mono (by decide)) rfl (jda_cons (jd_ix i_any (jd_var 0) jd_int (fun _ _ => rfl)) (jda_cons (jd_var 1) jda_nil))) jda_nil))))), ?_⟩
  walk_at "sim"
  exact ⟨by omega, by omega, k⟩
theorem ok_cross (T : Txt K mg) (d : Df K mg "cross" s_cross ["one", "other"]) (G_minus : Fn P w K mg base "minus" 4 ["one", "other"] spMinus) (G_times : Fn P w K mg base "times" 3 ["one", "other"] spTimes) : Fn P w K mg base "cross" 5 ["one", "other"] sCr := by
  have sc := sc_cross
  refine fn_by d sc (fun ds M R Y h => by first | (obtain ⟨_, rfl, _⟩ := h; rfl) | (obtain ⟨_, _, rfl, _⟩ := h; rfl) | (obtain ⟨_, _, _, rfl, _⟩ := h; rfl) | (obtain ⟨_, _, _, _, rfl, _⟩ := h; rfl) | (obtain ⟨_, _, _, _, _, rfl, _⟩ := h; rfl) | (obtain ⟨_, _, _, _, _, _, rfl, _⟩ := h; rfl) | (obtain ⟨_, _, _, _, _, _, _, rfl, _⟩ := h; rfl) | (obtain ⟨_, _, _, _, _, _, _, _, rfl, _⟩ := h; rfl) | (obtain ⟨_, _, _, _, _, _, _, _, _, rfl, _⟩ := h; rfl) | (obtain ⟨_, _, _, _, _, _, _, _, _, _, rfl, _⟩ := h; rfl) | (obtain ⟨_, _, _, _, _, _, _, _, _, _, _, rfl, _⟩ := h; rfl) | (obtain ⟨_, _, _, _, _, _, _, _, _, _, _, _, rfl, _⟩ := h; rfl)) (fun f cdv A outer s H E ds M R Y hr h => ?_)
  have hu := hr.units
  obtain ⟨y, u, z, w', rfl, hz, k⟩ := h
  refine ⟨_, (jds_cons (jds_asg (jd_var 0) (jdg_tup (n := 2) rfl (jdgs_cons (jdg_name (i := 2) sc.nd rfl (Or.inl rfl)) (jdgs_cons (jdg_name (i := 3) sc.nd rfl (Or.inl rfl)) jdgs_nil)))) (jds_cons (jds_asg (jd_var 1) (jdg_tup (n := 2) rfl (jdgs_cons (jdg_name (i := 4) sc.nd rfl (Or.inl rfl)) (jdgs_cons (jdg_name (i := 5) sc.nd rfl (Or.inl rfl)) jdgs_nil)))) (jds_one (jds_ret (jd_callF G_minus (hr.mono (by decide)) rfl (jda_cons (jd_callF G_times (hr.mono (by decide)) rfl (jda_cons (jd_var 2) (jda_cons (jd_var 5) jda_nil))) (jda_cons (jd_callF G_times (hr.mono (by decide)) rfl (jda_cons (jd_var 4) (jda_cons (jd_var 3) jda_nil))) jda_nil))))))), ?_⟩
  walk_at "sim"
  have m1 := RM.sz_mul y w'
  have m2 := RM.sz_mul z u
  exact ⟨by omega, by omega, by omega, k⟩
theorem ok_frame (T : Txt K mg) (d : Df K mg "frame" s_frame ["rays"]) (G_by_columns : Fn P w K mg base "by_columns" 1 ["first", "second"] spColumns) (G_grown : Fn P w K mg base "grown" 4 ["ray", "share"] sGrown) (G_cross : Fn P w K mg base "cross" 5 ["one", "other"] sCr) : Fn P w K mg base "frame" 6 ["rays"] sFrame := by
  have sc := sc_frame
  refine fn_by d sc (fun ds M R Y h => by first | (obtain ⟨_, rfl, _⟩ := h; rfl) | (obtain ⟨_, _, rfl, _⟩ := h; rfl) | (obtain ⟨_, _, _, rfl, _⟩ := h; rfl) | (obtain ⟨_, _, _, _, rfl, _⟩ := h; rfl) | (obtain ⟨_, _, _, _, _, rfl, _⟩ := h; rfl) | (obtain ⟨_, _, _, _, _, _, rfl, _⟩ := h; rfl) | (obtain ⟨_, _, _, _, _, _, _, rfl, _⟩ := h; rfl) | (obtain ⟨_, _, _, _, _, _, _, _, rfl, _⟩ := h; rfl) | (obtain ⟨_, _, _, _, _, _, _, _, _, rfl, _⟩ := h; rfl) | (obtain ⟨_, _, _, _, _, _, _, _, _, _, rfl, _⟩ := h; rfl) | (obtain ⟨_, _, _, _, _, _, _, _, _, _, _, rfl, _⟩ := h; rfl) | (obtain ⟨_, _, _, _, _, _, _, _, _, _, _, _, rfl, _⟩ := h; rfl)) (fun f cdv A outer s H E ds M R Y hr h => ?_)
  have hu := hr.units
  obtain ⟨x, rfl, v1, v2, v3, rfl, ⟨h1, h2, h3⟩, k⟩ := h
  have c1 := sz_cr h3 h2
  have c2 := sz_cr h1 h3
  obtain ⟨y1, u1⟩ := v1
  obtain ⟨y2, u2⟩ := v2
  obtain ⟨y3, u3⟩ := v3
  obtain ⟨a1, a2⟩ := h1
  obtain ⟨b1, b2⟩ := h2
  obtain ⟨d1, d2⟩ := h3
  have c1 : sz (y3 * u2 - y2 * u3) ≤ 2 * 400 + 3 := c1
  have c2 : sz (y1 * u3 - y3 * u1) ≤ 2 * 400 + 3 := c2
  simp only at a1 a2 b1 b2 d1 d2
  refine ⟨_, (jds_cons (jds_asg (jd_var 0) (jdg_tupL (n := 3) rfl (jdgs_cons (jdg_name (i := 1) sc.nd rfl (Or.inl rfl)) (jdgs_cons (jdg_name (i := 2) sc.nd rfl (Or.inl rfl)) (jdgs_cons (jdg_name (i := 3) sc.nd rfl (Or.inl rfl)) jdgs_nil))))) (jds_one (jds_ret (jd_callF G_by_columns (hr.mono (by decide)) rfl (jda_cons (jd_callF G_grown (hr.mono (by decide)) rfl (jda_cons (jd_var 1) (jda_cons (jd_callF G_cross (hr.mono (by decide)) rfl (jda_cons (jd_var 3) (jda_cons (jd_var 2) jda_nil))) jda_nil))) (jda_cons (jd_callF G_grown (hr.mono (by decide)) rfl (jda_cons (jd_var 2) (jda_cons (jd_callF G_cross (hr.mono (by decide)) rfl (jda_cons (jd_var 1) (jda_cons (jd_var 3) jda_nil))) jda_nil))) jda_nil)))))), ?_⟩
  walk_at "sim"
  exact ⟨by omega, ⟨by omega, by omega⟩, by omega, ⟨by omega, by omega⟩, k⟩
theorem ok_ray_from (T : Txt K mg) (d : Df K mg "ray_from" s_ray_from ["plane"])  : Fn P w K mg base "ray_from" 1 ["plane"] sRayFr := by
  have sc := sc_ray_from
  refine fn_by d sc (fun ds M R Y h => by first | (obtain ⟨_, rfl, _⟩ := h; rfl) | (obtain ⟨_, _, rfl, _⟩ := h; rfl) | (obtain ⟨_, _, _, rfl, _⟩ := h; rfl) | (obtain ⟨_, _, _, _, rfl, _⟩ := h; rfl) | (obtain ⟨_, _, _, _, _, rfl, _⟩ := h; rfl) | (obtain ⟨_, _, _, _, _, _, rfl, _⟩ := h; rfl) | (obtain ⟨_, _, _, _, _, _, _, rfl, _⟩ := h; rfl) | (obtain ⟨_, _, _, _, _, _, _, _, rfl, _⟩ := h; rfl) | (obtain ⟨_, _, _, _, _, _, _, _, _, rfl, _⟩ := h; rfl) | (obtain ⟨_, _, _, _, _, _, _, _, _, _, rfl, _⟩ := h; rfl) | (obtain ⟨_, _, _, _, _, _, _, _, _, _, _, rfl, _⟩ := h; rfl) | (obtain ⟨_, _, _, _, _, _, _, _, _, _, _, _, rfl, _⟩ := h; rfl)) (fun f cdv A outer s H E ds M R Y hr h => ?_)
  have hu := hr.units
  obtain ⟨x, rfl, o, rfl, k⟩ := h
  cases o with
  | none =>
    refine ⟨_, (jds_cons (jds_if (jd_tcmp o_is (jd_var 0) jd_non (nomark _)) (jds_one (jds_ret (jd_globD rfl T.c_LEVEL_RAY))) jds_nil) (jds_one (jds_ret (jd_tup (jda_cons (jd_var 0) (jda_cons (jd_globD rfl T.c_ONE) jda_nil)))))), ?_⟩
    walk_at "sim"
    exact ⟨fun _ => k, fun h => (by cases h)⟩
  | some q =>
    refine ⟨_, (jds_cons (jds_if (jd_tcmp o_is (jd_var 0) jd_non (nomark _)) (jds_one (jds_ret (jd_globD rfl T.c_LEVEL_RAY))) jds_nil) (jds_one (jds_ret (jd_tup (jda_cons (jd_var 0) (jda_cons (jd_globD rfl T.c_ONE) jda_nil)))))), ?_⟩
    walk_at "sim"
    exact ⟨fun h => (by cases h), fun _ => k⟩
theorem ok_ray_to (T : Txt K mg) (d : Df K mg "ray_to" s_ray_to ["plane"]) (G_ray_from : Fn P w K mg base "ray_from" 1 ["plane"] sRayFr) (G_opposite : Fn P w K mg base "opposite" 1 ["one"] spOpp) : Fn P w K mg base "ray_to" 2 ["plane"] sRayTo := by
  have sc := sc_ray_to
  refine fn_by d sc (fun ds M R Y h => by first | (obtain ⟨_, rfl, _⟩ := h; rfl) | (obtain ⟨_, _, rfl, _⟩ := h; rfl) | (obtain ⟨_, _, _, rfl, _⟩ := h; rfl) | (obtain ⟨_, _, _, _, rfl, _⟩ := h; rfl) | (obtain ⟨_, _, _, _, _, rfl, _⟩ := h; rfl) | (obtain ⟨_, _, _, _, _, _, rfl, _⟩ := h; rfl) | (obtain ⟨_, _, _, _, _, _, _, rfl, _⟩ := h; rfl) | (obtain ⟨_, _, _, _, _, _, _, _, rfl, _⟩ := h; rfl) | (obtain ⟨_, _, _, _, _, _, _, _, _, rfl, _⟩ := h; rfl) | (obtain ⟨_, _, _, _, _, _, _, _, _, _, rfl, _⟩ := h; rfl) | (obtain ⟨_, _, _, _, _, _, _, _, _, _, _, rfl, _⟩ := h; rfl) | (obtain ⟨_, _, _, _, _, _, _, _, _, _, _, _, rfl, _⟩ := h; rfl)) (fun f cdv A outer s H E ds M R Y hr h => ?_)
  have hu := hr.units
  obtain ⟨x, rfl, o, rfl, k⟩ := h
  cases o with
  | none =>
    refine ⟨_, (jds_cons (jds_if (jd_tcmp o_is (jd_var 0) jd_non (nomark _)) (jds_one (jds_ret (jd_callF G_ray_from (hr.mono (by decide)) rfl (jda_cons (jd_var 0) jda_nil)))) jds_nil) (jds_one (jds_ret (jd_callF G_ray_from (hr.mono (by decide)) rfl (jda_cons (jd_callF G_opposite (hr.mono (by decide)) rfl (jda_cons (jd_var 0) jda_nil)) jda_nil))))), ?_⟩
    walk_at "sim"
    exact ⟨fun _ => ⟨none, rfl, k⟩, fun h => (by cases h)⟩
  | some q =>
    refine ⟨_, (jds_cons (jds_if (jd_tcmp o_is (jd_var 0) jd_non (nomark _)) (jds_one (jds_ret (jd_callF G_ray_from (hr.mono (by decide)) rfl (jda_cons (jd_var 0) jda_nil)))) jds_nil) (jds_one (jds_ret (jd_callF G_ray_from (hr.mono (by decide)) rfl (jda_cons (jd_callF G_opposite (hr.mono (by decide)) rfl (jda_cons (jd_var 0) jda_nil)) jda_nil))))), ?_⟩
    walk_at "sim"
    refine ⟨fun h => (by cases h), fun _ => ?_⟩
    rw [show optD (some q) = ratD q from rfl]
    walk_at "sim"
    exact ⟨some (-q), rfl, k⟩
theorem ok_undone (T : Txt K mg) (d : Df K mg "undone" s_undone ["table"]) (G_opposite : Fn P w K mg base "opposite" 1 ["one"] spOpp) : Fn P w K mg base "undone" 2 ["table"] sUndone := by
  have sc := sc_undone
  refine fn_by d sc (fun ds M R Y h => by first | (obtain ⟨_, rfl, _⟩ := h; rfl) | (obtain ⟨_, _, rfl, _⟩ := h; rfl) | (obtain ⟨_, _, _, rfl, _⟩ := h; rfl) | (obtain ⟨_, _, _, _, rfl, _⟩ := h; rfl) | (obtain ⟨_, _, _, _, _, rfl, _⟩ := h; rfl) | (obtain ⟨_, _, _, _, _, _, rfl, _⟩ := h; rfl) | (obtain ⟨_, _, _, _, _, _, _, rfl, _⟩ := h; rfl) | (obtain ⟨_, _, _, _, _, _, _, _, rfl, _⟩ := h; rfl) | (obtain ⟨_, _, _, _, _, _, _, _, _, rfl, _⟩ := h; rfl) | (obtain ⟨_, _, _, _, _, _, _, _, _, _, rfl, _⟩ := h; rfl) | (obtain ⟨_, _, _, _, _, _, _, _, _, _, _, rfl, _⟩ := h; rfl) | (obtain ⟨_, _, _, _, _, _, _, _, _, _, _, _, rfl, _⟩ := h; rfl)) (fun f cdv A outer s H E ds M R Y hr h => ?_)
  have hu := hr.units
  obtain ⟨a, b, c, d, rfl, k⟩ := h
  refine ⟨_, (jds_cons (jds_asg (jd_var 0) (jdg_tup (n := 4) rfl (jdgs_cons (jdg_name (i := 1) sc.nd rfl (Or.inl rfl)) (jdgs_cons (jdg_name (i := 2) sc.nd rfl (Or.inl rfl)) (jdgs_cons (jdg_name (i := 3) sc.nd rfl (Or.inl rfl)) (jdgs_cons (jdg_name (i := 4) sc.nd rfl (Or.inl rfl)) jdgs_nil)))))) (jds_one (jds_ret (jd_tup (jda_cons (jd_var 4) (jda_cons (jd_callF G_opposite (hr.mono (by decide)) rfl (jda_cons (jd_var 2) jda_nil)) (jda_cons (jd_callF G_opposite (hr.mono (by decide)) rfl (jda_cons (jd_var 3) jda_nil)) (jda_cons (jd_var 1) jda_nil)))))))), ?_⟩
  walk_at "sim"
  exact k
theorem ok_tables_by (T : Txt K mg) (d : Df K mg "tables_by" s_tables_by ["pairs"]) (G_opposite : Fn P w K mg base "opposite" 1 ["one"] spOpp) (G_over : Fn P w K mg base "over" 3 ["one", "other"] spOver) (G_begins_below : Fn P w K mg base "begins_below" 2 ["entries"] sBegB) (G_root : Fn P w K mg base "root" 2 ["one"] spRoot) (G_minus : Fn P w K mg base "minus" 4 ["one", "other"] spMinus) (G_times : Fn P w K mg base "times" 3 ["one", "other"] spTimes) (G_behind : Fn P w K mg base "behind" 5 ["one", "other"] sThen19) (G_frame : Fn P w K mg base "frame" 6 ["rays"] sFrame) (G_ray_to : Fn P w K mg base "ray_to" 2 ["plane"] sRayTo) (G_undone : Fn P w K mg base "undone" 2 ["table"] sUndone) (G_ray_from : Fn P w K mg base "ray_from" 1 ["plane"] sRayFr) : Fn P w K mg base "tables_by" 7 ["pairs"] sTabBy := by
  have sc := sc_tables_by
  refine fn_by d sc (fun ds M R Y h => by first | (obtain ⟨_, rfl, _⟩ := h; rfl) | (obtain ⟨_, _, rfl, _⟩ := h; rfl) | (obtain ⟨_, _, _, rfl, _⟩ := h; rfl) | (obtain ⟨_, _, _, _, rfl, _⟩ := h; rfl) | (obtain ⟨_, _, _, _, _, rfl, _⟩ := h; rfl) | (obtain ⟨_, _, _, _, _, _, rfl, _⟩ := h; rfl) | (obtain ⟨_, _, _, _, _, _, _, rfl, _⟩ := h; rfl) | (obtain ⟨_, _, _, _, _, _, _, _, rfl, _⟩ := h; rfl) | (obtain ⟨_, _, _, _, _, _, _, _, _, rfl, _⟩ := h; rfl) | (obtain ⟨_, _, _, _, _, _, _, _, _, _, rfl, _⟩ := h; rfl) | (obtain ⟨_, _, _, _, _, _, _, _, _, _, _, rfl, _⟩ := h; rfl) | (obtain ⟨_, _, _, _, _, _, _, _, _, _, _, _, rfl, _⟩ := h; rfl)) (fun f cdv A outer s H E ds M R Y hr h => ?_)
  have hu := hr.units
  obtain ⟨x, rfl, o1, z1, o2, z2, o3, z3, n1, n2, hsq, ⟨⟨a1, a2, a3⟩, ⟨b1, b2, b3⟩, ⟨k1, k2, k3⟩, hdet⟩, kn, ky⟩ := h
  refine ⟨_, (jds_cons (jds_set (i := 1) sc.nd rfl (Or.inl rfl) (jd_callF G_undone (hr.mono (by decide)) rfl (jda_cons (jd_callF G_frame (hr.mono (by decide)) rfl (jda_cons (jd_compV [] ["pair"] [] rfl (by decide +kernel) rfl (by decide +kernel) (by decide +kernel) rfl all0 all0 (jpd_seq (jd_var 0)) (fun _ _ _ _ _ _ => (jdg_name (i := 0) (show (["pair"] : List Str).Nodup by decide +kernel) rfl (Or.inl rfl))) (fun _ _ _ _ _ _ => jdifs_nil) (fun _ _ _ _ _ _ => (jd_callF G_ray_from (hr.mono (by decide)) rfl (jda_cons (jd_ix i_any (jd_var 0) jd_int (fun _ _ => rfl)) jda_nil)))) jda_nil)) jda_nil))) (jds_cons (jds_set (i := 2) sc.nd rfl (Or.inl rfl) (jd_callF G_behind (hr.mono (by decide)) rfl (jda_cons (jd_var 1) (jda_cons (jd_callF G_frame (hr.mono (by decide)) rfl (jda_cons (jd_compV [] ["pair"] [] rfl (by decide +kernel) rfl (by decide +kernel) (by decide +kernel) rfl all0 all0 (jpd_seq (jd_var 0)) (fun _ _ _ _ _ _ => (jdg_name (i := 0) (show (["pair"] : List Str).Nodup by decide +kernel) rfl (Or.inl rfl))) (fun _ _ _ _ _ _ => jdifs_nil) (fun _ _ _ _ _ _ => (jd_callF G_ray_to (hr.mono (by decide)) rfl (jda_cons (jd_ix i_any (jd_var 0) jd_int (fun _ _ => rfl)) jda_nil)))) jda_nil)) jda_nil)))) (jds_cons (jds_asg (jd_var 2) (jdg_tup (n := 4) rfl (jdgs_cons (jdg_name (i := 3) sc.nd rfl (Or.inl rfl)) (jdgs_cons (jdg_name (i := 4) sc.nd rfl (Or.inl rfl)) (jdgs_cons (jdg_name (i := 5) sc.nd rfl (Or.inl rfl)) (jdgs_cons (jdg_name (i := 6) sc.nd rfl (Or.inl rfl)) jdgs_nil)))))) (jds_cons (jds_set (i := 7) sc.nd rfl (Or.inr rfl) (jd_callF G_root (hr.mono (by decide)) rfl (jda_cons (jd_callF G_minus (hr.mono (by decide)) rfl (jda_cons (jd_callF G_times (hr.mono (by decide)) rfl (jda_cons (jd_var 3) (jda_cons (jd_var 6) jda_nil))) (jda_cons (jd_callF G_times (hr.mono (by decide)) rfl (jda_cons (jd_var 4) (jda_cons (jd_var 5) jda_nil))) jda_nil))) jda_nil))) (jds_cons (jds_if (jd_tcmp o_is (jd_var 7) jd_non (nomark _)) (jds_one (jds_ret jd_non)) jds_nil) (jds_consM (jds_if (jd_tval (jd_callF G_begins_below (hr.mono (by decide)) rfl (jda_cons (jd_var 2) jda_nil))) (jds_one (jds_set (i := 7) sc.nd rfl (Or.inr rfl) (jd_callF G_opposite (hr.mono (by decide)) rfl (jda_cons (jd_var 7) jda_nil)))) jds_nil) (jds_cons (jds_setCompV (i := 8) [7] ["entry"] ["share"] sc.nd rfl (Or.inl rfl) rfl (by decide +kernel) rfl (by decide +kernel) (by decide +kernel) rfl (all1 ⟨rfl, rfl⟩) (all1 (Or.inl rfl)) (jpd_seq (jd_var 2)) (fun _ _ _ _ _ _ => (jdg_name (i := 0) (show (["entry", "share"] : List Str).Nodup by decide +kernel) rfl (Or.inl rfl))) (fun _ _ _ _ _ _ => jdifs_nil) (fun _ _ _ _ _ _ => (jd_callF G_over (hr.mono (by decide)) rfl (jda_cons (jd_var 0) (jda_cons (jd_var 1) jda_nil))))) (jds_one (jds_ret (jd_tup (jda_cons (jd_blty c_tupL rfl T.b_tuple bt_tuple (jda_cons (jd_var 8) jda_nil)) (jda_cons (jd_blty c_tupL rfl T.b_tuple bt_tuple (jda_cons (jd_compV [] ["entry"] [] rfl (by decide +kernel) rfl (by decide +kernel) (by decide +kernel) rfl all0 all0 (jpd_seq (jd_var 8)) (fun _ _ _ _ _ _ => (jdg_name (i := 0) (show (["entry"] : List Str).Nodup by decide +kernel) rfl (Or.inl rfl))) (fun _ _ _ _ _ _ => jdifs_nil) (fun _ _ _ _ _ _ => (jd_callF G_opposite (hr.mono (by decide)) rfl (jda_cons (jd_var 0) jda_nil)))) jda_nil)) jda_nil)))))))))))), ?_⟩
  walk_at "sim"
  refine SeqK_of hsq ?_
  refine compV_map (xs := [(o1, z1), (o2, z2), (o3, z3)]) (enc := fun p => prO p.1 p.2) (fun p => rayD (rayF p.1).1 (rayF p.1).2) (by show 3 ≤ 1000; decide) hsq (fun p hp Q hQ => ?_) ?_
  · unfold prO
    walk_at "sim"
    exact ⟨p.1, rfl, hQ⟩
  have s1 := szv_ray k1 a1
  have s2 := szv_ray k1 a2
  have s3 := szv_ray k1 a3
  have t1 := szv_neg k2 b1
  have t2 := szv_neg k2 b2
  have t3 := szv_neg k2 b3
  have up : ∀ {k : Nat} {v : Q2}, SzV k v → k ≤ 160 → SzV 400 v := fun h hk => ⟨by have := h.1; omega, h.2⟩
  refine ⟨rayF o1, rayF o2, rayF o3, rfl, ⟨up s1 (by omega), up s2 (by omega), up s3 (by omega)⟩, SeqK_of hsq ?_⟩
  refine compV_map (xs := [(o1, z1), (o2, z2), (o3, z3)]) (enc := fun p => prO p.1 p.2) (fun p => rayD (rayF (negO p.2)).1 (rayF (negO p.2)).2) (by show 3 ≤ 1000; decide) hsq (fun p hp Q hQ => ?_) ?_
  · unfold prO
    walk_at "sim"
    exact ⟨p.2, rfl, hQ⟩
  refine ⟨rayF (negO z1), rayF (negO z2), rayF (negO z3), rfl, ⟨up t1 (by omega), up t2 (by omega), up t3 (by omega)⟩, ?_⟩
  have en := sz_en k1 k2 s1 s2 s3 t1 t2 t3
  obtain ⟨p1, p2, p3, p4⟩ := sz_fr k1 s1 s2 s3
  obtain ⟨q1, q2, q3, q4⟩ := sz_fr k2 t1 t2 t3
  have np2 : sz (-frB (rayF o1) (rayF o2) (rayF o3)) = sz (frB (rayF o1) (rayF o2) (rayF o3)) := RM.sz_neg _
  have np3 : sz (-frC (rayF o1) (rayF o2) (rayF o3)) = sz (frC (rayF o1) (rayF o2) (rayF o3)) := RM.sz_neg _
  unfold enO E4.det at kn
  unfold enO E4.det shQ tabE at ky
  unfold enO E4.det at hdet
  unfold enQ at en kn ky hdet
  simp only at en kn ky hdet
  refine ⟨⟨by omega, by omega, by omega, by omega⟩, ?_⟩
  clear p1 p2 p3 p4 q1 q2 q3 q4 np2 np3 s1 s2 s3 t1 t2 t3 up
  generalize frA (rayF (negO z1)) (rayF (negO z2)) (rayF (negO z3)) * frD (rayF o1) (rayF o2) (rayF o3) + frB (rayF (negO z1)) (rayF (negO z2)) (rayF (negO z3)) * -frC (rayF o1) (rayF o2) (rayF o3) = ea at *
  generalize frA (rayF (negO z1)) (rayF (negO z2)) (rayF (negO z3)) * -frB (rayF o1) (rayF o2) (rayF o3) + frB (rayF (negO z1)) (rayF (negO z2)) (rayF (negO z3)) * frA (rayF o1) (rayF o2) (rayF o3) = eb at *
  generalize frC (rayF (negO z1)) (rayF (negO z2)) (rayF (negO z3)) * frD (rayF o1) (rayF o2) (rayF o3) + frD (rayF (negO z1)) (rayF (negO z2)) (rayF (negO z3)) * -frC (rayF o1) (rayF o2) (rayF o3) = ec at *
  generalize frC (rayF (negO z1)) (rayF (negO z2)) (rayF (negO z3)) * -frB (rayF o1) (rayF o2) (rayF o3) + frD (rayF (negO z1)) (rayF (negO z2)) (rayF (negO z3)) * frA (rayF o1) (rayF o2) (rayF o3) = ed at *
  obtain ⟨e1, e2, e3, e4⟩ := en
  have m1 := RM.sz_mul ea ed
  have m2 := RM.sz_mul eb ec
  have m3 := RM.sz_sub (ea * ed) (eb * ec)
  refine ⟨by omega, by omega, by omega, by omega, fun v hv => ?_⟩
  have hab : ea ≠ 0 ∨ eb ≠ 0 := by
    by_cases h : ea = 0
    · right; intro z; rw [h, z] at hdet; grind
    · exact .inl h
  rcases hv with ⟨r, r0, hr, rfl⟩ | ⟨hno, rfl⟩
  · have rn : r ≠ 0 := fun z => hdet (by rw [← hr, z]; grind)
    have kk := ky r r0 hr
    have srz := sz_sqrt hr
    rw [z_Is rfl]
    walk_at "sim"
    refine JoinBy (fun e M' => M = M' ∧ ∃ z8 : Option D, e = [some x, some (tabD (frD (rayF o1) (rayF o2) (rayF o3)) (-frB (rayF o1) (rayF o2) (rayF o3)) (-frC (rayF o1) (rayF o2) (rayF o3)) (frA (rayF o1) (rayF o2) (rayF o3))), some (tabD ea eb ec ed), some (ratD ea), some (ratD eb), some (ratD ec), some (ratD ed), some (ratD (if ngF ea eb = true then -r else r)), z8]) ?_ ?_
    · walk_at "sim"
      refine ⟨hab, ⟨by omega, by omega, by omega, by omega⟩, fun h => ?_, fun h => ?_⟩
      · rw [if_pos h]; exact ⟨_, rfl⟩
      · rw [if_neg (by rw [h]; decide)]; exact ⟨_, rfl⟩
    · rintro e M' ⟨rfl, z8, rfl⟩
      have sn : (if ngF ea eb = true then -r else r) ≠ 0 := by split <;> grind
      have ss : sz (if ngF ea eb = true then -r else r) ≤ 4000 := by
        split
        · rw [RM.sz_neg]; omega
        · omega
      generalize (if ngF ea eb = true then -r else r) = g at *
      walk_at "sim"
      refine compV_map (xs := [ea, eb, ec, ed]) (enc := ratD) (fun q => ratD (q / g)) (by show 4 ≤ 1000; decide) (Or.inl rfl) (fun q hq Q hQ => ?_) ?_
      · have hz : sz q ≤ 4000 := by
          simp only [List.mem_cons, List.not_mem_nil, or_false] at hq
          rcases hq with rfl | rfl | rfl | rfl <;> omega
        walk_at "sim"
        exact ⟨sn, by omega, hQ⟩
      · walk_at "sim"
        refine compV_map (xs := [ea / g, eb / g, ec / g, ed / g]) (enc := ratD) (fun q => ratD (-q)) (by show 4 ≤ 1000; decide) (Or.inr (Or.inr rfl)) (fun q hq Q hQ => ?_) ?_
        · walk_at "sim"
          exact hQ
        · walk_at "sim"
          have en : ∀ q : Rat, -(q / g) = q / -g := fun q => by grind
          rw [en, en, en, en]
          exact kk
  · rw [z_Is rfl]
    walk_at "sim"
    exact kn hno
theorem ok__law_draw (T : Txt K mg) (d : Df K mg "_law_draw" s__law_draw ["pool", "base"]) : Fn P w K mg base "_law_draw" 1 ["pool", "base"] spNext := by
  have sc := sc__law_draw
  refine fn_by d sc (fun ds M R Y h => ?_) (fun f cdv A outer s H E ds M R Y hr h => ?_)
  · obtain ⟨p, b, rfl, _⟩ := h; rfl
  · obtain ⟨p, b, rfl, ⟨x, y, z, hM⟩, hb, hl, k⟩ := h
    refine ⟨_, (jds_cons (jds_if (jd_tcmp o_gt (jd_ix i_any (jd_var 0) jd_int (fun _ _ => rfl)) jd_int (nomark _)) (jds_cons (jds_set (i := 2) sc.nd rfl (Or.inl rfl) (jd_op o_mod (jd_ix i_any (jd_var 0) jd_int (fun _ _ => rfl)) (jd_var 1))) (jds_cons (jds_asg (jd_op o_fdiv (jd_ix i_any (jd_var 0) jd_int (fun _ _ => rfl)) (jd_var 1)) (jdg_sub (jd_var 0) jd_int)) (jds_one (jds_ret (jd_var 2))))) jds_nil) (jds_cons (jds_asg (jd_op o_add (jd_ix i_any (jd_var 0) jd_int (fun _ _ => rfl)) jd_int) (jdg_sub (jd_var 0) jd_int)) (jds_cons (jds_set (i := 3) sc.nd rfl (Or.inl rfl) (jd_op o_mod (jd_op o_add (jd_ix i_any (jd_var 0) jd_int (fun _ _ => rfl)) (jd_op o_mul jd_int (jd_ix i_any (jd_var 0) jd_int (fun _ _ => rfl)))) jd_int)) (jds_cons (jds_set (i := 3) sc.nd rfl (Or.inl rfl) (jd_op o_mod (jd_op o_mul (jd_op o_add (jd_var 3) jd_int) (jd_op o_add (jd_var 3) jd_int)) jd_int)) (jds_one (jds_ret (jd_op o_mod (jd_op o_fdiv (jd_op o_mod (jd_op o_mul (jd_var 3) (jd_var 3)) jd_int) jd_int) (jd_var 1)))))))), ?_⟩
    refine ⟨_, rfl, _, ixD_lst hM rfl, _, rfl, _, rfl, ?_⟩
    refine iteD (fun h0 => ?_) (fun h0 => ?_)
    · refine ⟨_, rfl, _, ixD_lst hM rfl, _, rfl, _, _, rfl, rfl, hb, ?_⟩
      refine ⟨_, rfl, _, ixD_lst hM rfl, _, rfl, _, _, rfl, rfl, ⟨by omega, hl⟩, _, rfl, _, _, _, _, rfl, rfl, hM, rfl, ?_⟩
      exact ⟨_, rfl, k _ _ (Int.emod_nonneg _ (by omega)) (Int.emod_lt_of_pos _ hb) (PStep.upd _ _ _)⟩
    · refine ⟨_, rfl, _, ixD_lst hM rfl, _, rfl, _, rfl, _, _, _, _, rfl, rfl, hM, rfl, ?_⟩
      refine ⟨_, rfl, _, ixD_lst updM_same rfl, _, rfl, _, ixD_lst updM_same rfl, _, _, rfl, rfl, m64l (by decide) (by decide), _, rfl, _, _, rfl, rfl, (by show (0 : Int) < 1000000007; decide), ?_⟩
      refine ⟨_, rfl, _, rfl, _, rfl, _, rfl, _, _, rfl, rfl, mmod (by decide) (by decide) (by decide) (by decide), _, _, rfl, rfl, (by show (0 : Int) < 998244353; decide), ?_⟩
      refine ⟨_, rfl, _, rfl, _, _, rfl, rfl, mmod0 (by decide) (by decide), _, _, rfl, rfl, (by show (0 : Int) < 2147483647; decide), _, _, rfl, rfl, cfd8, _, rfl, _, _, rfl, rfl, hb, ?_⟩
      exact k _ _ (Int.emod_nonneg _ (by omega)) (Int.emod_lt_of_pos _ hb) (PStep.upd _ _ _)
theorem ok__law_planes (T : Txt K mg) (d : Df K mg "_law_planes" s__law_planes ["pool"]) (G__law_draw : Fn P w K mg base "_law_draw" 1 ["pool", "base"] spNext) (G__law_minus : Fn P w K mg base "_law_minus" 3 ["one", "other"] spMinus) (G__law_ratio : Fn P w K mg base "_law_ratio" 1 ["top", "bottom"] spLow) (G__law_plus : Fn P w K mg base "_law_plus" 2 ["one", "other"] spPlus) : Fn P w K mg base "_law_planes" 4 ["pool"] sPlanes := by
  have sc := sc__law_planes
  refine fn_by d sc (fun ds M R Y h => by first | (obtain ⟨_, rfl, _⟩ := h; rfl) | (obtain ⟨_, _, rfl, _⟩ := h; rfl) | (obtain ⟨_, _, _, rfl, _⟩ := h; rfl) | (obtain ⟨_, _, _, _, rfl, _⟩ := h; rfl) | (obtain ⟨_, _, _, _, _, rfl, _⟩ := h; rfl) | (obtain ⟨_, _, _, _, _, _, rfl, _⟩ := h; rfl) | (obtain ⟨_, _, _, _, _, _, _, rfl, _⟩ := h; rfl) | (obtain ⟨_, _, _, _, _, _, _, _, rfl, _⟩ := h; rfl) | (obtain ⟨_, _, _, _, _, _, _, _, _, rfl, _⟩ := h; rfl) | (obtain ⟨_, _, _, _, _, _, _, _, _, _, rfl, _⟩ := h; rfl) | (obtain ⟨_, _, _, _, _, _, _, _, _, _, _, rfl, _⟩ := h; rfl) | (obtain ⟨_, _, _, _, _, _, _, _, _, _, _, _, rfl, _⟩ := h; rfl)) (fun f cdv A outer s H E ds M R Y hr h => ?_)
  have hu := hr.units
  obtain ⟨p, rfl, hp, k⟩ := h
  refine ⟨_, (jds_cons (jds_set (i := 1) sc.nd rfl (Or.inl rfl) (jd_lst (jda_cons (jd_callF G__law_ratio (hr.mono (by decide)) rfl (jda_cons (jd_op o_sub (jd_callF G__law_draw (hr.mono (by decide)) rfl (jda_cons (jd_var 0) (jda_cons jd_int jda_nil))) jd_int) (jda_cons (jd_op o_add jd_int (jd_callF G__law_draw (hr.mono (by decide)) rfl (jda_cons (jd_var 0) (jda_cons jd_int jda_nil)))) jda_nil))) jda_nil))) (jds_consM (jds_if (jd_tcmp o_eqI (jd_callF G__law_draw (hr.mono (by decide)) rfl (jda_cons (jd_var 0) (jda_cons jd_int jda_nil))) jd_int (nomark _)) (jds_one (jds_set (i := 1) sc.nd rfl (Or.inl rfl) (jd_lst (jda_cons (jd_callF G__law_ratio (hr.mono (by decide)) rfl (jda_cons (jd_op o_sub (jd_callF G__law_draw (hr.mono (by decide)) rfl (jda_cons (jd_var 0) (jda_cons (jd_op o_pow jd_int jd_int) jda_nil))) (jd_op o_pow jd_int jd_int)) (jda_cons (jd_op o_add jd_int (jd_callF G__law_draw (hr.mono (by decide)) rfl (jda_cons (jd_var 0) (jda_cons (jd_op o_pow jd_int jd_int) jda_nil)))) jda_nil))) jda_nil)))) jds_nil) (jds_cons (jds_expr (jd_lm PySem.F.slot_list_append PySem.F.type_list_append dm_append (jd_var 1) (jda_cons (jd_callF G__law_plus (hr.mono (by decide)) rfl (jda_cons (jd_ix i_any (jd_var 1) jd_int (fun _ _ => rfl)) (jda_cons (jd_callF G__law_ratio (hr.mono (by decide)) rfl (jda_cons (jd_op o_add jd_int (jd_callF G__law_draw (hr.mono (by decide)) rfl (jda_cons (jd_var 0) (jda_cons jd_int jda_nil)))) (jda_cons jd_int jda_nil))) jda_nil))) jda_nil))) (jds_cons (jds_expr (jd_lm PySem.F.slot_list_append PySem.F.type_list_append dm_append (jd_var 1) (jda_cons (jd_callF G__law_minus (hr.mono (by decide)) rfl (jda_cons (jd_ix i_any (jd_var 1) jd_int (fun _ _ => rfl)) (jda_cons (jd_callF G__law_ratio (hr.mono (by decide)) rfl (jda_cons (jd_op o_add jd_int (jd_callF G__law_draw (hr.mono (by decide)) rfl (jda_cons (jd_var 0) (jda_cons jd_int jda_nil)))) (jda_cons jd_int jda_nil))) jda_nil))) jda_nil))) (jds_consM (jds_if (jd_tcmp o_eqI (jd_callF G__law_draw (hr.mono (by decide)) rfl (jda_cons (jd_var 0) (jda_cons jd_int jda_nil))) jd_int (nomark _)) (jds_one (jds_asg jd_non (jdg_sub (jd_var 1) (jd_callF G__law_draw (hr.mono (by decide)) rfl (jda_cons (jd_var 0) (jda_cons jd_int jda_nil)))))) jds_nil) (jds_cons (jds_set (i := 2) sc.nd rfl (Or.inl rfl) (jd_callF G__law_draw (hr.mono (by decide)) rfl (jda_cons (jd_var 0) (jda_cons jd_int jda_nil)))) (jds_one (jds_ret (jd_fgt (jd_catV (jd_sliceV (jd_var 1) (jdpo_some (jd_var 2)) jdpo_none) (jd_sliceV (jd_var 1) jdpo_none (jdpo_some (jd_var 2))))))))))))), ?_⟩
  walk_at "sim"
  refine ⟨hp, by decide, fun r M3 r0 r1 s3 => ⟨s3.pool, by decide, fun t M4 t0 t1 s4 => ⟨by omega, Nat.lt_of_lt_of_le (log_lt (k := 3) (show (1 + t).natAbs < 8 by omega) (by decide)) (by decide), fun l hN => ?_⟩⟩⟩
  have hlp : l ≠ p := s4.pool.ne hN
  have s34 := s3.trans s4
  have hN0 : M l = none := by
    cases e : M l with
    | none => rfl
    | some o => rw [s34.keep l o hlp e] at hN; cases hN
  have hq0 : sz (Rat.divInt (r - 4) (1 + t)) ≤ 67 := low_sz (by decide) (by omega) (by omega) (by omega)
  refine JoinBy (fun e' M' => ∃ (l : Addr) (q : Rat), e' = [some (D.ref p), some (D.ref l), none] ∧ M' l = some (.lst [ratD q]) ∧ l ≠ p ∧ M l = none ∧ sz q ≤ 67 ∧ PStep p M M') ?_ ?_
  · have s5 := s34.put (o := .lst [ratD (Rat.divInt (r - 4) (1 + t))]) hN0 hlp
    walk_at "sim"
    have e20 : (10 : Int) ^ Int.toNat 20 = 100000000000000000000 := by decide
    have e19 : (10 : Int) ^ Int.toNat 19 = 10000000000000000000 := by decide
    rw [e20, e19]
    refine ⟨s5.pool, by decide, fun v M6 v0 v1 s6 => ⟨fun _ => ⟨cp20, s6.pool, by decide, by decide, fun x M7 x0 x1 s7 => ⟨cp19, cp20, s7.pool, by decide, by decide, fun y M8 y0 y1 s8 => ⟨by omega, Nat.lt_of_lt_of_le (log_lt (k := 67) (show (1 + y).natAbs < 147573952589676412928 by omega) (by decide)) (by decide), fun l2 hN2 => ?_⟩⟩⟩, fun _ => ⟨l, _, rfl, s6.keep l _ hlp updM_same, hlp, hN0, hq0, s5.trans s6⟩⟩⟩
    have st := ((s5.trans s6).trans s7).trans s8
    have hl2 : l2 ≠ p := st.pool.ne hN2
    have hN3 : M l2 = none := by
      cases e : M l2 with
      | none => rfl
      | some o => rw [st.keep l2 o hl2 e] at hN2; cases hN2
    exact ⟨l2, _, rfl, updM_same, hl2, hN3, low_sz (by decide) (show _ < 147573952589676412928 by omega) (show _ < 147573952589676412928 by omega) (by omega), st.put hN3 hl2⟩
  · clear hlp hq0 hN s3 s4 s34 r1 r0 t0 t1 hN0 r t l
    rintro e' M5 ⟨l, q, rfl, hM, hlp, hN0, hq, s5⟩
    walk_at "sim"
    refine LMK_of hM ⟨ratD q, ixD_lst hM rfl, s5.pool, by decide, fun r M6 r0 r1 s6 => ⟨by decide, by decide, ?_⟩⟩
    have zu : sz (Rat.divInt (1 + r) 3) ≤ 3 := low_sz (by decide) (by omega) (by decide) (by decide)
    have pu : 0 < Rat.divInt (1 + r) 3 := div_gt (by omega) (by decide)
    have za := RM.sz_add q (Rat.divInt (1 + r) 3)
    generalize Rat.divInt (1 + r) 3 = u at *
    have hM6 := s6.keep l _ hlp hM
    walk_at "sim"
    refine ⟨by omega, App_of hM6 (by show 1 < 1000; decide) (LMK_of updM_same ⟨ratD q, ixD_lst updM_same rfl, s6.pool.upd hlp, by decide, fun t M7 t0 t1 s7 => ⟨by decide, by decide, ?_⟩⟩)⟩
    have zv : sz (Rat.divInt (1 + t) 4) ≤ 3 := low_sz (by decide) (by omega) (by decide) (by decide)
    have pv : 0 < Rat.divInt (1 + t) 4 := div_gt (by omega) (by decide)
    have zb := RM.sz_sub q (Rat.divInt (1 + t) 4)
    generalize Rat.divInt (1 + t) 4 = v at *
    have hM7 := s7.keep l _ hlp updM_same
    walk_at "sim"
    refine ⟨by omega, App_of hM7 (by show 2 < 1000; decide) ?_⟩
    have pw := pl_three (q := q) (k := 71) pu pv (by omega) (by omega) (by omega)
    have s57 := (((s5.trans s6).put (o := .lst ([ratD q] ++ [ratD (q + u)])) hN0 hlp).trans s7).put (o := .lst ([ratD q] ++ [ratD (q + u)] ++ [ratD (q - v)])) hN0 hlp
    refine JoinBy (fun e' M' => ∃ ps : List (Option Rat), e' = [some (D.ref p), some (D.ref l), none] ∧ M' l = some (.lst (ps.map optD)) ∧ Pw3 71 ps ∧ PStep p M M') ?_ ?_
    · walk_at "sim"
      refine ⟨s57.pool, by decide, fun x M8 x0 x1 s8 => ⟨fun _ => ⟨s8.pool, by decide, fun y M9 y0 y1 s9 => ?_⟩, fun _ => ⟨_, s8.keep l _ hlp updM_same, pw, s57.trans s8⟩⟩⟩
      have hM9 := s9.keep l _ hlp (s8.keep l _ hlp updM_same)
      have pn := pl_none y0 y1 pw
      obtain ⟨j, rfl⟩ := Int.eq_ofNat_of_zero_le y0
      refine SetL_of hM9 (by show j < 3; omega) ⟨_, ?_, pn, ((s57.trans s8).trans s9).put hN0 hlp⟩
      rw [updM_same, List.map_set]; rfl
    · rintro e' M9 ⟨ps, rfl, hM9, hps, s9⟩
      walk_at "sim"
      refine ⟨s9.pool, by decide, fun v M10 v0 v1 s10 => ?_⟩
      obtain ⟨o1, o2, o3, hrot, hp3⟩ := pw_rot v0 v1 hps
      have hM10 := s10.keep l _ hlp hM9
      have hlen : (cutD (ps.map optD) (some v) none).length + (cutD (ps.map optD) none (some v)).length ≤ sizeLine := by
        rw [← List.length_append, hrot]; show 3 ≤ sizeLine; decide
      refine gSlR hM10 (gSlR hM10 ?_)
      rw [z_gCatVl]
      refine ⟨hlen, ?_⟩
      rw [hrot]
      exact Fgt_of (M2 := delM M10 l) (fun b o h => delM_some h) (k o1 o2 o3 _ hp3 ((s9.trans s10).del hN0 hlp))
theorem ok__law_pool (T : Txt K mg) (d : Df K mg "_law_pool" s__law_pool ["cell"]) : Fn P w K mg base "_law_pool" 1 ["cell"] spPool := by
  have sc := sc__law_pool
  refine fn_by d sc (fun ds M R Y h => ?_) (fun f cdv A outer s H E ds M R Y hr h => ?_)
  · obtain ⟨c, rfl, _⟩ := h; rfl
  · obtain ⟨c, rfl, k⟩ := h
    refine ⟨_, (jds_one (jds_ret (jd_lst (jda_cons (jd_blt (c_max rfl) rfl T.b_max bt_max (jda_cons jd_int (jda_cons (jd_op o_sub (jd_var 0) (jd_op o_pow jd_int jd_int)) jda_nil))) (jda_cons (jd_op o_mod (jd_var 0) (jd_op o_pow jd_int jd_int)) (jda_cons jd_int jda_nil)))))), ?_⟩
    refine ⟨_, rfl, _, _, rfl, rfl, cp18, _, rfl, _, _, rfl, _, rfl, _, _, rfl, rfl, cp18, _, _, rfl, rfl, (by show (0 : Int) < 10 ^ 18; decide), sl 3, fun p hp => ?_⟩
    exact k p _ hp (MK.new hp) ⟨_, _, _, updM_same⟩
theorem ok_law {f : Addr} {fd : FuncData} (T : Txt K mg) (d : FunD K "law" s_law f fd) (G__law_same : Fn P w K mg base "_law_same" 4 ["found", "due"] (sSame 3)) (G__law_right : Fn P w K mg base "_law_right" 4 ["table", "pairs"] sRight) (G__law_is_square : Fn P w K mg base "_law_is_square" 2 ["one"] sIsSq) (G__law_times : Fn P w K mg base "_law_times" 2 ["one", "other"] spTimes) (G__law_round : Fn P w K mg base "_law_round" 5 ["planes"] sRound) (G_tables_by : Fn P w K mg base "tables_by" 7 ["pairs"] sTabBy) (G__law_draw : Fn P w K mg base "_law_draw" 1 ["pool", "base"] spNext) (G__law_planes : Fn P w K mg base "_law_planes" 4 ["pool"] sPlanes) (G__law_pool : Fn P w K mg base "_law_pool" 1 ["cell"] spPool) : FnOk P w K mg base CX0 8 f fd ["script"] (upSp K spLaw) := by
  have sc := sc_law
  refine fn_ok d sc (fun ds M R Y h => by obtain ⟨n, rfl, _⟩ := h; rfl) (fun cdv A outer s H E ds M R Y hr h => ?_)
  obtain ⟨ns, rfl, hlen, k⟩ := h
  have hu := hr.units
  refine ⟨_, (jds_cons (jds_forI PassesOwn.never rfl (jpd_seq (jd_catV (jd_var 0) (jd_lstV (jda_cons jd_int (jda_cons jd_int (jda_cons jd_int (jda_cons jd_int jda_nil))))))) (jdg_name (i := 1) sc.nd rfl (Or.inl rfl)) (jds_cons (jds_set (i := 2) sc.nd rfl (Or.inl rfl) (jd_callF G__law_pool (hr.mono (by decide)) rfl (jda_cons (jd_var 1) jda_nil))) (jds_cons (jds_set (i := 3) sc.nd rfl (Or.inl rfl) (jd_callF G__law_planes (hr.mono (by decide)) rfl (jda_cons (jd_var 2) jda_nil))) (jds_cons (jds_set (i := 4) sc.nd rfl (Or.inl rfl) (jd_callF G__law_planes (hr.mono (by decide)) rfl (jda_cons (jd_var 2) jda_nil))) (jds_consM (jds_if (jd_tcmp o_eqI (jd_callF G__law_draw (hr.mono (by decide)) rfl (jda_cons (jd_var 2) (jda_cons jd_int jda_nil))) jd_int (nomark _)) (jds_one (jds_setCompV (i := 4) [] ["x"] [] sc.nd rfl (Or.inl rfl) rfl (by decide +kernel) rfl (by decide +kernel) (by decide +kernel) rfl all0 all0 (jpd_seq (jd_var 3)) (fun _ _ _ _ _ _ => (jdg_name (i := 0) (show (["x"] : List Str).Nodup by decide +kernel) rfl (Or.inl rfl))) (fun _ _ _ _ _ _ => jdifs_nil) (fun _ _ _ _ _ _ => (jd_ifExp (jd_tcmp o_is (jd_var 0) jd_non (nomark _)) jd_non (jd_callF G__law_times (hr.mono (by decide)) rfl (jda_cons (jd_var 0) (jda_cons (jd_tup (jda_cons (jd_neg jd_int) (jda_cons jd_int jda_nil))) jda_nil))))))) jds_nil) (jds_cons (jds_set (i := 5) sc.nd rfl (Or.inl rfl) (jd_listZip rfl rfl T.b_list bt_list rfl T.b_zip (jda_cons (jd_var 3) (jda_cons (jd_var 4) jda_nil)))) (jds_cons (jds_set (i := 6) sc.nd rfl (Or.inl rfl) (jd_callF G_tables_by (hr.mono (by decide)) rfl (jda_cons (jd_var 5) jda_nil))) (jds_cons (jds_if (jd_tcmp (o_neC hu) (jd_var 5) (jd_listZip rfl rfl T.b_list bt_list rfl T.b_zip (jda_cons (jd_var 3) (jda_cons (jd_var 4) jda_nil))) (nomark _)) (jds_one (jds_ret jd_bl)) jds_nil) (jds_cons (jds_set (i := 7) sc.nd rfl (Or.inl rfl) (jd_callF G__law_times (hr.mono (by decide)) rfl (jda_cons (jd_callF G__law_round (hr.mono (by decide)) rfl (jda_cons (jd_var 4) jda_nil)) (jda_cons (jd_callF G__law_times (hr.mono (by decide)) rfl (jda_cons (jd_callF G__law_round (hr.mono (by decide)) rfl (jda_cons (jd_var 3) jda_nil)) (jda_cons (jd_tup (jda_cons (jd_neg jd_int) (jda_cons jd_int jda_nil))) jda_nil))) jda_nil)))) (jds_cons (jds_if (jd_tcmp o_neB (jd_cmp o_isnot (jd_var 6) jd_non (nomark _)) (jd_callF G__law_is_square (hr.mono (by decide)) rfl (jda_cons (jd_var 7) jda_nil)) (nomark _)) (jds_one (jds_ret jd_bl)) jds_nil) (jds_one (jds_if (jd_tcmp o_isnot (jd_var 6) jd_non (nomark _)) (jds_cons (jds_if (jd_tw (jd_or (jd_not (jd_tval (jd_blt (c_isi T.sub) rfl T.b_isinstance bt_isinstance (jda_cons (jd_var 6) (jda_cons (jd_ty rfl T.b_tuple bt_tuple) jda_nil))))) (jd_or (jd_tcmp o_neI (jd_blt c_len rfl T.b_len bt_len (jda_cons (jd_var 6) jda_nil)) jd_int (nomark _)) (jd_or1 (jd_not (jd_tval (jd_callF G__law_right (hr.mono (by decide)) rfl (jda_cons (jd_ix i_any (jd_var 6) jd_int (fun _ _ => rfl)) (jda_cons (jd_var 5) jda_nil))))))))) (jds_one (jds_ret jd_bl)) jds_nil) (jds_cons (jds_if (jd_not (jd_tval (jd_callF G__law_same (hr.mono (by decide)) rfl (jda_cons (jd_ix i_any (jd_var 6) jd_int (fun _ _ => rfl)) (jda_cons (jd_blty c_tupL rfl T.b_tuple bt_tuple (jda_cons (jd_compV [] ["entry"] [] rfl (by decide +kernel) rfl (by decide +kernel) (by decide +kernel) rfl all0 all0 (jpd_seq (jd_ix i_any (jd_var 6) jd_int (fun _ _ => rfl))) (fun _ _ _ _ _ _ => (jdg_name (i := 0) (show (["entry"] : List Str).Nodup by decide +kernel) rfl (Or.inl rfl))) (fun _ _ _ _ _ _ => jdifs_nil) (fun _ _ _ _ _ _ => (jd_tup (jda_cons (jd_neg (jd_ix i_any (jd_var 0) jd_int (fun _ _ => rfl))) (jda_cons (jd_ix i_any (jd_var 0) jd_int (fun _ _ => rfl)) jda_nil))))) jda_nil)) jda_nil))))) (jds_one (jds_ret jd_bl)) jds_nil) (jds_one (jds_if (jd_tcmp o_lt (jd_ix i_any (jd_ix i_any (jd_compV [] ["entry"] [] rfl (by decide +kernel) rfl (by decide +kernel) (by decide +kernel) rfl all0 all0 (jpd_seq (jd_ix i_any (jd_var 6) jd_int (fun _ _ => rfl))) (fun _ _ _ _ _ _ => (jdg_name (i := 0) (show (["entry"] : List Str).Nodup by decide +kernel) rfl (Or.inl rfl))) (fun _ _ _ _ _ _ => (jdifs_one (jd_tcmp o_neI (jd_ix i_any (jd_var 0) jd_int (fun _ _ => rfl)) jd_int (nomark _)))) (fun _ _ _ _ _ _ => (jd_var 0))) jd_int (fun _ _ => rfl)) jd_int (fun _ _ => rfl)) jd_int (nomark _)) (jds_one (jds_ret jd_bl)) jds_nil)))) jds_nil)))))))))))) (jds_one (jds_ret jd_bl))), ?_⟩
  walk_at "sim"
  refine ⟨szS hlen 4, ?_⟩
  refine ForK.by (fun i e M' => ∃ x1 x2 x3 x4 x5 x6 x7 : Option D, e = [some (.vl (ns.map D.int)), x1, x2, x3, x4, x5, x6, x7]) ⟨_, _, _, _, _, _, _, rfl⟩ (fun i e M' _ _ => by simp only [seqD_vl]) ?_ ?_
  · rintro i dd e M' hd ⟨x1, x2, x3, x4, x5, x6, x7, rfl⟩
    obtain ⟨n, rfl⟩ := ints_item2 (ms := [0, 1, 2, 3]) hd
    walk_at "sim"
    refine fun p M1 hp mk hP => ⟨hP, fun o1 o2 o3 M2 ho s2 => ⟨s2.pool, fun w1 w2 w3 M3 hw s3 => ?_⟩⟩
    refine JoinBy (fun e' M' => ∃ z1 z2 z3 : Option Rat, e' = [some (D.vl (List.map D.int ns)), some (D.int n), some (D.ref p), some (D.vl [optD o1, optD o2, optD o3]), some (D.vl [optD z1, optD z2, optD z3]), x5, x6, x7] ∧ Pl3 75 z1 z2 z3) ?_ ?_
    · walk_at "sim"
      refine ⟨s3.pool, by decide, fun r M4 r0 r1 s4 => ⟨fun _ => ?_, fun _ => ⟨w1, w2, w3, rfl, hw.up⟩⟩⟩
      refine compV_map (xs := [o1, o2, o3]) (enc := optD) (fun o => optD (m49 o)) (by show 3 ≤ 1000; decide) (by simp only [seqD_vl]) (fun o hmo Q hQ => ?_) ?_
      · have hk : SzO 71 o := by
          simp only [List.mem_cons, List.not_mem_nil, or_false] at hmo
          rcases hmo with rfl | rfl | rfl
          · exact ho.1.1
          · exact ho.1.2.1
          · exact ho.1.2.2
        cases o with
        | none =>
          walk_at "sim"
          exact ⟨fun _ => hQ, fun h => (by cases h)⟩
        | some q =>
          have hz := hk q rfl
          have z4 := z49
          walk_at "sim"
          refine ⟨fun h => (by cases h), fun _ => ?_⟩
          rw [d49, show optD (some q) = ratD q from rfl]
          walk_at "sim"
          exact ⟨by omega, hQ⟩
      · exact ⟨_, _, _, rfl, ho.m49⟩
    · rintro e' M4 ⟨z1, z2, z3, rfl, hz⟩
      walk_at "sim"
      rw [z_ListZ]
      walk_at "sim"
      have cr1 := frDet_ne ho.2.1 ho.2.2.1 ho.2.2.2
      have cr2 := frDet_ne hz.2.1 hz.2.2.1 hz.2.2.2
      have er := en_rd o1 z1 o2 z2 o3 z3
      have dn : (enO o1 z1 o2 z2 o3 z3).det ≠ 0 := by
        rw [er, rd_fr, rd_fr]
        generalize frDet (rayF o1) (rayF o2) (rayF o3) = x at *
        generalize frDet (rayF z1) (rayF z2) (rayF z3) = y at *
        grind
      have sr1 := sz_rd (szv_ray (by decide) ho.1.1) (szv_ray (by decide) ho.1.2.1) (szv_ray (by decide) ho.1.2.2)
      have sr2 := sz_rd (szv_ray (by decide) hz.1.1) (szv_ray (by decide) hz.1.2.1) (szv_ray (by decide) hz.1.2.2)
      have sm := RM.sz_mul (rdQ (rayF o1) (rayF o2) (rayF o3)) (-1)
      have sm2 := RM.sz_mul (rdQ (rayF z1) (rayF z2) (rayF z3)) (rdQ (rayF o1) (rayF o2) (rayF o3) * -1)
      have s1 : sz (-1 : Rat) = 1 := by rw [RM.sz_neg]; exact RM.sz_one
      have ccl : cl 60 (D.vl [prO o1 z1, prO o2 z2, prO o3 z3]) = true := by
        show (cl 59 (prO o1 z1) && (cl 59 (prO o2 z2) && (cl 59 (prO o3 z3) && true))) = true
        rw [pr_cl, pr_cl, pr_cl]; rfl
      have ccl2 : (cl 59 (prO o1 z1) && (cl 59 (prO o2 z2) && cl 59 (prO o3 z3))) = true := by rw [pr_cl, pr_cl, pr_cl]; rfl
      have zz : zipD [optD o1, optD o2, optD o3] [optD z1, optD z2, optD z3] = [prO o1 z1, prO o2 z2, prO o3 z3] := rfl
      refine gLz_of rfl (by show 3 ≤ 1000; decide) ?_
      rw [zz]
      refine ⟨o1, z1, o2, z2, o3, z3, 71, 75, by simp only [seqD_vl], ⟨ho.1, hz.1, by decide, dn⟩, fun hno => ?_, fun r r0 hr => ?_⟩
      · rw [z_ListZ]
        walk_at "sim"
        refine gLz_of rfl (by show 3 ≤ 1000; decide) ?_
        rw [zz]
        refine ⟨by first | exact ccl2 | exact ccl, by first | exact ccl2 | exact ccl, fun h => absurd rfl h, fun _ => ⟨z1, z2, z3, rfl, ⟨hz.1.1.up (by decide), hz.1.2.1.up (by decide), hz.1.2.2.up (by decide)⟩, o1, o2, o3, rfl, ⟨ho.1.1.up (by decide), ho.1.2.1.up (by decide), ho.1.2.2.up (by decide)⟩, by omega, by omega, ?_⟩⟩
        rw [z_Is rfl]
        walk_at "sim"
        refine ⟨by omega, fun ⟨r, hr⟩ => absurd (hr.trans er.symm) (hno r), fun _ => ?_⟩
        rw [z_Is rfl]
        walk_at "sim"
        exact ⟨_, _, _, _, _, _, _, rfl⟩
      · rw [z_ListZ]
        walk_at "sim"
        refine gLz_of rfl (by show 3 ≤ 1000; decide) ?_
        rw [zz]
        refine ⟨by first | exact ccl2 | exact ccl, by first | exact ccl2 | exact ccl, fun h => absurd rfl h, fun _ => ⟨z1, z2, z3, rfl, ⟨hz.1.1.up (by decide), hz.1.2.1.up (by decide), hz.1.2.2.up (by decide)⟩, o1, o2, o3, rfl, ⟨ho.1.1.up (by decide), ho.1.2.1.up (by decide), ho.1.2.2.up (by decide)⟩, by omega, by omega, ?_⟩⟩
        rw [z_Is rfl]
        walk_at "sim"
        refine ⟨by omega, fun _ => ?_, fun h => absurd (hr.trans er) (h r)⟩
        rw [z_Is rfl]
        obtain ⟨sn, ssz, hd1, hng, hab⟩ := en_ok hr dn rfl r0
        have srz := sz_sqrt hr
        rw [er] at srz
        obtain ⟨q1, q2, q3, q4⟩ : sz (enO o1 z1 o2 z2 o3 z3).a ≤ 6 * (71 + 75) + 13 ∧ sz (enO o1 z1 o2 z2 o3 z3).b ≤ 6 * (71 + 75) + 13 ∧ sz (enO o1 z1 o2 z2 o3 z3).c ≤ 6 * (71 + 75) + 13 ∧ sz (enO o1 z1 o2 z2 o3 z3).d ≤ 6 * (71 + 75) + 13 := sz_en (by decide) (by decide) (szv_ray (by decide) ho.1.1) (szv_ray (by decide) ho.1.2.1) (szv_ray (by decide) ho.1.2.2) (szv_neg (by decide) hz.1.1) (szv_neg (by decide) hz.1.2.1) (szv_neg (by decide) hz.1.2.2)
        have dv := fun x => RM.sz_div x (shQ (enO o1 z1 o2 z2 o3 z3) r) sn
        have d1 := dv (enO o1 z1 o2 z2 o3 z3).a
        have d2 := dv (enO o1 z1 o2 z2 o3 z3).b
        have d3 := dv (enO o1 z1 o2 z2 o3 z3).c
        have d4 := dv (enO o1 z1 o2 z2 o3 z3).d
        have y1 : ldO ((enO o1 z1 o2 z2 o3 z3).a / shQ (enO o1 z1 o2 z2 o3 z3) r) ((enO o1 z1 o2 z2 o3 z3).b / shQ (enO o1 z1 o2 z2 o3 z3) r) ((enO o1 z1 o2 z2 o3 z3).c / shQ (enO o1 z1 o2 z2 o3 z3) r) ((enO o1 z1 o2 z2 o3 z3).d / shQ (enO o1 z1 o2 z2 o3 z3) r) o1 z1 := ld_of (en_ray1 _ _ _ _ _ _)
        have y2 : ldO ((enO o1 z1 o2 z2 o3 z3).a / shQ (enO o1 z1 o2 z2 o3 z3) r) ((enO o1 z1 o2 z2 o3 z3).b / shQ (enO o1 z1 o2 z2 o3 z3) r) ((enO o1 z1 o2 z2 o3 z3).c / shQ (enO o1 z1 o2 z2 o3 z3) r) ((enO o1 z1 o2 z2 o3 z3).d / shQ (enO o1 z1 o2 z2 o3 z3) r) o2 z2 := ld_of (en_ray2 _ _ _ _ _ _)
        have y3 : ldO ((enO o1 z1 o2 z2 o3 z3).a / shQ (enO o1 z1 o2 z2 o3 z3) r) ((enO o1 z1 o2 z2 o3 z3).b / shQ (enO o1 z1 o2 z2 o3 z3) r) ((enO o1 z1 o2 z2 o3 z3).c / shQ (enO o1 z1 o2 z2 o3 z3) r) ((enO o1 z1 o2 z2 o3 z3).d / shQ (enO o1 z1 o2 z2 o3 z3) r) o3 z3 := ld_of (en_ray3 _ _ _ _ _ _)
        have en : ∀ q g : Rat, q / -g = -(q / g) := fun q g => by grind
        rw [show tabE (enO o1 z1 o2 z2 o3 z3) (-shQ (enO o1 z1 o2 z2 o3 z3) r) = tabD (-((enO o1 z1 o2 z2 o3 z3).a / shQ (enO o1 z1 o2 z2 o3 z3) r)) (-((enO o1 z1 o2 z2 o3 z3).b / shQ (enO o1 z1 o2 z2 o3 z3) r)) (-((enO o1 z1 o2 z2 o3 z3).c / shQ (enO o1 z1 o2 z2 o3 z3) r)) (-((enO o1 z1 o2 z2 o3 z3).d / shQ (enO o1 z1 o2 z2 o3 z3) r)) by unfold tabE; rw [en, en, en, en]]
        rw [show tabE (enO o1 z1 o2 z2 o3 z3) (shQ (enO o1 z1 o2 z2 o3 z3) r) = tabD ((enO o1 z1 o2 z2 o3 z3).a / shQ (enO o1 z1 o2 z2 o3 z3) r) ((enO o1 z1 o2 z2 o3 z3).b / shQ (enO o1 z1 o2 z2 o3 z3) r) ((enO o1 z1 o2 z2 o3 z3).c / shQ (enO o1 z1 o2 z2 o3 z3) r) ((enO o1 z1 o2 z2 o3 z3).d / shQ (enO o1 z1 o2 z2 o3 z3) r) from rfl]
        have g1 : sz ((enO o1 z1 o2 z2 o3 z3).a / shQ (enO o1 z1 o2 z2 o3 z3) r) ≤ 2000 := by omega
        have g2 : sz ((enO o1 z1 o2 z2 o3 z3).b / shQ (enO o1 z1 o2 z2 o3 z3) r) ≤ 2000 := by omega
        have g3 : sz ((enO o1 z1 o2 z2 o3 z3).c / shQ (enO o1 z1 o2 z2 o3 z3) r) ≤ 2000 := by omega
        have g4 : sz ((enO o1 z1 o2 z2 o3 z3).d / shQ (enO o1 z1 o2 z2 o3 z3) r) ≤ 2000 := by omega
        clear d1 d2 d3 d4 dv q1 q2 q3 q4 srz
        generalize (enO o1 z1 o2 z2 o3 z3).a / shQ (enO o1 z1 o2 z2 o3 z3) r = a at *
        generalize (enO o1 z1 o2 z2 o3 z3).b / shQ (enO o1 z1 o2 z2 o3 z3) r = b at *
        generalize (enO o1 z1 o2 z2 o3 z3).c / shQ (enO o1 z1 o2 z2 o3 z3) r = c at *
        generalize (enO o1 z1 o2 z2 o3 z3).d / shQ (enO o1 z1 o2 z2 o3 z3) r = d at *
        walk_at "sim"
        refine ⟨fun h => absurd rfl h, fun _ => ⟨o1, z1, o2, z2, o3, z3, rfl, ⟨⟨ho.1.1.up (by decide), ho.1.2.1.up (by decide), ho.1.2.2.up (by decide)⟩, hz.1.1.up (by decide), hz.1.2.1.up (by decide), hz.1.2.2.up (by decide)⟩, ⟨g1, g2, g3, g4⟩, ⟨hd1, y1, y2, y3⟩, ?_⟩⟩
        refine compV_map (xs := [a, b, c, d]) (enc := ratD) (fun q => ratD (-q)) (by show 4 ≤ 1000; decide) (Or.inl rfl) (fun q hq Q hQ => ?_) ?_
        · walk_at "sim"
          exact hQ
        walk_at "sim"
        refine ⟨rfl, ?_⟩
        refine compV_filter (xs := [a, b, c, d]) (enc := ratD) (fun q => decide (q ≠ 0)) ratD (by show 4 ≤ 1000; decide) (Or.inl rfl) (fun q hq Q N h1 h2 => ?_) ?_
        · walk_at "sim"
          exact ⟨fun hq => h1 (by simpa using fun z => hq (Rat.num_eq_zero.mpr z)), fun hq => h2 (by simpa using Rat.num_eq_zero.mp hq)⟩
        · have hk : ∀ x : Rat, ((x.num < 0) = (x < 0)) := fun x => propext num_neg'
          unfold ngF at hng
          have hng := of_decide_eq_false hng
          by_cases h0 : a = 0
          · have hb : b ≠ 0 := hab.resolve_left fun z => z h0
            rw [if_pos h0] at hng
            rw [List.filter_cons_of_neg (by simpa using h0), List.filter_cons_of_pos (by simpa using hb), List.map_cons]
            walk_at "sim"
            simp only [hk]
            exact ⟨fun z => absurd z hng, fun _ => ⟨_, _, _, _, _, _, _, rfl⟩⟩
          · rw [if_neg h0] at hng
            rw [List.filter_cons_of_pos (by simpa using h0), List.map_cons]
            walk_at "sim"
            simp only [hk]
            exact ⟨fun z => absurd z hng, fun _ => ⟨_, _, _, _, _, _, _, rfl⟩⟩
  · rintro e M' ⟨x1, x2, x3, x4, x5, x6, x7, rfl⟩
    walk_at "sim"
    exact k _
end
end K20
namespace K20
open PySem PySem.Spec L2 DL GM
theorem all_ok {P : Program} {w : World} {K : PySem.W.Frag} {mg : Str → Option Value} {fa : Addr} (T : Txt K mg) (hfa : mg "law" = some (.ref fa)) (D__law_same : Df K mg "_law_same" s__law_same ["found", "due"]) (D__law_ratio : Df K mg "_law_ratio" s__law_ratio ["top", "bottom"]) (D__law_plus : Df K mg "_law_plus" s__law_plus ["one", "other"]) (D__law_times : Df K mg "_law_times" s__law_times ["one", "other"]) (D__law_point : Df K mg "_law_point" s__law_point ["plane"]) (D__law_minus : Df K mg "_law_minus" s__law_minus ["one", "other"]) (D__law_right : Df K mg "_law_right" s__law_right ["table", "pairs"]) (D__law_root : Df K mg "_law_root" s__law_root ["number"]) (D__law_is_square : Df K mg "_law_is_square" s__law_is_square ["one"]) (D__law_cross : Df K mg "_law_cross" s__law_cross ["one", "other"]) (D__law_round : Df K mg "_law_round" s__law_round ["planes"]) (D_opposite : Df K mg "opposite" s_opposite ["one"]) (D_divisor : Df K mg "divisor" s_divisor ["one", "other"]) (D_is_whole : Df K mg "is_whole" s_is_whole ["thing"]) (D_ratio : Df K mg "ratio" s_ratio ["top", "bottom"]) (D_over : Df K mg "over" s_over ["one", "other"]) (D_less : Df K mg "less" s_less ["one", "other"]) (D_begins_below : Df K mg "begins_below" s_begins_below ["entries"]) (D_floor_root : Df K mg "floor_root" s_floor_root ["number"]) (D_root : Df K mg "root" s_root ["one"]) (D_plus : Df K mg "plus" s_plus ["one", "other"]) (D_minus : Df K mg "minus" s_minus ["one", "other"]) (D_times : Df K mg "times" s_times ["one", "other"]) (D_by_columns : Df K mg "by_columns" s_by_columns ["first", "second"]) (D_led : Df K mg "led" s_led ["table", "ray"]) (D_behind : Df K mg "behind" s_behind ["one", "other"]) (D_grown : Df K mg "grown" s_grown ["ray", "share"]) (D_cross : Df K mg "cross" s_cross ["one", "other"]) (D_frame : Df K mg "frame" s_frame ["rays"]) (D_ray_from : Df K mg "ray_from" s_ray_from ["plane"]) (D_ray_to : Df K mg "ray_to" s_ray_to ["plane"]) (D_undone : Df K mg "undone" s_undone ["table"]) (D_tables_by : Df K mg "tables_by" s_tables_by ["pairs"]) (D__law_draw : Df K mg "_law_draw" s__law_draw ["pool", "base"]) (D__law_planes : Df K mg "_law_planes" s__law_planes ["pool"]) (D__law_pool : Df K mg "_law_pool" s__law_pool ["cell"]) (D_law : DfL K mg "law" s_law ["script"]) :
    ∃ fd : FuncData, (∀ (s : Shared) (u : Value), BindsTo s fd ⟨[u], []⟩ [("script", u)]) ∧ ∀ base : Heap, FnOk P w K mg base CX0 8 fa fd ["script"] (upSp K spLaw) := by
  obtain ⟨f, fd, F, hm, hb⟩ := D_law.ex
  have e : f = fa := by rw [hm] at hfa; injection hfa with z; injection z
  subst e
  refine ⟨fd, fun s u => .of_eq (hb [u] rfl), fun base => ?_⟩
  have G__law_same := ok__law_same (P := P) (w := w) (base := base) T D__law_same 
  have G__law_ratio := ok__law_ratio (P := P) (w := w) (base := base) T D__law_ratio 
  have G__law_plus := ok__law_plus (P := P) (w := w) (base := base) T D__law_plus G__law_ratio
  have G__law_times := ok__law_times (P := P) (w := w) (base := base) T D__law_times G__law_ratio
  have G__law_point := ok__law_point (P := P) (w := w) (base := base) T D__law_point 
  have G__law_minus := ok__law_minus (P := P) (w := w) (base := base) T D__law_minus G__law_plus
  have G__law_right := ok__law_right (P := P) (w := w) (base := base) T D__law_right G__law_plus G__law_times G__law_point G__law_minus
  have G__law_root := ok__law_root (P := P) (w := w) (base := base) T D__law_root 
  have G__law_is_square := ok__law_is_square (P := P) (w := w) (base := base) T D__law_is_square G__law_root
  have G__law_cross := ok__law_cross (P := P) (w := w) (base := base) T D__law_cross G__law_minus G__law_times G__law_point
  have G__law_round := ok__law_round (P := P) (w := w) (base := base) T D__law_round G__law_times G__law_cross
  have G_opposite := ok_opposite (P := P) (w := w) (base := base) T D_opposite 
  have G_divisor := ok_divisor (P := P) (w := w) (base := base) T D_divisor 
  have G_is_whole := ok_is_whole (P := P) (w := w) (base := base) T D_is_whole 
  have G_ratio := ok_ratio (P := P) (w := w) (base := base) T D_ratio G_is_whole G_divisor
  have G_over := ok_over (P := P) (w := w) (base := base) T D_over G_ratio
  have G_less := ok_less (P := P) (w := w) (base := base) T D_less 
  have G_begins_below := ok_begins_below (P := P) (w := w) (base := base) T D_begins_below G_less
  have G_floor_root := ok_floor_root (P := P) (w := w) (base := base) T D_floor_root 
  have G_root := ok_root (P := P) (w := w) (base := base) T D_root G_floor_root
  have G_plus := ok_plus (P := P) (w := w) (base := base) T D_plus G_ratio
  have G_minus := ok_minus (P := P) (w := w) (base := base) T D_minus G_plus G_opposite
  have G_times := ok_times (P := P) (w := w) (base := base) T D_times G_ratio
  have G_by_columns := ok_by_columns (P := P) (w := w) (base := base) T D_by_columns 
  have G_led := ok_led (P := P) (w := w) (base := base) T D_led G_plus G_times
  have G_behind := ok_behind (P := P) (w := w) (base := base) T D_behind G_by_columns G_led
  have G_grown := ok_grown (P := P) (w := w) (base := base) T D_grown G_times
  have G_cross := ok_cross (P := P) (w := w) (base := base) T D_cross G_minus G_times
  have G_frame := ok_frame (P := P) (w := w) (base := base) T D_frame G_by_columns G_grown G_cross
  have G_ray_from := ok_ray_from (P := P) (w := w) (base := base) T D_ray_from 
  have G_ray_to := ok_ray_to (P := P) (w := w) (base := base) T D_ray_to G_ray_from G_opposite
  have G_undone := ok_undone (P := P) (w := w) (base := base) T D_undone G_opposite
  have G_tables_by := ok_tables_by (P := P) (w := w) (base := base) T D_tables_by G_opposite G_over G_begins_below G_root G_minus G_times G_behind G_frame G_ray_to G_undone G_ray_from
  have G__law_draw := ok__law_draw (P := P) (w := w) (base := base) T D__law_draw 
  have G__law_planes := ok__law_planes (P := P) (w := w) (base := base) T D__law_planes G__law_draw G__law_minus G__law_ratio G__law_plus
  have G__law_pool := ok__law_pool (P := P) (w := w) (base := base) T D__law_pool 
  exact ok_law T F G__law_same G__law_right G__law_is_square G__law_times G__law_round G_tables_by G__law_draw G__law_planes G__law_pool
theorem walk {l : PySem.W.OpenLaw} {q : Program} {loose : List Str} {XP : (Str → Option Value) → Heap → Prop} {YP : World → Heap → Prop} {d : DefRec} {K : Params → PySem.W.Frag} (hn : l.most = some 63) (hdf : d.params.defaults = [])
    (hY : ∀ (w : World) (h : Heap), YP w h → (K w.params).In h)
    (F : ∀ (w : World) (mg : Str → Option Value) (fa : Addr) (h : Heap), (K w.params).In h → h.Ns mainGlobals mg → mg d.name = some (.ref fa) →
      ∃ fd : FuncData, (∀ (s : Shared) (u : Value), BindsTo s fd ⟨[u], []⟩ [("script", u)]) ∧ ∀ base : Heap, FnOk l.prog w (K w.params) mg base CX0 8 fa fd ["script"] (upSp (K w.params) spLaw)) :
    PySem.W.WalkO q loose XP YP l.row.toRowW d [] (fun f vs => PySem.call f vs) :=
  L2.walk_ofK (n := 63) (k := 8) (x := "script") (CX := CX0) (sp := fun K => upSp K spLaw) hn (by decide) hdf ⟨rfl, by decide, by decide⟩ hY (fun w mg fa h a b c => let ⟨fd, h1, h2⟩ := F w mg fa h a b c; ⟨fd, h1, fun base _ _ => h2 base⟩)
    (fun K H a ns hl hO hS => law_sp hO hS ⟨ns, rfl, hl, fun _ => rfl⟩) fun _ _ _ _ z => z
end K20
theorem PySem.W.Fast.te2534412504891158359 : True := trivial
theorem PySem.W.Fast.tw16622633115046830691 : True := trivial
theorem PySem.W.Fast.tw4385405368073993549 : True := trivial
theorem PySem.W.Fast.tw5233072993302749784 : True := trivial
theorem PySem.W.Fast.tw7569359176281802617 : True := trivial
theorem PySem.W.Fast.tw621186472513178908 : True := trivial
theorem PySem.W.Fast.tw11000526181066080733 : True := trivial
theorem PySem.W.Fast.tw8147769719860003293 : True := trivial
theorem PySem.W.Fast.tw9569479928422138015 : True := trivial
open PySem PySem.W PyProof.Rows
set_option maxRecDepth 100000 in
set_option maxHeartbeats 0 in
theorem PySem.Challenge.cw_roundglass_k20_whole_tables_of_any_pairs_holds : PySem.Challenge.rw_roundglass_k20_whole_tables_of_any_pairs.Holds := by
  w_on; o_law; k_head; (case hw => w_witness2)
  k_fill
  refine K20.walk (l := PySem.Challenge.rw_roundglass_k20_whole_tables_of_any_pairs) rfl rfl (fun w h Y => PySem.W.kIn_of Y) ?F
  case F =>
    intro w mg fa h KX G hmg
    refine' K20.all_ok ⟨PySem.W.mg_none_of KX G ?z_abs, PySem.W.mg_none_of KX G ?z_all, PySem.W.mg_none_of KX G ?z_bool, PySem.W.mg_none_of KX G ?z_int, PySem.W.mg_none_of KX G ?z_isinstance, PySem.W.mg_none_of KX G ?z_len, PySem.W.mg_none_of KX G ?z_list, PySem.W.mg_none_of KX G ?z_max, PySem.W.mg_none_of KX G ?z_range, PySem.W.mg_none_of KX G ?z_tuple, PySem.W.mg_none_of KX G ?z_zip, DL.subOk _, DL.gl_ray KX G ?c0_LEVEL_RAY ?c1_LEVEL_RAY ?c2_LEVEL_RAY ?c3_LEVEL_RAY, DL.gl_pair KX G ?c0_NOUGHT ?c1_NOUGHT, DL.gl_pair KX G ?c0_ONE ?c1_ONE⟩ hmg (DL.df_mk KX G ?n0 ?l0 ?c0 ?k0 ?b0) (DL.df_mk KX G ?n1 ?l1 ?c1 ?k1 ?b1) (DL.df_mk KX G ?n2 ?l2 ?c2 ?k2 ?b2) (DL.df_mk KX G ?n3 ?l3 ?c3 ?k3 ?b3) (DL.df_mk KX G ?n4 ?l4 ?c4 ?k4 ?b4) (DL.df_mk KX G ?n5 ?l5 ?c5 ?k5 ?b5) (DL.df_mk KX G ?n6 ?l6 ?c6 ?k6 ?b6) (DL.df_mk KX G ?n7 ?l7 ?c7 ?k7 ?b7) (DL.df_mk KX G ?n8 ?l8 ?c8 ?k8 ?b8) (DL.df_mk KX G ?n9 ?l9 ?c9 ?k9 ?b9) (DL.df_mk KX G ?n10 ?l10 ?c10 ?k10 ?b10) (DL.df_mk KX G ?n11 ?l11 ?c11 ?k11 ?b11) (DL.df_mk KX G ?n12 ?l12 ?c12 ?k12 ?b12) (DL.df_mk KX G ?n13 ?l13 ?c13 ?k13 ?b13) (DL.dfd_mk KX G ?n14 ?l14 ?c14 ?k14 ?b14) (DL.df_mk KX G ?n15 ?l15 ?c15 ?k15 ?b15) (DL.df_mk KX G ?n16 ?l16 ?c16 ?k16 ?b16) (DL.df_mk KX G ?n17 ?l17 ?c17 ?k17 ?b17) (DL.df_mk KX G ?n18 ?l18 ?c18 ?k18 ?b18) (DL.df_mk KX G ?n19 ?l19 ?c19 ?k19 ?b19) (DL.df_mk KX G ?n20 ?l20 ?c20 ?k20 ?b20) (DL.df_mk KX G ?n21 ?l21 ?c21 ?k21 ?b21) (DL.df_mk KX G ?n22 ?l22 ?c22 ?k22 ?b22) (DL.df_mk KX G ?n23 ?l23 ?c23 ?k23 ?b23) (DL.df_mk KX G ?n24 ?l24 ?c24 ?k24 ?b24) (DL.df_mk KX G ?n25 ?l25 ?c25 ?k25 ?b25) (DL.df_mk KX G ?n26 ?l26 ?c26 ?k26 ?b26) (DL.df_mk KX G ?n27 ?l27 ?c27 ?k27 ?b27) (DL.df_mk KX G ?n28 ?l28 ?c28 ?k28 ?b28) (DL.df_mk KX G ?n29 ?l29 ?c29 ?k29 ?b29) (DL.df_mk KX G ?n30 ?l30 ?c30 ?k30 ?b30) (DL.df_mk KX G ?n31 ?l31 ?c31 ?k31 ?b31) (DL.df_mk KX G ?n32 ?l32 ?c32 ?k32 ?b32) (DL.df_mk KX G ?n33 ?l33 ?c33 ?k33 ?b33) (DL.df_mk KX G ?n34 ?l34 ?c34 ?k34 ?b34) (DL.df_mk KX G ?n35 ?l35 ?c35 ?k35 ?b35) (DL.dfl_mk KX G ?n36 ?l36 ?c36 ?k36 ?b36)
    (case n0 => k_is); (case l0 => k_is); (case c0 => k_is); (case k0 => k_is); (case b0 => (intro us hl; exact match us, hl with | [_, _], _ => rfl))
    (case n1 => k_is); (case l1 => k_is); (case c1 => k_is); (case k1 => k_is); (case b1 => (intro us hl; exact match us, hl with | [_, _], _ => rfl))
    (case n2 => k_is); (case l2 => k_is); (case c2 => k_is); (case k2 => k_is); (case b2 => (intro us hl; exact match us, hl with | [_, _], _ => rfl))
    (case n3 => k_is); (case l3 => k_is); (case c3 => k_is); (case k3 => k_is); (case b3 => (intro us hl; exact match us, hl with | [_, _], _ => rfl))
    (case n4 => k_is); (case l4 => k_is); (case c4 => k_is); (case k4 => k_is); (case b4 => (intro us hl; exact match us, hl with | [_], _ => rfl))
    (case n5 => k_is); (case l5 => k_is); (case c5 => k_is); (case k5 => k_is); (case b5 => (intro us hl; exact match us, hl with | [_, _], _ => rfl))
    (case n6 => k_is); (case l6 => k_is); (case c6 => k_is); (case k6 => k_is); (case b6 => (intro us hl; exact match us, hl with | [_, _], _ => rfl))
    (case n7 => k_is); (case l7 => k_is); (case c7 => k_is); (case k7 => k_is); (case b7 => (intro us hl; exact match us, hl with | [_], _ => rfl))
    (case n8 => k_is); (case l8 => k_is); (case c8 => k_is); (case k8 => k_is); (case b8 => (intro us hl; exact match us, hl with | [_], _ => rfl))
    (case n9 => k_is); (case l9 => k_is); (case c9 => k_is); (case k9 => k_is); (case b9 => (intro us hl; exact match us, hl with | [_, _], _ => rfl))
    (case n10 => k_is); (case l10 => k_is); (case c10 => k_is); (case k10 => k_is); (case b10 => (intro us hl; exact match us, hl with | [_], _ => rfl))
    (case n11 => k_is); (case l11 => k_is); (case c11 => k_is); (case k11 => k_is); (case b11 => (intro us hl; exact match us, hl with | [_], _ => rfl))
    (case n12 => k_is); (case l12 => k_is); (case c12 => k_is); (case k12 => k_is); (case b12 => (intro us hl; exact match us, hl with | [_, _], _ => rfl))
    (case n13 => k_is); (case l13 => k_is); (case c13 => k_is); (case k13 => k_is); (case b13 => (intro us hl; exact match us, hl with | [_], _ => rfl))
    (case n14 => k_is); (case l14 => k_is); (case c14 => k_is); (case k14 => k_is); (case b14 => (intro us hl S; exact match us, hl with | [_, _], _ => rfl))
    (case n15 => k_is); (case l15 => k_is); (case c15 => k_is); (case k15 => k_is); (case b15 => (intro us hl; exact match us, hl with | [_, _], _ => rfl))
    (case n16 => k_is); (case l16 => k_is); (case c16 => k_is); (case k16 => k_is); (case b16 => (intro us hl; exact match us, hl with | [_, _], _ => rfl))
    (case n17 => k_is); (case l17 => k_is); (case c17 => k_is); (case k17 => k_is); (case b17 => (intro us hl; exact match us, hl with | [_], _ => rfl))
    (case n18 => k_is); (case l18 => k_is); (case c18 => k_is); (case k18 => k_is); (case b18 => (intro us hl; exact match us, hl with | [_], _ => rfl))
    (case n19 => k_is); (case l19 => k_is); (case c19 => k_is); (case k19 => k_is); (case b19 => (intro us hl; exact match us, hl with | [_], _ => rfl))
    (case n20 => k_is); (case l20 => k_is); (case c20 => k_is); (case k20 => k_is); (case b20 => (intro us hl; exact match us, hl with | [_, _], _ => rfl))
    (case n21 => k_is); (case l21 => k_is); (case c21 => k_is); (case k21 => k_is); (case b21 => (intro us hl; exact match us, hl with | [_, _], _ => rfl))
    (case n22 => k_is); (case l22 => k_is); (case c22 => k_is); (case k22 => k_is); (case b22 => (intro us hl; exact match us, hl with | [_, _], _ => rfl))
    (case n23 => k_is); (case l23 => k_is); (case c23 => k_is); (case k23 => k_is); (case b23 => (intro us hl; exact match us, hl with | [_, _], _ => rfl))
    (case n24 => k_is); (case l24 => k_is); (case c24 => k_is); (case k24 => k_is); (case b24 => (intro us hl; exact match us, hl with | [_, _], _ => rfl))
    (case n25 => k_is); (case l25 => k_is); (case c25 => k_is); (case k25 => k_is); (case b25 => (intro us hl; exact match us, hl with | [_, _], _ => rfl))
    (case n26 => k_is); (case l26 => k_is); (case c26 => k_is); (case k26 => k_is); (case b26 => (intro us hl; exact match us, hl with | [_, _], _ => rfl))
    (case n27 => k_is); (case l27 => k_is); (case c27 => k_is); (case k27 => k_is); (case b27 => (intro us hl; exact match us, hl with | [_, _], _ => rfl))
    (case n28 => k_is); (case l28 => k_is); (case c28 => k_is); (case k28 => k_is); (case b28 => (intro us hl; exact match us, hl with | [_], _ => rfl))
    (case n29 => k_is); (case l29 => k_is); (case c29 => k_is); (case k29 => k_is); (case b29 => (intro us hl; exact match us, hl with | [_], _ => rfl))
    (case n30 => k_is); (case l30 => k_is); (case c30 => k_is); (case k30 => k_is); (case b30 => (intro us hl; exact match us, hl with | [_], _ => rfl))
    (case n31 => k_is); (case l31 => k_is); (case c31 => k_is); (case k31 => k_is); (case b31 => (intro us hl; exact match us, hl with | [_], _ => rfl))
    (case n32 => k_is); (case l32 => k_is); (case c32 => k_is); (case k32 => k_is); (case b32 => (intro us hl; exact match us, hl with | [_], _ => rfl))
    (case n33 => k_is); (case l33 => k_is); (case c33 => k_is); (case k33 => k_is); (case b33 => (intro us hl; exact match us, hl with | [_, _], _ => rfl))
    (case n34 => k_is); (case l34 => k_is); (case c34 => k_is); (case k34 => k_is); (case b34 => (intro us hl; exact match us, hl with | [_], _ => rfl))
    (case n35 => k_is); (case l35 => k_is); (case c35 => k_is); (case k35 => k_is); (case b35 => (intro us hl; exact match us, hl with | [_], _ => rfl))
    (case n36 => k_is); (case l36 => k_is); (case c36 => k_is); (case k36 => k_is); (case b36 => (intro us hl; exact match us, hl with | [_], _ => rfl))
    (case z_abs => k_is); (case z_all => k_is); (case z_bool => k_is); (case z_int => k_is); (case z_isinstance => k_is); (case z_len => k_is); (case z_list => k_is); (case z_max => k_is); (case z_range => k_is); (case z_tuple => k_is); (case z_zip => k_is); (case c0_LEVEL_RAY => k_is); (case c1_LEVEL_RAY => k_is); (case c2_LEVEL_RAY => k_is); (case c3_LEVEL_RAY => k_is); (case c0_NOUGHT => k_is); (case c1_NOUGHT => k_is); (case c0_ONE => k_is); (case c1_ONE => k_is)
