import PyProof.Rows.All
import Wide.All
import OpenK.AllK
import Wide.FinOn
import PyProof.EqAt
import PyProof.EqKinds
import PyProof.TupleCall
import PyProof.ZipIter
import PyProof.EnumMake
import PyProof.EnumFor
import PyProof.Rows.EnumRows
import PyProof.CompMap
import PyProof.CompUse
import KE.KRevSl
import KE.KRevIter
import PyProof.ListRange
import PyProof.AutoRange
import PyProof.FactsAll.range_2
import PyProof.MaxThree
import KE.RegKTryMore
import PyProof.Rows.SumAny
import KE.KMinBuiltin
import PyProof.Rows.CallKwBuiltin
import PyProof.JoinWalk
import PyProof.StrBlockL
import PyProof.StrCalls2
import PyProof.CallStr
import PyProof.Rows.StrWeight2
import PyProof.FitsInt
import PyProof.FactsAll.range_1
import PyProof.SeqRoads2
import KE.RegKIsAll
import PyProof.ExcArgsOwn
import PyProof.NsDelKeeps
import PyProof.RulesAs
import KE.KIntText
import PyProof.Rows.StrNews2
import PyProof.StrBlockH
import PyProof.Rows.RuleDivmod
import KE.IntTextText
import Lean
import PySem.Challenge.RW_roundglass_k55_whole_ratios_written_and
set_option compiler.extract_closed false
set_option Elab.async false
set_option linter.all false
set_option maxRecDepth 100000
section
namespace L2
open PySem PySem.Spec PyProof.Rows

noncomputable abbrev Key := Sum Int Str
noncomputable def keyIs : Key → Value → Bool
  | .inl k, v => Value.isInt k v
  | .inr x, v => Value.isStrOf x v
noncomputable def keyH (w : World) : Key → Int
  | .inl k => hashInt k
  | .inr x => hashStr w x
theorem keyIs_shape : ∀ {k : Key} {v : Value}, keyIs k v = true → (∃ i t, k = Sum.inl i ∧ v = Value.int i t) ∨ (∃ x t, k = Sum.inr x ∧ v = Value.str x t)
  | .inl i, v, h => by
    obtain ⟨t, e⟩ := Value.isInt_shape (k := i) (v := v) h
    exact .inl ⟨i, t, rfl, e⟩
  | .inr x, v, h => by
    obtain ⟨t, e⟩ := Value.isStrOf_shape (x := x) (v := v) h
    exact .inr ⟨x, t, rfl, e⟩
theorem key_ll (a b : Int) : decide ((Sum.inl a : Key) = Sum.inl b) = (a == b) := by
  by_cases e : a = b
  · subst e; simp
  · have h : ¬ (Sum.inl a : Key) = Sum.inl b := fun q => e (Sum.inl.inj q)
    rw [decide_eq_false h]
    exact (beq_eq_false_iff_ne.mpr e).symm
theorem key_rr (a b : Str) : decide ((Sum.inr a : Key) = Sum.inr b) = decide (a = b) := by
  by_cases e : a = b
  · subst e; simp
  · have h : ¬ (Sum.inr a : Key) = Sum.inr b := fun q => e (Sum.inr.inj q)
    rw [decide_eq_false h, decide_eq_false e]
theorem key_lr (a : Int) (b : Str) : decide ((Sum.inl a : Key) = Sum.inr b) = false := decide_eq_false (fun q => nomatch q)
theorem key_rl (a : Str) (b : Int) : decide ((Sum.inr a : Key) = Sum.inl b) = false := decide_eq_false (fun q => nomatch q)

noncomputable def mixKind (prog : Program) (w : World) : PySem.KeyKind prog w Key where
  is := keyIs
  hash := keyH w
  inj := fun v a b ha hb => by
    rcases keyIs_shape ha with ⟨i, t, rfl, rfl⟩ | ⟨x, t, rfl, rfl⟩
    · rcases keyIs_shape hb with ⟨j, u, rfl, e⟩ | ⟨y, u, rfl, e⟩
      · injection e with e1 _; rw [e1]
      · exact nomatch e
    · rcases keyIs_shape hb with ⟨j, u, rfl, e⟩ | ⟨y, u, rfl, e⟩
      · exact nomatch e
      · injection e with e1 _; rw [e1]
  byValue := fun k v h => by
    rcases keyIs_shape h with ⟨i, t, rfl, rfl⟩ | ⟨x, t, rfl, rfl⟩ <;> rfl
  pyHash := fun hv h => by
    rcases keyIs_shape hv with ⟨i, t, rfl, rfl⟩ | ⟨x, t, rfl, rfl⟩
    · exact wpAny_pyHash_int h
    · exact wpAny_pyHash_str h
  eqBool := fun hu hv h => by
    rcases keyIs_shape hu with ⟨i, t, rfl, rfl⟩ | ⟨x, t, rfl, rfl⟩
    · rcases keyIs_shape hv with ⟨j, u, rfl, rfl⟩ | ⟨y, u, rfl, rfl⟩
      · rw [key_ll] at h; exact wpAny_eqBool_int h
      · rw [key_lr] at h; exact SeqAt.EqAt.int_str i t y u _ _ _ _ h
    · rcases keyIs_shape hv with ⟨j, u, rfl, rfl⟩ | ⟨y, u, rfl, rfl⟩
      · rw [key_rl] at h; exact SeqAt.EqAt.str_int x t j u _ _ _ _ h
      · rw [key_rr] at h; exact wpAny_eqBool_str h
  «strs» := fun k x t v h => by
    rcases keyIs_shape h with ⟨i, u, rfl, e⟩ | ⟨y, u, rfl, e⟩
    · exact nomatch e
    · injection e with e1 _
      subst e1
      cases v <;> rfl

end L2

namespace L2
open PySem PySem.Spec PyProof.Rows

inductive V where
  | non | bl (b : Bool) | int (i : Int) | str (x : Str) | byt (b : Array UInt8) | flt (b : UInt64) | ref (a : Addr) | ty (n : String)
  deriving DecidableEq

noncomputable def RelV : V → Value → Prop
  | .non, u => u = Value.none
  | .bl b, u => u = Value.bool b
  | .int i, u => ∃ t, u = Value.int i t
  | .str x, u => ∃ t, u = Value.str x t
  | .byt b, u => ∃ t, u = Value.bytes b t
  | .flt b, u => ∃ t, u = Value.float b t
  | .ref a, u => u = Value.ref a
  | .ty n, u => u = Value.type n

noncomputable abbrev Vals : List V → List Value → Prop := Paired RelV
theorem Vals.length {xs : List V} {us : List Value} (r : Vals xs us) : xs.length = us.length := Paired.length r
theorem Vals.get : ∀ {xs : List V} {us : List Value} {i : Nat} {x : V}, Vals xs us → xs[i]? = some x → ∃ u, us[i]? = some u ∧ RelV x u
  | _, _, _, _, .nil, e => by simp at e
  | _, _, 0, _, .cons r _, e => by simp at e; subst e; exact ⟨_, rfl, r⟩
  | _, _, i + 1, x, .cons _ t, e => by
    obtain ⟨u, h1, h2⟩ := Vals.get (i := i) (x := x) t (by simpa using e)
    exact ⟨u, by simpa using h1, h2⟩
theorem Vals.set {x : V} {u : Value} (r : RelV x u) : ∀ {xs : List V} {us : List Value} (i : Nat), Vals xs us → Vals (xs.set i x) (us.set i u)
  | _, _, _, .nil => .nil
  | _, _, 0, .cons _ t => .cons r t
  | _, _, i + 1, .cons q t => .cons q (Vals.set r i t)
theorem Vals.append : ∀ {xs ys : List V} {us ws : List Value}, Vals xs us → Vals ys ws → Vals (xs ++ ys) (us ++ ws)
  | _, _, _, _, .nil, s => s
  | _, _, _, _, .cons r t, s => .cons r (Vals.append t s)
theorem Vals.take : ∀ {xs : List V} {us : List Value} (n : Nat), Vals xs us → Vals (xs.take n) (us.take n)
  | _, _, 0, _ => .nil
  | _, _, _ + 1, .nil => .nil
  | _, _, n + 1, .cons r t => .cons r (Vals.take n t)
theorem Vals.drop : ∀ {xs : List V} {us : List Value} (n : Nat), Vals xs us → Vals (xs.drop n) (us.drop n)
  | _, _, 0, r => r
  | _, _, _ + 1, .nil => .nil
  | _, _, n + 1, .cons _ t => Vals.drop n t
noncomputable def RelO : Option V → Option Value → Prop
  | some v, some u => RelV v u
  | none, none => True
  | _, _ => False
noncomputable def KV {κ : Type} : List (κ × V) → List (κ × Value) → Prop := Paired fun (p : κ × V) (q : κ × Value) => p.1 = q.1 ∧ RelV p.2 q.2

noncomputable def kV : Key → V
  | .inl i => .int i
  | .inr x => .str x

inductive HO where
  /-- a list -/
  | lst (xs : List V)
  /-- a tuple (never changes) -/
  | tup (xs : List V)
  /-- a dict whose keys are ints and texts; one whose keys are tuples of ints and texts (the empty one is both) -/
  | dK (kvs : List (Key × V)) | dT (kvs : List (List Key × V))
  /-- a set of ints: its members, its size -/
  | set (S : Int → Bool) (n : Nat)
  /-- an instance of the class at C, its dict at dx, its attributes -/
  | ins (C dx : Addr) (fs : List (Str × V))
  /-- the dict of the instance at x -/
  | own (x : Addr)
  /-- the dict of an exception -/
  | xd (fs : List (Str × V))
  /-- a bound method, f of x -/
  | met (f x : Addr)
  /-- a range object lo, lo + 1, .. below hi -/
  | rng (lo hi : Int)
  /-- a thing that is known to the object (the script; a dict while a loop walks it): read, never written while it is so -/
  | frz (o : Obj) (u : HO)
  /-- a code object's table -/
  | tbl (ps : Array Value)
  /-- any other thing, by what is true of its one object (a def of one's own: SetO a S n := HO.ext fun h => ..) -/
  | ext (φ : Heap → Prop)

noncomputable abbrev Hp := Addr → Option HO
noncomputable def upd (H : Hp) (a : Addr) (o : HO) : Hp := fun b => if b = a then some o else H b
theorem upd_same {H : Hp} {a : Addr} {o : HO} : upd H a o a = some o := by unfold upd; rw [if_pos rfl]
theorem upd_ne {H : Hp} {a b : Addr} {o : HO} (h : b ≠ a) : upd H a o b = H b := by unfold upd; rw [if_neg h]
theorem upd_upd {H : Hp} {a : Addr} {o u : HO} : upd (upd H a o) a u = upd H a u := by
  funext b; unfold upd; split <;> rfl
theorem ne_of_none {H : Hp} {a b : Addr} {o : HO} (h : H a = some o) (h' : H b = none) : a ≠ b := by
  intro e; subst e; rw [h] at h'; cases h'

section
variable (P : Program) (w : World)
noncomputable def ObjOk (H : Hp) (h : Heap) (a : Addr) : HO → Prop
  | .lst xs => xs.length ≤ sizeLine ∧ ∃ (its : List Value) (n : Nat), Vals xs its ∧ h.get? a = some { cls := .type "list", data := .seq its.toArray n }
  | .tup xs => xs.length ≤ sizeLine ∧ ∃ its : List Value, Vals xs its ∧ IsTup h a its.toArray
  | .dK kvs => kvs.length ≤ sizeLine ∧ (a == sysModules) = false ∧ ∃ vs, KV kvs vs ∧ h.DictOf (mixKind P w) a vs
  | .dT kvs => kvs.length ≤ sizeLine ∧ (a == sysModules) = false ∧ ∃ xs : List (List Key × Addr × Value),
      Paired (fun (p : List Key × V) (q : List Key × Addr × Value) => p.1 = q.1 ∧ H q.2.1 = some (.tup (p.1.map kV)) ∧ RelV p.2 q.2.2) kvs xs ∧
      ∃ o es ep, h.get? a = some o ∧ o.ExactDict ∧ o.data = .dict es ep ∧ es.toList = xs.map (entryOfKey (tupleKind (mixKind P w))) ∧ (xs.map (·.1)).Nodup
  | .set S n => h.SetOf (intKind P w) a S n
  | .ins C dx fs => H dx = some (.own a) ∧ fs.length ≤ 1000 ∧ dx ≠ a ∧ h.get? a = some (PySem.W.instObj C dx) ∧
      ∃ mA, h.Ns1 dx mA ∧ (∀ f, RelO (fs.lookup f) (mA f)) ∧ PySem.Within mA (fs.map (·.1))
  | .own _ => ∃ o, h.get? a = some o
  | .xd fs => ∃ mA, h.Ns1 a mA ∧ ∀ f, RelO (fs.lookup f) (mA f)
  | .rng lo hi => ∃ t u v, h.get? a = some { cls := .type "range", data := .fields #[.int lo t, .int hi u, .int 1 v] }
  | .frz o u => h.get? a = some o ∧ ObjOk H h a u
  | .tbl ps => h.get? a = some { cls := .none, data := .fields ps }
  | .met f x => h.get? a = some (PySem.W.methodObj (.ref f) (.ref x))
  | .ext φ => φ h ∧ (∃ o, h.get? a = some o) ∧ ∀ h1 h2 : Heap, φ h1 → (∀ o, h1.get? a = some o → h2.get? a = some o) → φ h2
noncomputable def HOk (H : Hp) (h : Heap) : Prop := ∀ a o, H a = some o → ObjOk P w H h a o
end

section
variable {P : Program} {w : World} {H H' : Hp} {h h' : Heap} {a : Addr} {o : HO}
theorem ObjOk.lt (x : ObjOk P w H h a o) : a < h.objs.size := by
  cases o with
  | lst xs => obtain ⟨_, _, _, _, e⟩ := x; exact Heap.lt_size e
  | tup xs => obtain ⟨_, _, _, p⟩ := x; exact p.lt
  | dK kvs => obtain ⟨_, _, _, _, o, _, _, e, _⟩ := x; exact Heap.lt_size e
  | dT kvs => obtain ⟨_, _, _, _, o, _, _, e, _⟩ := x; exact Heap.lt_size e
  | set S n => obtain ⟨o, _, _, _, e, _⟩ := x; exact Heap.lt_size e
  | ins C dx fs => obtain ⟨_, _, _, e, _⟩ := x; exact Heap.lt_size e
  | own y => obtain ⟨_, e⟩ := x; exact Heap.lt_size e
  | xd fs => obtain ⟨_, ⟨_, _, _, e, _⟩, _⟩ := x; exact Heap.lt_size e
  | rng lo hi => obtain ⟨_, _, _, e⟩ := x; exact Heap.lt_size e
  | frz ob u => obtain ⟨e, _⟩ := x; exact Heap.lt_size e
  | tbl ps => exact Heap.lt_size (show h.get? a = some _ from x)
  | met f y => exact Heap.lt_size (show h.get? a = some _ from x)
  | ext φ => obtain ⟨_, ⟨_, e⟩, _⟩ := x; exact Heap.lt_size e
theorem Paired.mapP {α β : Type} {F G : α → β → Prop} : ∀ {l₁ : List α} {l₂ : List β}, Paired F l₁ l₂ → (∀ a b, F a b → G a b) → Paired G l₁ l₂
  | _, _, .nil, _ => .nil
  | _, _, .cons r t, f => .cons (f _ _ r) (Paired.mapP t f)
theorem ObjOk.stay (x : ObjOk P w H h a o) (k : ∀ b u, (b = a ∨ H b = some (.own a)) → h.get? b = some u → h'.get? b = some u)
    (ho : ∀ b, H b = some (.own a) → H' b = some (.own a)) (ht : ∀ b xs, H b = some (.tup xs) → H' b = some (.tup xs)) : ObjOk P w H' h' a o := by
  induction o with
  | lst xs => obtain ⟨z, its, n, r, e⟩ := x; exact ⟨z, its, n, r, k _ _ (.inl rfl) e⟩
  | tup xs => obtain ⟨z, its, r, ob, e, c⟩ := x; exact ⟨z, its, r, ob, k _ _ (.inl rfl) e, c⟩
  | dK kvs => obtain ⟨z, y, vs, r, ob, es, ep, e, c⟩ := x; exact ⟨z, y, vs, r, ob, es, ep, k _ _ (.inl rfl) e, c⟩
  | dT kvs =>
    obtain ⟨z, y, xs, r, ob, es, ep, e, c⟩ := x
    exact ⟨z, y, xs, Paired.mapP r fun p q z => ⟨z.1, ht _ _ z.2.1, z.2.2⟩, ob, es, ep, k _ _ (.inl rfl) e, c⟩
  | set S n => obtain ⟨ob, es, ep, t, e, c⟩ := x; exact ⟨ob, es, ep, t, k _ _ (.inl rfl) e, c⟩
  | ins C dx fs =>
    obtain ⟨d, z, ne, e, mA, ⟨od, es, ep, e2, c⟩, r⟩ := x
    exact ⟨ho _ d, z, ne, k _ _ (.inl rfl) e, mA, ⟨od, es, ep, k _ _ (.inr d) e2, c⟩, r⟩
  | own y => obtain ⟨ob, e⟩ := x; exact ⟨ob, k _ _ (.inl rfl) e⟩
  | xd fs => obtain ⟨mA, ⟨od, es, ep, e, c⟩, r⟩ := x; exact ⟨mA, ⟨od, es, ep, k _ _ (.inl rfl) e, c⟩, r⟩
  | rng lo hi => obtain ⟨t, u, v, e⟩ := x; exact ⟨t, u, v, k _ _ (.inl rfl) e⟩
  | frz ob u ih => obtain ⟨e, q⟩ := x; exact ⟨k _ _ (.inl rfl) e, ih q⟩
  | tbl ps =>
    have e : h.get? a = some { cls := .none, data := .fields ps } := x
    show h'.get? a = some { cls := .none, data := .fields ps }
    exact k a _ (.inl rfl) e
  | met f y =>
    have e : h.get? a = some (PySem.W.methodObj (.ref f) (.ref y)) := x
    show h'.get? a = some (PySem.W.methodObj (.ref f) (.ref y))
    exact k a _ (.inl rfl) e
  | ext φ => obtain ⟨p, ⟨o, e⟩, st⟩ := x; exact ⟨st _ _ p fun o q => k _ _ (.inl rfl) q, ⟨o, k _ _ (.inl rfl) e⟩, st⟩
theorem HOk.lt (x : HOk P w H h) (e : H a = some o) : a < h.objs.size := (x a o e).lt
theorem HOk.fresh (x : HOk P w H h) (e : h.objs.size ≤ a) : H a = none := by
  cases q : H a with
  | none => rfl
  | some u => exact absurd (Nat.lt_of_lt_of_le (x.lt q) e) (Nat.lt_irrefl _)
theorem HOk.kept (x : HOk P w H h) (k : ∀ b u, h.get? b = some u → h'.get? b = some u) : HOk P w H h' := fun a o e =>
  (x a o e).stay (fun b u _ q => k b u q) (fun _ q => q) fun _ _ q => q
theorem HOk.laid (x : HOk P w H h) (k : ∀ b u, h.get? b = some u → h'.get? b = some u) (hp : h.objs.size ≤ a) (new : ObjOk P w (upd H a o) h' a o) : HOk P w (upd H a o) h' := fun b u e => by
  have hn := x.fresh hp
  by_cases hb : b = a
  · subst hb; rw [upd_same] at e; cases e; exact new
  · rw [upd_ne hb] at e
    exact (x b u e).stay (fun c v _ q => k c v q) (fun c q => by rw [upd_ne (ne_of_none q hn)]; exact q) fun c xs q => by rw [upd_ne (ne_of_none q hn)]; exact q
end

noncomputable def Rd (H : Hp) (a : Addr) (u : HO) : Prop := H a = some u ∨ ∃ o, H a = some (.frz o u)
theorem Rd.of {H : Hp} {a : Addr} {u : HO} (h : H a = some u) : Rd H a u := .inl h
theorem Rd.ok {P : Program} {w : World} {H : Hp} {h : Heap} {a : Addr} {u : HO} (r : Rd H a u) (x : HOk P w H h) : ObjOk P w H h a u := by
  rcases r with r | ⟨o, r⟩
  · exact x a u r
  · obtain ⟨_, q⟩ := x a _ r
    exact q
noncomputable def Mut : Option HO → Prop
  | some (.lst _) => True
  | some (.dK _) => True
  | some (.dT _) => True
  | some (.set _ _) => True
  | some (.ins _ _ _) => True
  | some (.ext _) => True
  | _ => False
section
variable {P : Program} {w : World} {H : Hp} {h h' : Heap} {x e : Addr} {o' : HO}
theorem HOk.write (ok : HOk P w H h) (mu : Mut (H x)) (he : e = x ∨ H e = some (.own x)) (k : ∀ b u, b ≠ e → h.get? b = some u → h'.get? b = some u) (heo : ∃ u, h'.get? e = some u)
    (new : ObjOk P w (upd H x o') h' x o') : HOk P w (upd H x o') h' := fun b u q => by
  have nown : ∀ c y, H c = some (.own y) → c ≠ x := fun c y r z => by subst z; rw [r] at mu; exact mu
  have ntup : ∀ c xs, H c = some (.tup xs) → c ≠ x := fun c xs r z => by subst z; rw [r] at mu; exact mu
  by_cases hb : b = x
  · subst hb; rw [upd_same] at q; cases q; exact new
  · rw [upd_ne hb] at q
    by_cases hbe : b = e
    · have q' : H b = some (.own x) := by
        rcases he with z | z
        · exact absurd (hbe.trans z) hb
        · rw [hbe]; exact z
      rw [q] at q'; cases q'
      obtain ⟨v, hv⟩ := heo
      exact ⟨v, by rw [hbe]; exact hv⟩
    · refine (ok b u q).stay (fun c v hc r => k c v ?_ r) (fun c r => by rw [upd_ne (nown c b r)]; exact r) fun c xs r => by rw [upd_ne (ntup c xs r)]; exact r
      rcases hc with rfl | hc
      · exact hbe
      · rintro rfl
        rcases he with z | z
        · exact nown c b hc z
        · rw [hc] at z; cases z; exact hb rfl
end

structure Un (fs ex : List Addr) (H H' : Hp) (h h' : Heap) : Prop where
  keep : ∀ b o, h.get? b = some o → H b = none → b ∉ fs → b ∉ ex → h'.get? b = some o
  slot : ∀ b o, h.get? b = some o → H b = none → b ∈ fs → b ∉ ex → ∃ sl, h'.get? b = some { o with slots := sl }
  free : ∀ b o, h.get? b = some o → H b = none → b ∉ ex → H' b = none
  there : ∀ b o, h.get? b = some o → b ∉ ex → ∃ o', h'.get? b = some o'
  tups : ∀ b xs, H b = some (.tup xs) → H' b = some (.tup xs)
  frzs : ∀ b o u, H b = some (.frz o u) → H' b = some (.frz o u)
  tbls : ∀ b ps, H b = some (.tbl ps) → ∃ more, H' b = some (.tbl (ps ++ more))
section
variable {fs fs' ex ex' : List Addr} {H H1 H2 : Hp} {h h1 h2 h' : Heap} {a x e : Addr} {o : HO}
theorem Un.any (u : Un fs ex H H1 h h1) {b : Addr} {ob : Obj} (q : h.get? b = some ob) (n : H b = none) (hx : b ∉ ex) : ∃ sl, h1.get? b = some { ob with slots := sl } := by
  by_cases hb : b ∈ fs
  · exact u.slot b ob q n hb hx
  · exact ⟨ob.slots, u.keep b ob q n hb hx⟩
theorem Un.trans (a : Un fs ex H H1 h h1) (b : Un fs ex H1 H2 h1 h2) : Un fs ex H H2 h h2 where
  keep := fun c ob q n hc hx => b.keep c ob (a.keep c ob q n hc hx) (a.free c ob q n hx) hc hx
  slot := fun c ob q n hc hx => by
    obtain ⟨sl, e1⟩ := a.slot c ob q n hc hx
    obtain ⟨sl', e2⟩ := b.slot c _ e1 (a.free c ob q n hx) hc hx
    exact ⟨sl', e2⟩
  free := fun c ob q n hx => by
    obtain ⟨o', e1⟩ := a.there c ob q hx
    exact b.free c o' e1 (a.free c ob q n hx) hx
  there := fun c ob q hx => by
    obtain ⟨o', e1⟩ := a.there c ob q hx
    exact b.there c o' e1 hx
  tups := fun c xs q => b.tups c xs (a.tups c xs q)
  frzs := fun c ob xs q => b.frzs c ob xs (a.frzs c ob xs q)
  tbls := fun c ps q => by
    obtain ⟨m1, e1⟩ := a.tbls c ps q
    obtain ⟨m2, e2⟩ := b.tbls c _ e1
    exact ⟨m1 ++ m2, by rw [e2, Array.append_assoc]⟩
theorem Un.kept (k : ∀ b u, h.get? b = some u → h'.get? b = some u) : Un fs ex H H h h' :=
  ⟨fun b ob q _ _ _ => k b ob q, fun b ob q _ _ _ => ⟨ob.slots, k b ob q⟩, fun _ _ _ n _ => n, fun b ob q _ => ⟨ob, k b ob q⟩, fun _ _ q => q, fun _ _ _ q => q, fun _ ps q => ⟨#[], by rw [q]; simp⟩⟩
theorem Un.refl : Un fs ex H H h h := Un.kept fun _ _ q => q
theorem Un.laid (k : ∀ b u, h.get? b = some u → h'.get? b = some u) (hp : h.objs.size ≤ a) (hn : H a = none) : Un fs ex H (upd H a o) h h' where
  keep := fun b u q _ _ _ => k b u q
  slot := fun b u q _ _ _ => ⟨u.slots, k b u q⟩
  free := fun b u q n _ => by rw [upd_ne (Nat.ne_of_lt (Nat.lt_of_lt_of_le (Heap.lt_size q) hp))]; exact n
  there := fun b u q _ => ⟨u, k b u q⟩
  tups := fun b xs q => by rw [upd_ne (ne_of_none q hn)]; exact q
  frzs := fun b u xs q => by rw [upd_ne (ne_of_none q hn)]; exact q
  tbls := fun b ps q => ⟨#[], by rw [upd_ne (ne_of_none q hn), q]; simp⟩
theorem Un.write (mu : Mut (H x)) (he : e = x ∨ H e = some (.own x)) (k : ∀ b u, b ≠ e → h.get? b = some u → h'.get? b = some u) (heo : ∃ u, h'.get? e = some u) : Un fs ex H (upd H x o) h h' := by
  have hx : ∀ b, H b = none → b ≠ x := fun b n z => by subst z; rw [n] at mu; exact mu
  have hb : ∀ b, H b = none → b ≠ e := fun b n z => by
    subst z
    rcases he with r | r
    · exact hx b n r
    · rw [n] at r; cases r
  have hm : ∀ b u, H b = some u → ¬ Mut (some u) → b ≠ x := fun b u q nm z => by subst z; rw [q] at mu; exact nm mu
  refine ⟨fun b u q n _ _ => k b u (hb b n) q, fun b u q n _ _ => ⟨u.slots, k b u (hb b n) q⟩, fun b u q n _ => by rw [upd_ne (hx b n)]; exact n, fun b u q _ => ?_,
    fun b xs q => by rw [upd_ne (hm b _ q fun z => z)]; exact q, fun b u xs q => by rw [upd_ne (hm b _ q fun z => z)]; exact q, fun b ps q => ⟨#[], by rw [upd_ne (hm b _ q fun z => z), q]; simp⟩⟩
  by_cases hbe : b = e
  · subst hbe; exact heo
  · exact ⟨u, k b u hbe q⟩
theorem Un.mono (u : Un fs ex H H1 h h1) (hs : ∀ b ∈ fs, b ∈ fs') (hx : ∀ b ∈ ex, b ∈ ex') : Un fs' ex' H H1 h h1 :=
  ⟨fun b ob q n hb he => u.keep b ob q n (fun z => hb (hs b z)) fun z => he (hx b z), fun _ _ q n _ he => u.any q n fun z => he (hx _ z), fun b ob q n he => u.free b ob q n fun z => he (hx b z), fun b ob q he => u.there b ob q fun z => he (hx b z), u.tups, u.frzs, u.tbls⟩
end

noncomputable def trk (h : Heap) (H : Hp) : List Addr := (List.range h.objs.size).filter fun a => (H a).isSome
noncomputable def hidT (h : Heap) (H : Hp) : Heap := PySem.W.hideAll h (trk h H)
theorem hidT_size (h : Heap) (H : Hp) : (hidT h H).objs.size = h.objs.size := PySem.W.hideAll_size _ _
theorem hidT_get {h : Heap} {H : Hp} {b : Addr} {o : Obj} (e : h.get? b = some o) (n : H b = none) : (hidT h H).get? b = some o :=
  PySem.W.hideAll_get _ e fun hm => by
    have q : (H b).isSome = true := (List.mem_filter.mp hm).2
    rw [n] at q; simp at q
theorem of_hidT {h : Heap} {H : Hp} {b : Addr} {o : Obj} (e : (hidT h H).get? b = some o) : h.get? b = some o ∧ H b = none := by
  have e' : h.get? b = some o := PySem.W.of_hideAll (trk h H) e
  refine ⟨e', ?_⟩
  cases q : H b with
  | none => rfl
  | some x =>
    have hm : b ∈ trk h H := List.mem_filter.mpr ⟨List.mem_range.mpr (Heap.lt_size e'), by simp [q]⟩
    have z : (hidT h H).get? b = none := PySem.W.hideAll_none (trk h H) hm
    rw [z] at e; cases e

noncomputable def allNews (g h : Heap) (L : Addr) : List (Addr × Obj) := (List.range h.objs.size).filterMap fun a => if a = L ∨ (g.get? a).isSome = true then none else (h.get? a).map fun o => (a, o)
noncomputable def rest (g h : Heap) (L d : Addr) : List (Addr × Obj) := (allNews g h L).filter fun p => decide (p.1 ≠ d)
end L2

namespace L2
open PySem PySem.Spec PyProof.Rows

structure Mod (K : PySem.W.Frag) (mg : Str → Option Value) (base : Heap) : Prop where
  kin : K.In base
  glob : base.Ns mainGlobals mg
  blt : ∃ mb, base.Ns builtinsNs mb ∧ ∀ x : Str, x ≠ "__name__" → mb x = bootBuiltins x
  nolimit : base.NoLimit

structure Cx where
  prog : Program
  w : World
  K : PySem.W.Frag
  mg : Str → Option Value
  base : Heap
  A : Around
  N : List Str
  s₀ : Shared
  H₀ : Hp
  env : Env
  outer : List Env
  stack : List Env
  ex : List Addr
  fn : Str → Bool
  calm : Bool
  pn : List (Addr × Obj)
  xe : Value → Shared → Prop
noncomputable def frs (l : List Env) : List Addr := l.filterMap (·.frame)
noncomputable abbrev Cx.fs (X : Cx) : List Addr := frs X.outer

noncomputable def Vis (sc : Scope) (x : Str) : Prop := sc.names.lookup x = some .local ∨ sc.names.lookup x = some .cell ∨ sc.names.lookup x = some .free
noncomputable def Loc (sc : Scope) (x : Str) : Prop := sc.names.lookup x = some .local ∨ sc.names.lookup x = some .cell
noncomputable def Look (env : Env) (h : Heap) (m : Str → Option Value) (x : Str) (u : Value) : Prop :=
  (env.kindOf x = some .local ∧ m x = some u) ∨ ((env.kindOf x = some .cell ∨ env.kindOf x = some .free) ∧ ∃ c, env.cells.lookup x = some c ∧ h.IsCell c (some u))

structure Cx.Ok (X : Cx) : Prop where
  mod : Mod X.K X.mg X.base
  kind : X.env.scope.kind = .function
  glob : X.env.globals = mainGlobals
  blt : X.env.builtins = builtinsNs
  above : X.s₀.heap.objs.size ≤ X.env.locals
  inj : ∀ x y c, X.env.cells.lookup x = some c → X.env.cells.lookup y = some c → x = y
  has : ∀ x, (X.env.kindOf x = some .cell ∨ X.env.kindOf x = some .free) → ∃ c, X.env.cells.lookup x = some c
  cab : ∀ x c, X.fn x = true → X.env.cells.lookup x = some c → X.s₀.heap.objs.size ≤ c
  hd : X.calm = true → X.A.handled = none
  frames : X.A.frames = some X.stack
  stk : X.stack = X.outer ∨ (X.stack = X.env :: X.outer ∧ X.env.frame = some X.env.locals)
  exf : ∀ b ∈ X.ex, b ≠ X.env.locals ∧ ∀ x c, X.env.cells.lookup x = some c → c ≠ b
  bs : ∀ b o, X.base.get? b = some o → X.s₀.heap.get? b = some o ∧ X.H₀ b = none
  bsz : X.base.objs.size ≤ X.s₀.heap.objs.size
  noex : ∀ b o, X.base.get? b = some o → b ∉ X.ex
  exfs : ∀ b ∈ X.ex, b ∉ X.fs
  funs : X.s₀.heap.FunFrames X.base X.outer
  frf : ∀ b ∈ X.fs, X.H₀ b = none

structure Inv (X : Cx) (pins : List (Addr × Obj)) (σ : List (Option V)) (H : Hp) (s : Shared) : Prop where
  ok : X.Ok
  os : s.os = X.s₀.os
  bare : AllBare s.gens
  base : Un X.fs X.ex X.H₀ H X.s₀.heap s.heap
  loc : ∃ m, s.heap.Ns X.env.locals m ∧ ∀ (i : Nat) (x : Str) (v : V), X.N[i]? = some x → σ[i]? = some (some v) → Vis X.env.scope x → ∃ u, RelV v u ∧ Look X.env s.heap m x u
  cell : ∀ x c, X.env.cells.lookup x = some c → ∃ v, s.heap.IsCell c v
  free : H X.env.locals = none
  freeC : ∀ x c, X.env.cells.lookup x = some c → H c = none
  pin : ∀ p ∈ X.pn ++ pins, s.heap.get? p.1 = some p.2 ∧ H p.1 = none ∧ p.1 ≠ X.env.locals ∧ p.1 ∉ X.fs ∧ ∀ v, p.2.data ≠ .cell v
  hok : HOk X.prog X.w H s.heap
  len : σ.length = X.N.length

section
variable {X : Cx} {pins : List (Addr × Obj)} {σ : List (Option V)} {H H' : Hp} {s : Shared} {h' : Heap}

theorem Cx.Ok.nofr (ok : X.Ok) {b : Addr} {o : Obj} (e : X.base.get? b = some o) : b ∉ X.fs := fun hb => by
  have := (ok.funs.mem hb).1
  rw [e] at this; cases this
theorem Inv.bs (I : Inv X pins σ H s) : ∀ b o, X.base.get? b = some o → s.heap.get? b = some o ∧ H b = none := fun b o e =>
  ⟨I.base.keep b o (I.ok.bs b o e).1 (I.ok.bs b o e).2 (I.ok.nofr e) (I.ok.noex b o e), I.base.free b o (I.ok.bs b o e).1 (I.ok.bs b o e).2 (I.ok.noex b o e)⟩
theorem Inv.bk (I : Inv X pins σ H s) : ∀ b o, X.base.get? b = some o → s.heap.get? b = some o := fun b o e => (I.bs b o e).1
theorem Inv.mod (I : Inv X pins σ H s) : Mod X.K X.mg X.base := I.ok.mod
theorem Inv.kIn (I : Inv X pins σ H s) : X.K.In s.heap := I.ok.mod.kin.keeps I.bk
theorem Inv.nolimit (I : Inv X pins σ H s) : s.heap.NoLimit := I.ok.mod.nolimit.keeps I.bk
theorem Inv.lt (I : Inv X pins σ H s) : X.env.locals < s.heap.objs.size := let ⟨_, hn, _⟩ := I.loc; hn.lt
theorem Inv.sz (I : Inv X pins σ H s) : X.s₀.heap.objs.size ≤ s.heap.objs.size := Nat.le_trans I.ok.above (Nat.le_of_lt I.lt)
theorem Inv.nofs (I : Inv X pins σ H s) {a : Addr} (h : s.heap.objs.size ≤ a) : a ∉ X.fs := fun hb => by
  obtain ⟨_, o, ho, _⟩ := I.ok.funs.mem hb
  exact absurd (Nat.lt_of_lt_of_le (Heap.lt_size ho) (Nat.le_trans I.sz h)) (Nat.lt_irrefl _)
theorem Inv.cne (I : Inv X pins σ H s) : ∀ x c, X.env.cells.lookup x = some c → c ≠ X.env.locals := fun x c e z => by
  obtain ⟨v, o, ho, hd⟩ := I.cell x c e
  obtain ⟨m, ⟨o', es, ep, ho', hd', _⟩, _⟩ := I.loc
  rw [z, ho'] at ho; cases ho; rw [hd'] at hd; cases hd
theorem Inv.funs (I : Inv X pins σ H s) : s.heap.FunFrames X.base X.outer := by
  have all : ∀ (l : List Env), (∀ b ∈ frs l, b ∈ X.fs) → X.s₀.heap.FunFrames X.base l → s.heap.FunFrames X.base l := by
    intro l
    induction l with
    | nil => intro _ _; trivial
    | cons env r ih =>
      intro hs hl
      obtain ⟨hk, ⟨L, o, hf, hn, ho, hd⟩, hr⟩ := hl
      have hL : L ∈ X.fs := hs L (by unfold frs; rw [List.filterMap_cons, hf]; exact List.mem_cons_self)
      obtain ⟨sl, e⟩ := I.base.slot L o ho (I.ok.frf L hL) hL fun z => I.ok.exfs L z hL
      exact ⟨hk, ⟨L, _, hf, hn, e, hd⟩, ih (fun b hb => hs b (by unfold frs; rw [List.filterMap_cons, hf]; exact List.mem_cons_of_mem _ hb)) hr⟩
  exact all X.outer (fun _ hb => hb) I.ok.funs

theorem Inv.stack (I : Inv X pins σ H s) : s.heap.FunFrames X.base X.stack := by
  rcases I.ok.stk with e | ⟨e, hf⟩
  · rw [e]; exact I.funs
  · rw [e]
    obtain ⟨m, hn, _⟩ := I.loc
    refine .cons (by rw [I.ok.kind]; decide) hf hn ?_ I.funs
    exact Heap.get?_none_of_le (Nat.le_trans I.ok.bsz I.ok.above)
theorem Inv.stkSub (I : Inv X pins σ H s) : ∀ b ∈ frs X.stack, b ∈ X.env.locals :: X.fs := fun b hb => by
  rcases I.ok.stk with e | ⟨e, hf⟩
  · rw [e] at hb; exact List.mem_cons_of_mem _ hb
  · rw [e] at hb
    unfold frs at hb
    rw [List.filterMap_cons, hf] at hb
    exact hb
theorem Inv.stkFree (I : Inv X pins σ H s) : ∀ b ∈ frs X.stack, H b = none := fun b hb => by
  rcases List.mem_cons.mp (I.stkSub b hb) with e | hb
  · rw [e]; exact I.free
  · obtain ⟨_, o, ho, _⟩ := I.ok.funs.mem hb
    exact I.base.free b o ho (I.ok.frf b hb) fun z => I.ok.exfs b z hb

theorem Inv.step {g' : Array GenState} {t' : Nat} {d' : Drawn} {ch : List Addr} (I : Inv X pins σ H s)
    (hch : ∀ b ∈ ch, (b ∈ X.ex ∨ X.s₀.heap.objs.size ≤ b) ∧ b ≠ X.env.locals ∧ (∀ x c, X.env.cells.lookup x = some c → c ≠ b) ∧ ∀ p ∈ X.pn ++ pins, p.1 ≠ b)
    (keep : ∀ b o, b ≠ X.env.locals → b ∉ X.fs → b ∉ ch → s.heap.get? b = some o → H b = none → h'.get? b = some o)
    (slot : ∀ b o, b ≠ X.env.locals → b ∈ X.fs → b ∉ ch → s.heap.get? b = some o → H b = none → ∃ sl, h'.get? b = some { o with slots := sl }) (free : ∀ b o, b ∉ ch → s.heap.get? b = some o → H b = none → H' b = none)
    (there : ∀ b o, b ∉ ch → s.heap.get? b = some o → ∃ o', h'.get? b = some o')
    (tups : ∀ b xs, H b = some (.tup xs) → H' b = some (.tup xs)) (frzs : ∀ b o u, H b = some (.frz o u) → H' b = some (.frz o u)) (tbls : ∀ b ps, H b = some (.tbl ps) → ∃ more, H' b = some (.tbl (ps ++ more)))
    (ns : ∀ m, s.heap.Ns X.env.locals m → h'.Ns X.env.locals m) (hok : HOk X.prog X.w H' h') (hg : AllBare g') :
    Inv X pins σ H' { s with heap := h', gens := g', drawn := d', toks := t' } := by
  have neL : ∀ b o, X.s₀.heap.get? b = some o → b ≠ X.env.locals := fun b o e => Nat.ne_of_lt (Nat.lt_of_lt_of_le (Heap.lt_size e) I.ok.above)
  have neC : ∀ b o, X.s₀.heap.get? b = some o → b ∉ X.ex → b ∉ ch := fun b o e hx hb => by
    rcases (hch b hb).1 with z | z
    · exact hx z
    · exact absurd (Nat.lt_of_lt_of_le (Heap.lt_size e) z) (Nat.lt_irrefl _)
  have cellK : ∀ x c, X.env.cells.lookup x = some c → ∀ v, s.heap.IsCell c v → h'.IsCell c v := fun x c e v zz => by
    obtain ⟨o, ho, hd⟩ := zz
    have nch : c ∉ ch := fun z => (hch c z).2.2.1 x c e rfl
    by_cases hc : c ∈ X.fs
    · obtain ⟨sl, q⟩ := slot c o (I.cne x c e) hc nch ho (I.freeC x c e)
      exact ⟨_, q, hd⟩
    · exact ⟨o, keep c o (I.cne x c e) hc nch ho (I.freeC x c e), hd⟩
  refine ⟨I.ok, I.os, hg, ⟨fun b o e n hb hx => ?_, fun b o e n hb hx => ?_, fun b o e n hx => ?_, fun b o e hx => ?_, fun b xs e => tups b xs (I.base.tups b xs e), fun b o xs e => frzs b o xs (I.base.frzs b o xs e), fun b ps e => ?_⟩, ?_, fun x c e => ?_, ?_, fun x c e => ?_, fun p hp => ?_, hok, I.len⟩
  · exact keep b o (neL b o e) hb (neC b o e hx) (I.base.keep b o e n hb hx) (I.base.free b o e n hx)
  · obtain ⟨sl, e1⟩ := I.base.slot b o e n hb hx
    obtain ⟨sl', e2⟩ := slot b _ (neL b o e) hb (neC b o e hx) e1 (I.base.free b o e n hx)
    exact ⟨sl', e2⟩
  · obtain ⟨o', e1⟩ := I.base.there b o e hx
    exact free b o' (neC b o e hx) e1 (I.base.free b o e n hx)
  · obtain ⟨o', e1⟩ := I.base.there b o e hx
    exact there b o' (neC b o e hx) e1
  · obtain ⟨m1, e1⟩ := I.base.tbls b ps e
    obtain ⟨m2, e2⟩ := tbls b _ e1
    exact ⟨m1 ++ m2, by rw [e2, Array.append_assoc]⟩
  · obtain ⟨m, hn, hl⟩ := I.loc
    refine ⟨m, ns m hn, fun i x v e1 e2 e3 => ?_⟩
    obtain ⟨u, r, l⟩ := hl i x v e1 e2 e3
    refine ⟨u, r, ?_⟩
    rcases l with l | ⟨k, c, e, z⟩
    · exact .inl l
    · exact .inr ⟨k, c, e, cellK x c e _ z⟩
  · obtain ⟨v, z⟩ := I.cell x c e
    exact ⟨v, cellK x c e v z⟩
  · obtain ⟨m, ⟨o, _, _, ho, _⟩, _⟩ := I.loc
    exact free _ o (fun z => (hch _ z).2.1 rfl) ho I.free
  · obtain ⟨v, o, ho, hd⟩ := I.cell x c e
    exact free c o (fun z => (hch c z).2.2.1 x c e rfl) ho (I.freeC x c e)
  · obtain ⟨e, n, ne, nf, d⟩ := I.pin p hp
    have nch : p.1 ∉ ch := fun z => (hch p.1 z).2.2.2 p hp rfl
    exact ⟨keep p.1 p.2 ne nf nch e n, free p.1 p.2 nch e n, ne, nf, d⟩
theorem Inv.un {t' : Nat} (I : Inv X pins σ H s) (u : Un X.fs [] H H' s.heap h') (hok : HOk X.prog X.w H' h') : Inv X pins σ H' { s with heap := h', toks := t' } := by
  obtain ⟨m, ⟨o, es, ep, ho, r⟩, _⟩ := id I.loc
  obtain ⟨sl, hL⟩ := u.any ho I.free (by simp)
  exact I.step (g' := s.gens) (d' := s.drawn) (ch := []) (fun _ z => nomatch z) (fun b o _ hb _ e n => u.keep b o e n hb (by simp)) (fun b o _ hb _ e n => u.slot b o e n hb (by simp)) (fun b o _ e n => u.free b o e n (by simp)) (fun b o _ e => u.there b o e (by simp)) u.tups u.frzs u.tbls (fun m' hm => by
    obtain ⟨o', es', ep', ho', r'⟩ := hm
    rw [ho] at ho'; cases ho'
    exact ⟨_, es', ep', hL, r'⟩) hok I.bare
theorem Inv.call {g' : Array GenState} {t' : Nat} {d' : Drawn} {ch : List Addr} (I : Inv X pins σ H s) (u : Un (frs X.stack) ch H H' s.heap h') (hok : HOk X.prog X.w H' h') (hg : AllBare g')
    (hch : ∀ b ∈ ch, (b ∈ X.ex ∨ X.s₀.heap.objs.size ≤ b) ∧ b ≠ X.env.locals ∧ (∀ x c, X.env.cells.lookup x = some c → c ≠ b) ∧ ∀ p ∈ X.pn ++ pins, p.1 ≠ b) :
    Inv X pins σ H' { s with heap := h', gens := g', drawn := d', toks := t' } := by
  obtain ⟨m, ⟨o, es, ep, ho, r⟩, _⟩ := id I.loc
  obtain ⟨sl, hL⟩ := u.any ho I.free fun z => (hch _ z).2.1 rfl
  exact I.step (ch := ch) hch (fun b o hL hb hc e n => u.keep b o e n (fun z => (List.mem_cons.mp (I.stkSub b z)).elim hL hb) hc) (fun b o _ _ hc e n => u.any e n hc) (fun b o hc e n => u.free b o e n hc) (fun b o hc e => u.there b o e hc) u.tups u.frzs u.tbls (fun m' hm => by
    obtain ⟨o', es', ep', ho', r'⟩ := hm
    rw [ho] at ho'; cases ho'
    exact ⟨_, es', ep', hL, r'⟩) hok hg
theorem Inv.turned {t' : Nat} {it : Addr} (I : Inv X pins σ H s) (k : ∀ b o, b ≠ it → s.heap.get? b = some o → h'.get? b = some o) (hn : H it = none) (hL : it ≠ X.env.locals)
    (h1 : it ∈ X.ex ∨ X.s₀.heap.objs.size ≤ it) (h2 : ∀ x c, X.env.cells.lookup x = some c → c ≠ it) (h3 : ∀ p ∈ X.pn ++ pins, p.1 ≠ it) : Inv X pins σ H { s with heap := h', toks := t' } := by
  have nit : ∀ b u, H b = some u → b ≠ it := fun b u e z => by rw [z, hn] at e; cases e
  refine I.step (g' := s.gens) (d' := s.drawn) (ch := [it]) (fun b hb => ?_) (fun b o _ _ hc e _ => k b o (fun z => hc (by simp [z])) e) (fun b o _ _ hc e _ => ⟨o.slots, k b o (fun z => hc (by simp [z])) e⟩) (fun _ _ _ _ n => n)
    (fun b o hc e => ⟨o, k b o (fun z => hc (by simp [z])) e⟩) (fun _ _ e => e) (fun _ _ _ e => e) (fun b ps e => ⟨#[], by rw [e]; simp⟩) (fun m hm => ?_) (fun b u e => ?_) I.bare
  · have e : b = it := by simpa using hb
    subst e
    exact ⟨h1, hL, h2, h3⟩
  · obtain ⟨o, es, ep, ho, r⟩ := hm
    exact ⟨o, es, ep, k _ o (Ne.symm hL) ho, r⟩
  · refine (I.hok b u e).stay (fun c v hc q => k c v ?_ q) (fun _ q => q) fun _ _ q => q
    rcases hc with z | z
    · rw [z]; exact nit b u e
    · exact nit c _ z
theorem Inv.tok (I : Inv X pins σ H s) (t : Nat) : Inv X pins σ H { s with toks := t } := I.un (h' := s.heap) (t' := t) Un.refl I.hok
theorem Inv.kept {t' : Nat} (I : Inv X pins σ H s) (k : ∀ b u, s.heap.get? b = some u → h'.get? b = some u) : Inv X pins σ H { s with heap := h', toks := t' } := I.un (Un.kept k) (I.hok.kept k)
theorem Inv.laid {a : Addr} {o : HO} {t' : Nat} (I : Inv X pins σ H s) (k : ∀ b u, s.heap.get? b = some u → h'.get? b = some u) (hp : s.heap.objs.size ≤ a) (new : ObjOk X.prog X.w (upd H a o) h' a o) :
    Inv X pins σ (upd H a o) { s with heap := h', toks := t' } := I.un (Un.laid k hp (I.hok.fresh hp)) (I.hok.laid k hp new)
theorem Inv.write {x e : Addr} {o : HO} {t' : Nat} (I : Inv X pins σ H s) (mu : Mut (H x)) (he : e = x ∨ H e = some (.own x)) (k : ∀ b u, b ≠ e → s.heap.get? b = some u → h'.get? b = some u) (heo : ∃ u, h'.get? e = some u)
    (new : ObjOk X.prog X.w (upd H x o) h' x o) : Inv X pins σ (upd H x o) { s with heap := h', toks := t' } := I.un (Un.write mu he k heo) (I.hok.write mu he k heo new)
theorem Inv.weak {σ' : List (Option V)} (I : Inv X pins σ H s) (hl : σ'.length = σ.length) (w : ∀ (i : Nat) v, σ'[i]? = some (some v) → σ[i]? = some (some v)) : Inv X pins σ' H s :=
  ⟨I.ok, I.os, I.bare, I.base, let ⟨m, hn, hl'⟩ := I.loc; ⟨m, hn, fun i x v e1 e2 e3 => hl' i x v e1 (w i v e2) e3⟩, I.cell, I.free, I.freeC, I.pin, I.hok, hl.trans I.len⟩
theorem Inv.pins_of {pins' : List (Addr × Obj)} (I : Inv X pins σ H s) (h : ∀ p ∈ pins', s.heap.get? p.1 = some p.2 ∧ H p.1 = none ∧ p.1 ≠ X.env.locals ∧ p.1 ∉ X.fs ∧ ∀ v, p.2.data ≠ .cell v) : Inv X pins' σ H s :=
  ⟨I.ok, I.os, I.bare, I.base, I.loc, I.cell, I.free, I.freeC, fun p hp => (List.mem_append.mp hp).elim (fun z => I.pin p (List.mem_append_left _ z)) (h p), I.hok, I.len⟩

theorem nodup_ix {N : List Str} (hN : N.Nodup) {i j : Nat} {x : Str} (a : N[i]? = some x) (b : N[j]? = some x) : i = j := by
  obtain ⟨h1, e1⟩ := List.getElem?_eq_some_iff.mp a
  obtain ⟨h2, e2⟩ := List.getElem?_eq_some_iff.mp b
  exact (List.getElem_inj hN).mp (e1.trans e2.symm)

theorem store_ok2 {M : Model} {A : Around} {E : Value → Shared → Prop} {i : Nat} {x : Str} {v : V} {u : Value} {Q : Unit → Shared → Prop} (I : Inv X pins σ H s) (hN : X.N.Nodup) (hi : X.N[i]? = some x) (hx : Loc X.env.scope x) (r : RelV v u)
    (h : ∀ s', Inv X pins (σ.set i (some v)) H s' → (∃ a, Heap.SameBut a s.heap s'.heap ∧ (a = X.env.locals ∨ X.env.cells.lookup x = some a)) → Q () s') (hf : X.fn x = true ∨ X.env.scope.names.lookup x = some .local := by first | exact .inl rfl | exact .inr rfl | assumption) : wpAny M A (storeName X.env x u) Q E s := by
  obtain ⟨m, hn, hl⟩ := id I.loc
  have hcls : (X.env.scope.kind == .class || (X.env.scope.kind == .module && X.env.locals != X.env.globals)) = false := by rw [I.ok.kind]; rfl
  have hiσ : i < σ.length := by rw [I.len]; exact (List.getElem?_eq_some_iff.mp hi).1
  have cne := I.cne
  have tracked : ∀ {a : Addr} {h' : Heap}, (∃ o, s.heap.get? a = some o ∧ H a = none) → Heap.SameBut a s.heap h' → HOk X.prog X.w H h' := fun {a h'} ha hs b ob e => by
    obtain ⟨_, _, hfree⟩ := ha
    refine (I.hok b ob e).stay (fun c w' hc q => (hs.2 c ?_).trans q) (fun _ q => q) fun _ _ q => q
    rintro rfl
    rcases hc with rfl | hc
    · rw [hfree] at e; cases e
    · rw [hfree] at hc; cases hc
  rcases hx with hk | hk
  · refine wpAny_storeName_local hk hn (fun h' hn' hs => ?_) hcls
    obtain ⟨oL, _, _, hoL, _⟩ := id hn
    refine h _ ⟨I.ok, I.os, I.bare, ⟨fun b o e n hb hx => ?_, fun b o e n hb hx => ?_, I.base.free, fun b o e hx => ?_, I.base.tups, I.base.frzs, I.base.tbls⟩, ⟨_, hn', fun j y v' e1 e2 e3 => ?_⟩, fun y c e => ?_, I.free, I.freeC, fun p hp => ?_, tracked ⟨oL, hoL, I.free⟩ hs, by simpa using I.len⟩ ⟨_, hs, .inl rfl⟩
    · exact (hs.2 b (Nat.ne_of_lt (Nat.lt_of_lt_of_le (Heap.lt_size e) I.ok.above))).trans (I.base.keep b o e n hb hx)
    · obtain ⟨sl, e1⟩ := I.base.slot b o e n hb hx
      exact ⟨sl, (hs.2 b (Nat.ne_of_lt (Nat.lt_of_lt_of_le (Heap.lt_size e) I.ok.above))).trans e1⟩
    · obtain ⟨o', e1⟩ := I.base.there b o e hx
      exact ⟨o', (hs.2 b (Nat.ne_of_lt (Nat.lt_of_lt_of_le (Heap.lt_size e) I.ok.above))).trans e1⟩
    · by_cases hj : j = i
      · subst hj
        rw [hi] at e1; cases e1
        rw [List.getElem?_set_self hiσ] at e2
        cases e2
        exact ⟨u, r, .inl ⟨hk, by simp⟩⟩
      · rw [List.getElem?_set_ne (Ne.symm hj)] at e2
        obtain ⟨u', r', q⟩ := hl j y v' e1 e2 e3
        refine ⟨u', r', ?_⟩
        rcases q with ⟨k, e⟩ | ⟨k, c, e, z⟩
        · refine .inl ⟨k, ?_⟩
          have : y ≠ x := fun e => hj (nodup_ix hN e1 (e ▸ hi))
          simp [this, e]
        · exact .inr ⟨k, c, e, z.sameBut hs (cne y c e)⟩
    · obtain ⟨w', z⟩ := I.cell y c e
      exact ⟨w', z.sameBut hs (cne y c e)⟩
    · obtain ⟨e, n, ne, nf, d⟩ := I.pin p hp
      exact ⟨(hs.2 p.1 ne).trans e, n, ne, nf, d⟩
  · have hfn : X.fn x = true := by
      rcases hf with z | z
      · exact z
      · rw [z] at hk; cases hk
    obtain ⟨c, hc⟩ := I.ok.has x (.inl hk)
    obtain ⟨w', z⟩ := I.cell x c hc
    refine wpAny_storeName_cell I.ok.kind hk hc z (fun h' hc' hs => ?_)
    obtain ⟨oc, hoc, hocd⟩ := id z
    refine h { s with heap := h' } ⟨I.ok, I.os, I.bare, ⟨fun b o e n hb hx => ?_, fun b o e n hb hx => ?_, I.base.free, fun b o e hx => ?_, I.base.tups, I.base.frzs, I.base.tbls⟩, ⟨m, hn.sameBut hs (Ne.symm (cne x c hc)), fun j y v' e1 e2 e3 => ?_⟩, fun y c' e => ?_, I.free, I.freeC, fun p hp => ?_, tracked ⟨oc, hoc, I.freeC x c hc⟩ hs, by simpa using I.len⟩ ⟨c, hs, .inr hc⟩
    · exact (hs.2 b (Nat.ne_of_lt (Nat.lt_of_lt_of_le (Heap.lt_size e) (I.ok.cab x c hfn hc)))).trans (I.base.keep b o e n hb hx)
    · obtain ⟨sl, e1⟩ := I.base.slot b o e n hb hx
      exact ⟨sl, (hs.2 b (Nat.ne_of_lt (Nat.lt_of_lt_of_le (Heap.lt_size e) (I.ok.cab x c hfn hc)))).trans e1⟩
    · obtain ⟨o', e1⟩ := I.base.there b o e hx
      exact ⟨o', (hs.2 b (Nat.ne_of_lt (Nat.lt_of_lt_of_le (Heap.lt_size e) (I.ok.cab x c hfn hc)))).trans e1⟩
    · by_cases hj : j = i
      · subst hj
        rw [hi] at e1; cases e1
        rw [List.getElem?_set_self hiσ] at e2
        cases e2
        exact ⟨u, r, .inr ⟨.inl hk, c, hc, hc'⟩⟩
      · rw [List.getElem?_set_ne (Ne.symm hj)] at e2
        obtain ⟨u', r', q⟩ := hl j y v' e1 e2 e3
        refine ⟨u', r', ?_⟩
        rcases q with q | ⟨k, c', e, z'⟩
        · exact .inl q
        · refine .inr ⟨k, c', e, z'.sameBut hs ?_⟩
          rintro rfl
          exact hj (nodup_ix hN e1 (I.ok.inj _ _ _ e hc ▸ hi))
    · by_cases hcc : c' = c
      · subst hcc; exact ⟨_, hc'⟩
      · obtain ⟨w2, z2⟩ := I.cell y c' e
        exact ⟨w2, z2.sameBut hs hcc⟩
    · obtain ⟨e, n, ne, nf, d⟩ := I.pin p hp
      refine ⟨(hs.2 p.1 ?_).trans e, n, ne, nf, d⟩
      intro q
      rw [q, hoc] at e
      have q' : oc = p.2 := Option.some.inj e
      exact d w' (by rw [← q']; exact hocd)
theorem store_ok {M : Model} {A : Around} {E : Value → Shared → Prop} {i : Nat} {x : Str} {v : V} {u : Value} {Q : Unit → Shared → Prop} (I : Inv X pins σ H s) (hN : X.N.Nodup) (hi : X.N[i]? = some x) (hx : Loc X.env.scope x) (r : RelV v u)
    (h : ∀ s', Inv X pins (σ.set i (some v)) H s' → Q () s') (hf : X.fn x = true ∨ X.env.scope.names.lookup x = some .local := by first | exact .inl rfl | exact .inr rfl | assumption) : wpAny M A (storeName X.env x u) Q E s :=
  store_ok2 I hN hi hx r (fun s' I' _ => h s' I') hf
theorem Inv.call' {s' : Shared} {ch : List Addr} (I : Inv X pins σ H s) (ho : s'.os = s.os) (u : Un (frs X.stack) ch H H' s.heap s'.heap) (hok : HOk X.prog X.w H' s'.heap) (hg : AllBare s'.gens)
    (hch : ∀ b ∈ ch, (b ∈ X.ex ∨ X.s₀.heap.objs.size ≤ b) ∧ b ≠ X.env.locals ∧ (∀ x c, X.env.cells.lookup x = some c → c ≠ b) ∧ ∀ p ∈ X.pn ++ pins, p.1 ≠ b) : Inv X pins σ H' s' := by
  obtain ⟨h', g', d', t', o'⟩ := s'
  have e : o' = s.os := ho
  subst e
  exact I.call (g' := g') (t' := t') (d' := d') u hok hg hch
end

noncomputable abbrev XK := Value → Option Addr → Hp → Prop
noncomputable abbrev St := List (Option V)
noncomputable abbrev VK := V → Hp → Prop
noncomputable abbrev TE := St → Hp → VK → Prop
noncomputable abbrev TT := St → Hp → (Bool → Hp → Prop) → Prop
noncomputable abbrev TA := St → Hp → (List V → Hp → Prop) → Prop
structure Ends where
  nx : St → Hp → Prop
  rt : VK
  bk : St → Hp → Prop := fun _ _ => False
  ct : St → Hp → Prop := fun _ _ => False
noncomputable abbrev TS := Ends → St → Hp → Prop

noncomputable def EP (X : Cx) (pins : List (Addr × Obj)) (σ : St) (Q : VK) (u : Value) (s' : Shared) : Prop := ∃ v H', Inv X pins σ H' s' ∧ RelV v u ∧ Q v H'
noncomputable def TP (X : Cx) (pins : List (Addr × Obj)) (σ : St) (Q : Bool → Hp → Prop) (b : Bool) (s' : Shared) : Prop := ∃ H', Inv X pins σ H' s' ∧ Q b H'
noncomputable def AP (X : Cx) (pins : List (Addr × Obj)) (σ : St) (Q : List V → Hp → Prop) (us : List Value) (s' : Shared) : Prop := ∃ vs H', Inv X pins σ H' s' ∧ Vals vs us ∧ Q vs H'
noncomputable def SP (X : Cx) (pins : List (Addr × Obj)) (D : Ends) (f : Flow) (s' : Shared) : Prop :=
  match f with
  | .next => ∃ σ' H', Inv X pins σ' H' s' ∧ D.nx σ' H'
  | .brk => ∃ σ' H', Inv X pins σ' H' s' ∧ D.bk σ' H'
  | .cont => ∃ σ' H', Inv X pins σ' H' s' ∧ D.ct σ' H'
  | .ret u => ∃ v σ' H', Inv X pins σ' H' s' ∧ RelV v u ∧ D.rt v H'

noncomputable def PE (X : Cx) (e : Expr) (t : TE) : Prop :=
  ∀ (pins : List (Addr × Obj)) (s : Shared) (σ : St) (H : Hp) (Q : VK), Inv X pins σ H s → t σ H Q → wpAny (model X.prog X.w) X.A (eval e X.env) (EP X pins σ Q) X.xe s
noncomputable def PT (X : Cx) (e : Expr) (t : TT) : Prop :=
  ∀ (pins : List (Addr × Obj)) (s : Shared) (σ : St) (H : Hp) (Q : Bool → Hp → Prop), Inv X pins σ H s → t σ H Q → wpAny (model X.prog X.w) X.A (isTrue e X.env (eval e X.env)) (TP X pins σ Q) X.xe s
noncomputable def PW (X : Cx) (e : Expr) (t : TT) : Prop :=
  ∀ (whole : Sem Value) (pins : List (Addr × Obj)) (s : Shared) (σ : St) (H : Hp) (Q : Bool → Hp → Prop), Inv X pins σ H s → t σ H Q → wpAny (model X.prog X.w) X.A (isTrue e X.env whole) (TP X pins σ Q) X.xe s
theorem PW.pt {X : Cx} {e : Expr} {t : TT} (h : PW X e t) : PT X e t := h _
noncomputable def PA (X : Cx) (es : List Expr) (t : TA) : Prop :=
  ∀ (pos : Pos) (pins : List (Addr × Obj)) (s : Shared) (σ : St) (H : Hp) (Q : List V → Hp → Prop), Inv X pins σ H s → t σ H Q → wpAny (model X.prog X.w) X.A (spliced (backTo pos (starEach es X.env))) (AP X pins σ Q) X.xe s
noncomputable def PS (X : Cx) (st : Stmt) (t : TS) : Prop :=
  ∀ (pins : List (Addr × Obj)) (s : Shared) (σ : St) (H : Hp) (D : Ends), Inv X pins σ H s → t D σ H → wpAny (model X.prog X.w) X.A (exec st X.env) (SP X pins D) X.xe s
noncomputable def PSs (X : Cx) (st : List Stmt) (t : TS) : Prop :=
  ∀ (pins : List (Addr × Obj)) (s : Shared) (σ : St) (H : Hp) (D : Ends), Inv X pins σ H s → t D σ H → wpAny (model X.prog X.w) X.A (execs st X.env) (SP X pins D) X.xe s
theorem thn {α : Type} {t : Sem α} {Q Q' : α → Shared → Prop} {M : Model} {A : Around} {E : Value → Shared → Prop} {s : Shared} (h : wpAny M A t Q E s) (hQ : ∀ a s, Q a s → Q' a s) : wpAny M A t Q' E s := wpAny_mono h hQ fun _ _ x => x
end L2

namespace L2
open PySem PySem.Spec PyProof.Rows
section
variable {X : Cx}

noncomputable def tVar (i : Nat) : TE := fun σ H Q => ∃ v, σ[i]? = some (some v) ∧ Q v H
noncomputable def tC (v : V) : TE := fun _ H Q => Q v H
theorem pe_var {i : Nat} {x : Str} {pos : Pos} (hN : X.N[i]? = some x) (hv : Vis X.env.scope x) (hd : (x == ("__debug__" : Str)) = false := by decide) (hcd : (x == ("__classdict__" : Str)) = false := by decide) : PE X (.Name x pos) (tVar i) := by
  intro pins s σ H Q I h
  obtain ⟨v, e, h⟩ := h
  obtain ⟨m, hn, hl⟩ := I.loc
  obtain ⟨u, r, l⟩ := hl i x v hN e hv
  have fin : EP X pins σ Q u s := ⟨v, H, I, r, h⟩
  rcases l with ⟨hk, hm⟩ | ⟨hk, c, hc, hcell⟩
  · exact wpAny_Name (wpAny_loadName_local I.ok.kind hk hn hm fin) hd
  · rcases hk with hk | hk
    · exact wpAny_Name (wpAny_loadName_cell I.ok.kind hk hc hcell fin) hd
    · exact wpAny_Name (wpAny_loadName_free I.ok.kind hk hc hcell fin hcd) hd
theorem pe_int {i j pos} : PE X (.Constant (.int i) j pos) (tC (.int i)) := fun _ _ _ H _ I h => wpAny_Constant_int ⟨.int i, H, I.tok _, ⟨_, rfl⟩, h⟩
theorem pe_bl {b j pos} : PE X (.Constant (.bool b) j pos) (tC (.bl b)) := fun _ _ _ H _ I h => Constant_bool ⟨.bl b, H, I, rfl, h⟩
theorem pe_non {j pos} : PE X (.Constant .none j pos) (tC .non) := fun _ _ _ H _ I h => Constant_none ⟨.non, H, I, rfl, h⟩
theorem pe_str {x j pos} : PE X (.Constant (.str x) j pos) (tC (.str x)) := fun _ _ _ H _ I h => Calls.Constant_str ⟨.str x, H, I.tok _, ⟨_, rfl⟩, h⟩

noncomputable def Gl (X : Cx) (x : Str) : Prop := X.env.kindOf x = some .globalImplicit
theorem ld_glob {E : Value → Shared → Prop} {pins : List (Addr × Obj)} {s : Shared} {σ : St} {H : Hp} {x : Str} {u : Value} {pos : Pos} {Q : Value → Shared → Prop} (I : Inv X pins σ H s) (hg : Gl X x) (hm : X.mg x = some u) (h : Q u s)
    (hd : (x == ("__debug__" : Str)) = false := by decide) : wpAny (model X.prog X.w) X.A (eval (.Name x pos) X.env) Q E s :=
  Calls.Name_function_global I.ok.kind hg (Calls.loadGlobal_global (by rw [I.ok.glob]; exact I.mod.glob.keeps I.bk) hm h) hd
theorem ld_blt {E : Value → Shared → Prop} {pins : List (Addr × Obj)} {s : Shared} {σ : St} {H : Hp} {x : Str} {u : Value} {pos : Pos} {Q : Value → Shared → Prop} (I : Inv X pins σ H s) (hg : Gl X x) (hm : X.mg x = none) (hv : bootBuiltins x = some u) (h : Q u s)
    (hn : x ≠ "__name__" := by decide) (hd : (x == ("__debug__" : Str)) = false := by decide) : wpAny (model X.prog X.w) X.A (eval (.Name x pos) X.env) Q E s := by
  obtain ⟨mb, h1, h2⟩ := I.mod.blt
  exact Calls.Name_function_global I.ok.kind hg (Calls.loadGlobal_builtin (by rw [I.ok.glob]; exact I.mod.glob.keeps I.bk) hm (by rw [I.ok.blt]; exact h1.keeps I.bk) ((h2 x hn).trans hv) h) hd
theorem pe_glob {x : Str} {v : V} {u : Value} {pos : Pos} (hg : Gl X x) (hm : X.mg x = some u) (r : RelV v u) (hd : (x == ("__debug__" : Str)) = false := by decide) : PE X (.Name x pos) (tC v) :=
  fun _ _ _ H _ I h => ld_glob I hg hm ⟨v, H, I, r, h⟩ hd
theorem pe_bltn {x : Str} {v : V} {u : Value} {pos : Pos} (hg : Gl X x) (hm : X.mg x = none) (hv : bootBuiltins x = some u) (r : RelV v u) (hn : x ≠ "__name__" := by decide) (hd : (x == ("__debug__" : Str)) = false := by decide) : PE X (.Name x pos) (tC v) :=
  fun _ _ _ H _ I h => ld_blt I hg hm hv ⟨v, H, I, r, h⟩ hn hd

variable {a b : Expr} {ta tb : TE} {pos : Pos}
theorem RelV.none_iff {x : V} {v : Value} (r : RelV x v) : (v == Value.none) = decide (x = .non) := by
  cases x with
  | non => cases r; rfl
  | bl _ => cases r; rfl
  | int _ => obtain ⟨t, rfl⟩ := r; rfl
  | str _ => obtain ⟨t, rfl⟩ := r; rfl
  | byt _ => obtain ⟨t, rfl⟩ := r; rfl
  | flt _ => obtain ⟨t, rfl⟩ := r; rfl
  | ref _ => cases r; rfl
  | ty _ => cases r; rfl
noncomputable def tB (t : TE) : TT := fun σ H Q => t σ H fun x H1 => ∃ c, x = .bl c ∧ Q c H1
theorem pt_val {e : Expr} {t : TE} (h : PE X e t) (he : ∀ whole, isTrue e X.env whole = (do let v ← whole; standAt e.pos; holding [v] (truthy v)) := by intro _; rfl) : PT X e (tB t) := by
  intro pins s σ H Q I hw
  refine isTrue_plain (thn (h pins s σ H _ I hw) fun v s1 ⟨x, H1, I1, r1, q1⟩ => ?_) (he _)
  obtain ⟨d, rfl, q⟩ := q1
  cases r1
  exact wpAny_truthy_bool ⟨H1, I1, q⟩

variable {tA tB' : TT} {rest : List Expr}
noncomputable def tAnd (t u : TT) : TT := fun σ H Q => t σ H fun c H1 => if c = true then u σ H1 Q else Q false H1
noncomputable def tOr (t u : TT) : TT := fun σ H Q => t σ H fun c H1 => if c = true then Q true H1 else u σ H1 Q
noncomputable def tNot (t : TT) : TT := fun σ H Q => t σ H fun c H1 => Q (!c) H1
theorem pw_and1 (ha : PT X a tA) : PW X (.BoolOp .And [a] pos) tA := by
  intro wh pins s σ H Q I h
  refine isTrue_and (thn (ha pins s σ H Q I h) fun c s1 e => ?_)
  cases c with
  | true => exact isTrue_and_nil e
  | false => exact e
theorem pw_or1 (ha : PT X a tA) : PW X (.BoolOp .Or [a] pos) tA := by
  intro wh pins s σ H Q I h
  refine isTrue_or (thn (ha pins s σ H Q I h) fun c s1 e => ?_)
  cases c with
  | false => exact isTrue_or_nil e
  | true => exact e
theorem pw_and (ha : PT X a tA) (hb : PW X (.BoolOp .And (b :: rest) pos) tB') : PW X (.BoolOp .And (a :: b :: rest) pos) (tAnd tA tB') := by
  intro wh pins s σ H Q I h
  refine isTrue_and (thn (ha pins s σ H _ I h) fun c s1 zz => ?_)
  obtain ⟨H1, I1, q1⟩ := zz
  cases c with
  | true => exact hb wh pins s1 σ H1 Q I1 q1
  | false => exact ⟨H1, I1, q1⟩
theorem pw_or (ha : PT X a tA) (hb : PW X (.BoolOp .Or (b :: rest) pos) tB') : PW X (.BoolOp .Or (a :: b :: rest) pos) (tOr tA tB') := by
  intro wh pins s σ H Q I h
  refine isTrue_or (thn (ha pins s σ H _ I h) fun c s1 zz => ?_)
  obtain ⟨H1, I1, q1⟩ := zz
  cases c with
  | true => exact ⟨H1, I1, q1⟩
  | false => exact hb wh pins s1 σ H1 Q I1 q1
theorem pt_not (ha : PT X a tA) : PT X (.UnaryOp .Not a pos) (tNot tA) := by
  intro pins s σ H Q I h
  exact isTrue_not (ha pins s σ H (fun c H1 => Q (!c) H1) I h)
noncomputable def tAndV (ta tb : TE) : TE := fun σ H Q => ta σ H fun x H1 => ∃ c, x = .bl c ∧ if c = true then tb σ H1 Q else Q (.bl false) H1
noncomputable def tOrV (ta tb : TE) : TE := fun σ H Q => ta σ H fun x H1 => ∃ c, x = .bl c ∧ if c = true then Q (.bl true) H1 else tb σ H1 Q
noncomputable def tNotV (ta : TE) : TE := fun σ H Q => ta σ H fun x H1 => ∃ c, x = .bl c ∧ Q (.bl (!c)) H1
theorem pe_one {op} {t : TE} (h : PE X a t) : PE X (.BoolOp op [a] pos) t := fun pins s σ H Q I hw => BoolOp_one (h pins s σ H Q I hw)
theorem pe_and (ha : PE X a ta) (hb : PE X (.BoolOp .And (b :: rest) pos) tb) : PE X (.BoolOp .And (a :: b :: rest) pos) (tAndV ta tb) := by
  intro pins s σ H Q I h
  refine BoolOp_and (thn (ha pins s σ H _ I h) fun v s1 zz => ?_)
  obtain ⟨x, H1, I1, r1, q1⟩ := zz
  obtain ⟨c, rfl, q1⟩ := q1
  cases r1
  refine wpAny_truthy_bool ?_
  cases c with
  | true => exact hb pins s1 σ H1 Q I1 q1
  | false => exact ⟨.bl false, H1, I1, rfl, q1⟩
theorem pe_or (ha : PE X a ta) (hb : PE X (.BoolOp .Or (b :: rest) pos) tb) : PE X (.BoolOp .Or (a :: b :: rest) pos) (tOrV ta tb) := by
  intro pins s σ H Q I h
  refine BoolOp_or (thn (ha pins s σ H _ I h) fun v s1 zz => ?_)
  obtain ⟨x, H1, I1, r1, q1⟩ := zz
  obtain ⟨c, rfl, q1⟩ := q1
  cases r1
  refine wpAny_truthy_bool ?_
  cases c with
  | false => exact hb pins s1 σ H1 Q I1 q1
  | true => exact ⟨.bl true, H1, I1, rfl, q1⟩
theorem pe_not (ha : PE X a ta) : PE X (.UnaryOp .Not a pos) (tNotV ta) := by
  intro pins s σ H Q I h
  refine UnaryOp_ (thn (ha pins s σ H _ I h) fun v s1 zz => ?_)
  obtain ⟨x, H1, I1, r1, q1⟩ := zz
  obtain ⟨c, rfl, q1⟩ := q1
  cases r1
  exact not_of (wpAny_truthy_bool ⟨.bl (!c), H1, I1, rfl, q1⟩)
noncomputable def tIf (t : TT) (ta tb : TE) : TE := fun σ H Q => t σ H fun c H1 => if c = true then ta σ H1 Q else tb σ H1 Q
theorem pe_ifExp {c : Expr} (hc : PT X c tA) (ha : PE X a ta) (hb : PE X b tb) : PE X (.IfExp c a b pos) (tIf tA ta tb) := by
  intro pins s σ H Q I h
  refine wpAny_IfExp (thn (hc pins s σ H _ I h) fun d s1 zz => ?_)
  obtain ⟨H1, I1, q1⟩ := zz
  cases d with
  | true => exact ha pins s1 σ H1 Q I1 q1
  | false => exact hb pins s1 σ H1 Q I1 q1
end
end L2

namespace L2
open PySem PySem.Spec PyProof.Rows

noncomputable def SqL (K : PySem.W.Frag) (H : Hp) (a : Addr) (xs : List V) : Prop :=
  Rd H a (.lst xs) ∨
    ∃ (o : Obj) (its : Array Value) (n : Nat), K.lookup a = some o ∧ o.cls = .type "list" ∧ o.dict = none ∧ o.data = .seq its n ∧ its.size ≤ sizeLine ∧ Vals xs its.toList
noncomputable def SqT (K : PySem.W.Frag) (H : Hp) (a : Addr) (xs : List V) : Prop :=
  Rd H a (.tup xs) ∨
    ∃ (o : Obj) (its : Array Value) (n : Nat), K.lookup a = some o ∧ o.cls = .type "tuple" ∧ o.data = .seq its n ∧ its.size ≤ sizeLine ∧ Vals xs its.toList
noncomputable def absV : Value → Option V
  | .none => some .non
  | .bool b => some (.bl b)
  | .int i _ => some (.int i)
  | .str x _ => some (.str x)
  | .bytes b _ => some (.byt b)
  | .float b _ => some (.flt b)
  | .ref a => some (.ref a)
  | .type n => some (.ty n)
  | _ => none
theorem RelV.abs {x : V} {u : Value} (r : RelV x u) : absV u = some x := by
  cases x with
  | non => cases r; rfl
  | bl _ => cases r; rfl
  | int _ => obtain ⟨t, rfl⟩ := r; rfl
  | str _ => obtain ⟨t, rfl⟩ := r; rfl
  | byt _ => obtain ⟨t, rfl⟩ := r; rfl
  | flt _ => obtain ⟨t, rfl⟩ := r; rfl
  | ref _ => cases r; rfl
  | ty _ => cases r; rfl
theorem RelV.inj {x y : V} {u : Value} (r : RelV x u) (q : RelV y u) : x = y := Option.some.inj (r.abs.symm.trans q.abs)
theorem Vals.inj : ∀ {xs ys : List V} {us : List Value}, Vals xs us → Vals ys us → xs = ys
  | _, _, _, .nil, .nil => rfl
  | _, _, _, .cons r t, .cons r' t' => by rw [r.inj r', Vals.inj t t']
section
variable {X : Cx} {pins : List (Addr × Obj)} {σ : St} {H : Hp} {s : Shared} {a : Addr} {xs ys : List V}
theorem SqL.of {K : PySem.W.Frag} (h : H a = some (.lst xs)) : SqL K H a xs := .inl (.inl h)
theorem SqT.of {K : PySem.W.Frag} (h : H a = some (.tup xs)) : SqT K H a xs := .inl (.inl h)
theorem Inv.list (I : Inv X pins σ H s) (h : SqL X.K H a xs) : ∃ its : List Value, Vals xs its ∧ PlainL s.heap a its.toArray ∧ xs.length ≤ sizeLine := by
  rcases h with h | ⟨o, its, n, hk, hc, hd, hs, hz, r⟩
  · obtain ⟨z, its, n, r, e⟩ := h.ok I.hok
    exact ⟨its, r, ⟨_, n, e, rfl, rfl, rfl⟩, z⟩
  · refine ⟨its.toList, r, ⟨o, n, I.kIn a o hk, hc, hd, by simpa using hs⟩, ?_⟩
    have e := r.length
    simp only [Array.length_toList] at e
    omega
theorem Inv.tuple (I : Inv X pins σ H s) (h : SqT X.K H a xs) : ∃ its : List Value, Vals xs its ∧ IsTup s.heap a its.toArray ∧ xs.length ≤ sizeLine := by
  rcases h with h | ⟨o, its, n, hk, hc, hs, hz, r⟩
  · obtain ⟨z, its, r, p⟩ := h.ok I.hok
    exact ⟨its, r, p, z⟩
  · refine ⟨its.toList, r, ⟨o, I.kIn a o hk, hc, n, by simpa using hs⟩, ?_⟩
    have e := r.length
    simp only [Array.length_toList] at e
    omega
theorem Inv.list_inj (I : Inv X pins σ H s) (h : SqL X.K H a xs) (h' : SqL X.K H a ys) : xs = ys := by
  obtain ⟨its, r, ⟨o, n, e, _, _, d⟩, _⟩ := I.list h
  obtain ⟨its', r', ⟨o', n', e', _, _, d'⟩, _⟩ := I.list h'
  rw [e] at e'; cases e'
  rw [d] at d'
  injection d' with d1 _
  have : its = its' := by simpa using congrArg Array.toList d1
  subst this
  exact r.inj r'
theorem Inv.tuple_inj (I : Inv X pins σ H s) (h : SqT X.K H a xs) (h' : SqT X.K H a ys) : xs = ys := by
  obtain ⟨its, r, ⟨o, e, _, n, d⟩, _⟩ := I.tuple h
  obtain ⟨its', r', ⟨o', e', _, n', d'⟩, _⟩ := I.tuple h'
  rw [e] at e'; cases e'
  rw [d] at d'
  injection d' with d1 _
  have : its = its' := by simpa using congrArg Array.toList d1
  subst this
  exact r.inj r'
end

noncomputable abbrev Cx.wish (X : Cx) (E : Value → Shared → Prop) : Cx := { X with xe := E }
noncomputable abbrev Cx.nox (X : Cx) : Cx := X.wish fun _ _ => False
theorem Cx.Ok.wish {X : Cx} (ok : X.Ok) (E : Value → Shared → Prop) : (X.wish E).Ok :=
  ⟨ok.mod, ok.kind, ok.glob, ok.blt, ok.above, ok.inj, ok.has, ok.cab, ok.hd, ok.frames, ok.stk, ok.exf, ok.bs, ok.bsz, ok.noex, ok.exfs, ok.funs, ok.frf⟩
theorem Cx.Ok.unwish {X : Cx} {E : Value → Shared → Prop} (ok : (X.wish E).Ok) : X.Ok :=
  ⟨ok.mod, ok.kind, ok.glob, ok.blt, ok.above, ok.inj, ok.has, ok.cab, ok.hd, ok.frames, ok.stk, ok.exf, ok.bs, ok.bsz, ok.noex, ok.exfs, ok.funs, ok.frf⟩
section
variable {X : Cx} {pins : List (Addr × Obj)} {σ : St} {H : Hp} {s : Shared} {E : Value → Shared → Prop}
theorem Inv.wish (I : Inv X pins σ H s) (E : Value → Shared → Prop) : Inv (X.wish E) pins σ H s := ⟨I.ok.wish E, I.os, I.bare, I.base, I.loc, I.cell, I.free, I.freeC, I.pin, I.hok, I.len⟩
theorem Inv.unwish (I : Inv (X.wish E) pins σ H s) : Inv X pins σ H s := ⟨I.ok.unwish, I.os, I.bare, I.base, I.loc, I.cell, I.free, I.freeC, I.pin, I.hok, I.len⟩
theorem SP.unwish {D : Ends} {f : Flow} {s' : Shared} (h : SP (X.wish E) pins D f s') : SP X pins D f s' := by
  cases f with
  | next => obtain ⟨σ', H', I, q⟩ := h; exact ⟨σ', H', I.unwish, q⟩
  | brk => obtain ⟨σ', H', I, q⟩ := h; exact ⟨σ', H', I.unwish, q⟩
  | cont => obtain ⟨σ', H', I, q⟩ := h; exact ⟨σ', H', I.unwish, q⟩
  | ret u => obtain ⟨v, σ', H', I, r, q⟩ := h; exact ⟨v, σ', H', I.unwish, r, q⟩
theorem PE.nox {e : Expr} {t : TE} (h : PE X.nox e t) : PE X e t := fun pins s σ H Q I hw =>
  wpAny_mono (h pins s σ H Q (I.wish _) hw) (fun _ _ ⟨v, H', I', r, q⟩ => ⟨v, H', I'.unwish, r, q⟩) fun _ _ z => False.elim z
theorem PT.nox {e : Expr} {t : TT} (h : PT X.nox e t) : PT X e t := fun pins s σ H Q I hw =>
  wpAny_mono (h pins s σ H Q (I.wish _) hw) (fun _ _ ⟨H', I', q⟩ => ⟨H', I'.unwish, q⟩) fun _ _ z => False.elim z
theorem PSs.nox {st : List Stmt} {t : TS} (h : PSs X.nox st t) : PSs X st t := fun pins s σ H D I hw =>
  wpAny_mono (h pins s σ H D (I.wish _) hw) (fun _ _ q => q.unwish) fun _ _ z => False.elim z
end

section
variable {X : Cx} {st : Stmt} {rest : List Stmt} {t u : TS} {e : Expr} {te : TE} {pos : Pos}
noncomputable def tNext : TS := fun D σ H => D.nx σ H
noncomputable def tSeq (t u : TS) : TS := fun D σ H => t { D with nx := u D } σ H
theorem pss_nil : PSs X [] tNext := fun _ _ σ H _ I h => wpAny_execs_nil ⟨σ, H, I, h⟩
theorem pss_cons (h1 : PS X st t) (h2 : PSs X rest u) : PSs X (st :: rest) (tSeq t u) := by
  intro pins s σ H D I h
  refine wpAny_execs_cons (thn (h1 pins s σ H { D with nx := u D } I h) fun f s1 q => ?_)
  cases f with
  | next =>
    obtain ⟨σ', H', I', q⟩ := q
    exact h2 pins s1 σ' H' D I' q
  | ret v => exact q
  | brk => exact q
  | cont => exact q
theorem pss_one (h1 : PS X st t) : PSs X [st] t := by
  intro pins s σ H D I h
  refine wpAny_execs_cons (thn (h1 pins s σ H D I h) fun f s1 q => ?_)
  cases f with
  | next => exact wpAny_execs_nil q
  | ret v => exact q
  | brk => exact q
  | cont => exact q
theorem Inv.quiet {pins : List (Addr × Obj)} {σ : St} {H : Hp} {s : Shared} (I : Inv X pins σ H s) : interactive X.env = false := by simp [interactive, I.ok.kind]
noncomputable def tDrop (te : TE) : TS := fun D σ H => te σ H fun _ H1 => D.nx σ H1
theorem ps_expr (he : PE X e te) (hs : swapsWith e none pos.line X.env = pure false := by rfl) : PS X (.Expr e pos) (tDrop te) := by
  intro pins s σ H D I h
  exact wpAny_Expr_any (thn (he pins s σ H _ I h) fun v s1 ⟨x, H1, I1, r1, q1⟩ => ⟨σ, H1, I1, q1⟩) I.quiet hs
noncomputable def tRet (te : TE) : TS := fun D σ H => te σ H D.rt
theorem ps_ret (he : PE X e te) : PS X (.Return (some e) pos) (tRet te) := by
  intro pins s σ H D I h
  exact wpAny_Return_some (thn (he pins s σ H _ I h) fun v s1 ⟨x, H1, I1, r1, q1⟩ => ⟨x, σ, H1, I1, r1, q1⟩)
noncomputable def tIfS (c : TT) (t u : TS) : TS := fun D σ H => c σ H fun b H1 => if b = true then t D σ H1 else u D σ H1
theorem ps_if {c : Expr} {a b : List Stmt} {tc : TT} (hc : PT X c tc) (ha : PSs X a t) (hb : PSs X b u) : PS X (.If c a b pos) (tIfS tc t u) := by
  intro pins s σ H D I h
  refine wpAny_If (thn (hc pins s σ H _ I h) fun d s1 zz => ?_)
  obtain ⟨H1, I1, q1⟩ := zz
  cases d with
  | true => exact ha pins s1 σ H1 D I1 q1
  | false => exact hb pins s1 σ H1 D I1 q1
noncomputable def tNever : TS := fun _ _ _ => False
theorem ps_never : PS X st tNever := fun _ _ _ _ _ _ h => h.elim
theorem pss_never {sts : List Stmt} : PSs X sts tNever := fun _ _ _ _ _ _ h => h.elim
end

noncomputable abbrev TG := V → St → Hp → (St → Hp → Prop) → Prop
noncomputable abbrev TGs := List V → St → Hp → (St → Hp → Prop) → Prop
noncomputable def PG (X : Cx) (target : Expr) (t : TG) : Prop :=
  ∀ (pins : List (Addr × Obj)) (s : Shared) (σ : St) (H : Hp) (v : V) (u : Value) (Q : St → Hp → Prop), Inv X pins σ H s → RelV v u → t v σ H Q →
    wpAny (model X.prog X.w) X.A (assign target X.env u) (fun _ s' => ∃ σ' H', Inv X pins σ' H' s' ∧ Q σ' H') X.xe s
noncomputable def PGs (X : Cx) (ts : List Expr) (t : TGs) : Prop :=
  ∀ (pins : List (Addr × Obj)) (s : Shared) (σ : St) (H : Hp) (vs : List V) (us : List Value) (Q : St → Hp → Prop), Inv X pins σ H s → Vals vs us → t vs σ H Q →
    wpAny (model X.prog X.w) X.A (assignInOrder ((assignEach ts X.env).map (·.2)) us) (fun _ s' => ∃ σ' H', Inv X pins σ' H' s' ∧ Q σ' H') X.xe s
noncomputable abbrev TSet := V → V → V → Hp → (Hp → Prop) → Prop
noncomputable def PSet (X : Cx) (t : TSet) : Prop :=
  ∀ (pins : List (Addr × Obj)) (s : Shared) (σ : St) (H : Hp) (o i v : V) (ov iv u : Value) (Q : Hp → Prop), Inv X pins σ H s → RelV o ov → RelV i iv → RelV v u → t o i v H Q →
    wpAny (model X.prog X.w) X.A (setItem ov iv u) (fun _ s' => ∃ H', Inv X pins σ H' s' ∧ Q H') X.xe s
section
variable {X : Cx} {pos : Pos}
noncomputable def gName (i : Nat) : TG := fun v σ H Q => Q (σ.set i (some v)) H
theorem pg_name {i : Nat} {x : Str} (hN : X.N.Nodup) (hi : X.N[i]? = some x) (hx : Loc X.env.scope x) (hf : X.fn x = true ∨ X.env.scope.names.lookup x = some .local := by first | exact .inl rfl | exact .inr rfl | assumption) : PG X (.Name x pos) (gName i) := by
  intro pins s σ H v u Q I r h
  exact wpAny_assign_Name (store_ok I hN hi hx r (fun s' I' => ⟨_, H, I', h⟩) hf)
noncomputable def gNil : TGs := fun vs σ H Q => vs = [] ∧ Q σ H
noncomputable def gCons (t : TG) (u : TGs) : TGs := fun vs σ H Q => ∃ v r, vs = v :: r ∧ t v σ H fun σ' H' => u r σ' H' Q
theorem pgs_nil : PGs X [] gNil := by
  intro pins s σ H vs us Q I r h
  obtain ⟨e, h⟩ := h
  subst e
  cases r
  exact assignInOrder_nil ⟨σ, H, I, h⟩
theorem pgs_cons {e : Expr} {es : List Expr} {t : TG} {u : TGs} (h1 : PG X e t) (h2 : PGs X es u)
    (hs : (assignEach (e :: es) X.env).map (·.2) = assign e X.env :: (assignEach es X.env).map (·.2) := by rfl) : PGs X (e :: es) (gCons t u) := by
  intro pins s σ H vs us Q I r h
  obtain ⟨v, vr, e1, h⟩ := h
  subst e1
  cases r with
  | cons r rr =>
    rw [hs]
    refine assignInOrder_cons (thn (h1 pins s σ H _ _ _ I r h) fun _ s1 zz => ?_)
    obtain ⟨σ1, H1, I1, q1⟩ := zz
    exact h2 pins s1 σ1 H1 _ _ Q I1 rr q1
noncomputable def gTup (K : PySem.W.Frag) (n : Nat) (t : TGs) : TG := fun v σ H Q => ∃ a xs, v = .ref a ∧ SqT K H a xs ∧ xs.length = n ∧ t xs σ H Q
theorem pg_tup {es : List Expr} {k : Nat} {t : TGs} {n : Nat} (hc : X.calm = true) (h : PGs X es t)
    (hn : (assignEach es X.env).length = n := by rfl) (hst : (assignEach es X.env).findIdx? (·.1) = none := by rfl) : PG X (.Tuple es k pos) (gTup X.K n t) := by
  intro pins s σ H v u Q I r hw
  obtain ⟨a, xs, e1, hq, hl, hw⟩ := hw
  subst e1
  cases r
  obtain ⟨its, rv, ht, hz⟩ := I.tuple hq
  refine assign_Tuple_tuple (I.ok.hd hc) ht (by simp [hn, ← hl, rv.length]) hst fun h' hx => ?_
  have I1 : Inv X pins σ H { s with heap := h' } := I.kept (t' := s.toks) fun b o e => hx b o (Nat.ne_of_lt (Heap.lt_size e)) e
  exact h pins _ σ H xs _ Q I1 (by simpa using rv) hw
noncomputable def gSub (to ti : TE) (t : TSet) : TG := fun v σ H Q => to σ H fun o H1 => ti σ H1 fun i H2 => t o i v H2 fun H3 => Q σ H3
theorem pg_sub {o i : Expr} {to ti : TE} {t : TSet} (ho : PE X o to) (hi : PE X i ti) (hs : PSet X t)
    (ha : ∀ v, assign (.Subscript o i pos) X.env v = (do
      let ov ← holding [v] (eval o X.env)
      let iv ← holding [v, ov] (eval i X.env)
      standAt pos
      holding [v, ov, iv] (setItem ov iv v)
      release [v, ov, iv] []) := by intro _; rfl) : PG X (.Subscript o i pos) (gSub to ti t) := by
  intro pins s σ H v u Q I r h
  rw [ha]
  refine wpAny_bind (wpAny_holding (thn (ho pins s σ H _ I h) fun ov s1 zz => ?_))
  obtain ⟨x, H1, I1, r1, q1⟩ := zz
  refine wpAny_bind (wpAny_holding (thn (hi pins s1 σ H1 _ I1 q1) fun iv s2 zz => ?_))
  obtain ⟨y, H2, I2, r2, q2⟩ := zz
  refine wpAny_bind (wpAny_standAt (wpAny_bind (wpAny_holding (thn (hs pins s2 σ H2 x y v ov iv u _ I2 r1 r2 r q2) fun _ s3 zz => ?_))))
  obtain ⟨H3, I3, q3⟩ := zz
  exact wpAny_release ⟨σ, H3, I3, q3⟩
noncomputable def tAsg (te : TE) (g : TG) : TS := fun D σ H => te σ H fun x H1 => g x σ H1 D.nx
theorem ps_asg {tg e : Expr} {te : TE} {g : TG} (he : PE X e te) (hg : PG X tg g) (hs : swapsWithSole [tg] e pos.line X.env = pure false := by rfl) (hw : swappedStores [tg] e X.env = pure none := by rfl)
    (h1 : (assignEach [tg] X.env).map (·.2) = [assign tg X.env] := by rfl) : PS X (.Assign [tg] e pos) (tAsg te g) := by
  intro pins s σ H D I h
  refine wpAny_Assign_stores (thn (he pins s σ H _ I h) fun v s1 ⟨x, H1, I1, r1, q1⟩ => ?_) hs hw
  rw [h1]
  exact thn (hg pins s1 σ H1 x v _ I1 r1 q1) fun _ s2 q => q
theorem ps_set {i : Nat} {x : Str} {e : Expr} {te : TE} {pos' : Pos} (hN : X.N.Nodup) (hi : X.N[i]? = some x) (hx : Loc X.env.scope x) (he : PE X e te) (hs : swapsWith e (some (.Name x pos')) pos.line X.env = pure false := by rfl) (hf : X.fn x = true ∨ X.env.scope.names.lookup x = some .local := by first | exact .inl rfl | exact .inr rfl | assumption) :
    PS X (.Assign [.Name x pos'] e pos) (tAsg te (gName i)) := by
  intro pins s σ H D I h
  refine wpAny_Assign_Name (thn (he pins s σ H _ I h) fun v s1 ⟨y, H1, I1, r1, q1⟩ => ?_) hs
  exact store_ok I1 hN hi hx r1 (fun s2 I2 => ⟨_, H1, I2, q1⟩) hf
noncomputable def tPar (i j : Nat) (ta : TA) : TS := fun D σ H => ta σ H fun vs H1 => ∃ v w, vs = [v, w] ∧ D.nx ((σ.set i (some v)).set j (some w)) H1
theorem ps_par {i j : Nat} {x y : Str} {a b : Expr} {ta : TA} {px py pt : Pos} {kt k2 pt2} (hc : X.calm = true) (hN : X.N.Nodup) (hi : X.N[i]? = some x) (hj : X.N[j]? = some y) (hij : i ≠ j)
    (hx : X.env.scope.names.lookup x = some .local) (hy : X.env.scope.names.lookup y = some .local) (ha : PA X [a, b] ta)
    (hw : swappedStores [.Tuple [.Name x px, .Name y py] kt pt] (.Tuple [a, b] k2 pt2) X.env = pure (some [x, y]))
    (hs : swapsWithSole [.Tuple [.Name x px, .Name y py] kt pt] (.Tuple [a, b] k2 pt2) pos.line X.env = pure false := by rfl) :
    PS X (.Assign [.Tuple [.Name x px, .Name y py] kt pt] (.Tuple [a, b] k2 pt2) pos) (tPar i j ta) := by
  intro pins s σ H D I h
  rw [exec_Assign_arm]
  refine wpAny_bind (wpAny_standAt ?_)
  rw [hs]
  refine wpAny_bind (wpAny_pure ?_)
  rw [if_neg (by decide)]
  refine wpAny_bind (Tuple_ (thn (ha _ pins s σ H _ I h) fun us s1 zz => ?_))
  obtain ⟨vs, H1, I1, r1, q1⟩ := zz
  obtain ⟨v, w, e1, q1⟩ := q1
  subst e1
  obtain ⟨u1, u2, rfl, rv, rw'⟩ : ∃ u1 u2, us = [u1, u2] ∧ RelV v u1 ∧ RelV w u2 := by
    cases r1 with
    | cons p q =>
      cases q with
      | cons p' q' =>
        cases q'
        exact ⟨_, _, rfl, p, p'⟩
  refine wpAny_newObj_type ?_ (by show 2 ≤ sizeLine; decide)
  have I2 : Inv X pins σ H1 { s1 with heap := s1.heap.push { cls := .type "tuple", data := .seq [u1, u2].toArray } } := I1.kept (t' := s1.toks) fun b o e => Heap.get?_push_of_some _ e
  rw [hw]
  refine wpAny_bind (wpAny_pure ?_)
  show wpAny (model X.prog X.w) X.A (do rule "assign.swapped-stores"; let items ← unpackItems (.ref s1.heap.objs.size) 2 none; assignInOrder [fun v => bindName X.env y v, fun v => bindName X.env x v] items.reverse; pure Flow.next) _ _ _
  refine wpAny_bind (wpAny_rule (wpAny_bind (unpackItems_tuple (items := #[u1, u2]) (I.ok.hd hc) (IsTup.new s1.heap _) fun h' hx' => ?_)))
  have I3 := I2.kept (h' := h') (t' := s1.toks) fun b o e => hx' b o (Nat.ne_of_lt (Heap.lt_size e)) e
  show wpAny _ _ (assignInOrder [fun v => bindName X.env y v, fun v => bindName X.env x v] [u2, u1] >>= fun _ => pure Flow.next) _ _ _
  refine wpAny_bind (assignInOrder_cons (wpAny_bindName (store_ok I3 hN hj (.inl hy) rw' (fun s2 I4 => ?_) (.inr hy))))
  refine assignInOrder_cons (wpAny_bindName (store_ok I4 hN hi (.inl hx) rv (fun s3 I5 => assignInOrder_nil (wpAny_pure ?_)) (.inr hx)))
  rw [List.set_comm _ _ (Ne.symm hij)] at I5
  exact ⟨_, H1, I5, q1⟩
end

section
variable {X : Cx} {pos : Pos}
noncomputable def tWhile (c : TT) (tb : TS) : TS := fun D σ H => ∃ W : Nat → St → Hp → Prop, (∃ m, W m σ H) ∧ ∀ m σ H, W m σ H →
  c σ H fun b H1 => if b = true then ∃ N : St → Hp → Prop, (∀ σ' H', N σ' H' → ∃ m', m' < m ∧ W m' σ' H') ∧ tb { D with nx := N, ct := N, bk := D.nx } σ H1 else D.nx σ H1
theorem ps_while {c : Expr} {body : List Stmt} {tc : TT} {tb : TS} (hp : PassesOwn (model X.prog X.w) X.A X.env X.xe) (hc : PT X c tc) (hb : PSs X body tb) : PS X (.While c body [] pos) (tWhile tc tb) := by
  intro pins s σ H D I h
  obtain ⟨W, ⟨m0, w0⟩, turn⟩ := h
  refine wpAny_While (codeAny_whileLoop (fun n s' => ∃ σ' H', Inv X pins σ' H' s' ∧ W n σ' H') ?_ m0 ⟨σ, H, I, w0⟩)
  rintro n s1 ⟨σ1, H1, I1, w1⟩
  refine wpAny_passesOwn hp (thn (hc pins s1 σ1 H1 _ I1 (turn n σ1 H1 w1)) fun b s2 zz => ?_)
  obtain ⟨H2, I2, q2⟩ := zz
  cases b with
  | true =>
    obtain ⟨N, hN, q2⟩ := q2
    rw [if_pos rfl]
    refine wpAny_passesOwn hp (thn (hb pins s2 σ1 H2 _ I2 q2) fun f s3 q3 => ?_)
    cases f with
    | next =>
      obtain ⟨σ3, H3, I3, n3⟩ := q3
      obtain ⟨m', hm, w3⟩ := hN σ3 H3 n3
      exact ⟨m', hm, σ3, H3, I3, w3⟩
    | cont =>
      obtain ⟨σ3, H3, I3, n3⟩ := q3
      obtain ⟨m', hm, w3⟩ := hN σ3 H3 n3
      exact ⟨m', hm, σ3, H3, I3, w3⟩
    | brk => exact q3
    | ret v => exact q3
  | false =>
    rw [if_neg Bool.false_ne_true]
    exact wpAny_execs_nil ⟨σ1, H2, I2, q2⟩
end

structure It where
  go : Nat → Hp → Prop
  yld : Nat → Hp → V → Hp → Prop
  stop : Nat → Hp → Prop
noncomputable def FpOk (X : Cx) (pins : List (Addr × Obj)) (H : Hp) (b : Addr) : Prop :=
  H b = none ∧ b ≠ X.env.locals ∧ b ∉ X.fs ∧ (b ∈ X.ex ∨ X.s₀.heap.objs.size ≤ b) ∧ (∀ x c, X.env.cells.lookup x = some c → c ≠ b) ∧ ∀ p ∈ X.pn ++ pins, p.1 ≠ b
theorem Inv.fpOk {X : Cx} {pins : List (Addr × Obj)} {σ : St} {H H' : Hp} {s : Shared} {b : Addr} (I : Inv X pins σ H s) (hb : s.heap.objs.size ≤ b) (hn : H' b = none) : FpOk X pins H' b := by
  refine ⟨hn, Nat.ne_of_gt (Nat.lt_of_lt_of_le I.lt hb), I.nofs hb, .inr (Nat.le_trans I.sz hb), fun x c e z => ?_, fun p hp z => ?_⟩
  · obtain ⟨v, q⟩ := I.cell x c e
    exact absurd (Nat.lt_of_lt_of_le q.lt (by rw [z]; exact hb)) (Nat.lt_irrefl _)
  · exact absurd (Nat.lt_of_lt_of_le (Heap.lt_size (I.pin p hp).1) (by rw [z]; exact hb)) (Nat.lt_irrefl _)
structure Turn (P : Program) (w : World) (K : PySem.W.Frag) (tg : Expr) (J : It) (fp : List Addr) (it : Addr) (tn : Nat → Heap → Prop) : Prop where
  mem : it ∈ fp
  obj : ∀ i h, tn i h → ∀ b ∈ fp, ∃ o, h.get? b = some o ∧ ∀ v, o.data ≠ .cell v
  keep : ∀ i h h', tn i h → (∀ b ∈ fp, ∀ o, h.get? b = some o → h'.get? b = some o) → tn i h'
  item : ∀ (X : Cx), X.prog = P → X.w = w → X.K = K → X.calm = true → ∀ (i : Nat) (pins : List (Addr × Obj)) (s : Shared) (σ : St) (H : Hp) (E : Value → Shared → Prop), Inv X pins σ H s → (∀ b ∈ fp, FpOk X pins H b) → tn i s.heap → J.go i H →
    wpAny (model P w) X.A (pyNext (.ref it)) (fun r s1 => ∃ u, r = some u ∧
      wpAny (model P w) X.A (letOwnedTupleGo tg (.ref it) u) (fun _ s2 => ∃ x H', Inv X pins σ H' s2 ∧ RelV x u ∧ J.yld i H x H' ∧ tn (i + 1) s2.heap ∧ ∀ b ∈ fp, H' b = none) E s1) E s
  done : ∀ (X : Cx), X.prog = P → X.w = w → X.K = K → X.calm = true → ∀ (i : Nat) (pins : List (Addr × Obj)) (s : Shared) (σ : St) (H : Hp) (E : Value → Shared → Prop), Inv X pins σ H s → (∀ b ∈ fp, FpOk X pins H b) → tn i s.heap → J.stop i H →
    wpAny (model P w) X.A (pyNext (.ref it)) (fun r s1 => r = none ∧ Inv X pins σ H s1) E s
  self : ∀ (A : Around) (i : Nat) (s : Shared) (Q : Value → Shared → Prop) (E : Value → Shared → Prop), tn i s.heap → Q (.ref it) s → wpAny (model P w) A (pyIter (.ref it)) Q E s
noncomputable abbrev TI := St → Hp → (It → Hp → Prop) → Prop
noncomputable def PIE (X : Cx) (pins : List (Addr × Obj)) (σ : St) (tg : Expr) (R : It → Hp → Prop) (itv : Value) (s2 : Shared) : Prop :=
  ∃ (it : Addr) (fp : List Addr) (tn : Nat → Heap → Prop) (J : It) (H' : Hp), itv = .ref it ∧ Inv X pins σ H' s2 ∧ Turn X.prog X.w X.K tg J fp it tn ∧ tn 0 s2.heap ∧ (∀ b ∈ fp, FpOk X pins H' b) ∧ R J H'
noncomputable def PI (X : Cx) (tg iter : Expr) (wi : TI) : Prop :=
  ∀ (pins : List (Addr × Obj)) (s : Shared) (σ : St) (H : Hp) (R : It → Hp → Prop), Inv X pins σ H s → wi σ H R →
    wpAny (model X.prog X.w) X.A (eval iter X.env) (fun v s1 => wpAny (model X.prog X.w) X.A (pyIter v) (PIE X pins σ tg R) X.xe s1) X.xe s

theorem go_of {M : Model} {A : Around} {E : Value → Shared → Prop} {s : Shared} {tg : Expr} {it : Addr} {u : Value} {o : Obj} {n : String} {vs : Array Value} {Q : Unit → Shared → Prop} (ho : s.heap.get? it = some o) (hc : o.cls = .type n) (hd : o.data = .fields vs)
    (hn : ["enumerate", "zip", "dict_itemiterator", "dict_reverseitemiterator", "odict_iterator", "itertools.zip_longest", "itertools.pairwise"].contains n = false) (hQ : Q () s) : wpAny M A (letOwnedTupleGo tg (.ref it) u) Q E s := by
  unfold letOwnedTupleGo
  cases tg <;> first
    | exact wpAny_pure hQ
    | (cases u <;> first
        | exact wpAny_pure hQ
        | (refine wpAny_bind (wpAny_load ho ?_)
           rw [hc, hd]
           show wpAny M A (if (["enumerate", "zip", "dict_itemiterator", "dict_reverseitemiterator", "odict_iterator", "itertools.zip_longest", "itertools.pairwise"].contains n && vs[0]? == some (rawInt _)) = true then _ else _) Q E s
           rw [if_neg (by intro h; rw [hn, Bool.false_and] at h; cases h)]
           exact wpAny_pure hQ))

noncomputable def Itl (K : PySem.W.Frag) (a : Addr) : It :=
  ⟨fun i H => ∃ xs x, SqL K H a xs ∧ xs[i]? = some x, fun i H x H' => H' = H ∧ ∀ xs, SqL K H a xs → xs[i]? = some x, fun i H => ∃ xs, SqL K H a xs ∧ xs.length ≤ i⟩
noncomputable def Itt (K : PySem.W.Frag) (a : Addr) : It :=
  ⟨fun i H => ∃ xs x, SqT K H a xs ∧ xs[i]? = some x, fun i H x H' => H' = H ∧ ∀ xs, SqT K H a xs → xs[i]? = some x, fun i H => ∃ xs, SqT K H a xs ∧ xs.length ≤ i⟩
noncomputable def Itr (lo : Int) (n : Nat) : It := ⟨fun i _ => i < n, fun i H x H' => H' = H ∧ x = .int (lo + i), fun i _ => n ≤ i⟩
theorem turn_list {P : Program} {w : World} {K : PySem.W.Frag} {tg : Expr} (a it : Addr) : Turn P w K tg (Itl K a) [it] it (fun i h => h.IsListIter it a i) where
  mem := by simp
  obj := fun i h st b hb => by
    have e : b = it := by simpa using hb
    subst e
    obtain ⟨o, e, c, d⟩ := st
    exact ⟨o, e, fun v z => by rw [d] at z; cases z⟩
  keep := fun i h h' st k => st.at fun o e => k it (by simp) o e
  item := by
    intro X hP hw hK hc i pins s σ H E I hf st hg
    subst hP hw hK
    obtain ⟨xs, x, hq, hx⟩ := hg
    obtain ⟨its, rv, p, hz⟩ := I.list hq
    obtain ⟨u, hu, ru⟩ := rv.get hx
    obtain ⟨f0, f1, f2, f3, f4, f5⟩ := hf it (by simp)
    refine wpAny_pyNext_list_item st p.isList (x := u) (by simpa using hu) fun h' st' sb => ?_
    have I1 : Inv X pins σ H { s with heap := h' } := I.turned (t' := s.toks) (fun b o hb e => (sb.2 b hb).trans e) f0 f1 f3 f4 f5
    obtain ⟨o, e, c, d⟩ := id st'
    exact ⟨u, rfl, go_of (s := { s with heap := h' }) e c d (by decide) ⟨x, H, I1, ru, ⟨rfl, fun ys hy => by rw [I.list_inj hy hq]; exact hx⟩, st', fun b hb => (hf b hb).1⟩⟩
  done := by
    intro X hP hw hK hc i pins s σ H E I hf st hg
    subst hP hw hK
    obtain ⟨xs, hq, hx⟩ := hg
    obtain ⟨its, rv, p, hz⟩ := I.list hq
    obtain ⟨f0, f1, f2, f3, f4, f5⟩ := hf it (by simp)
    have hl := rv.length
    exact wpAny_pyNext_list_end (I.ok.hd hc) st p.isList (by simp; omega) fun h' eb => ⟨rfl, I.turned (t' := s.toks) (fun b o hb e => eb b o hb e) f0 f1 f3 f4 f5⟩
  self := fun _ _ _ _ _ st h => wpAny_pyIter_listiter st h
theorem turn_tuple {P : Program} {w : World} {K : PySem.W.Frag} {tg : Expr} (a it : Addr) : Turn P w K tg (Itt K a) [it] it (fun i h => h.IsTupleIter it a i) where
  mem := by simp
  obj := fun i h st b hb => by
    have e : b = it := by simpa using hb
    subst e
    obtain ⟨o, e, c, d⟩ := st
    exact ⟨o, e, fun v z => by rw [d] at z; cases z⟩
  keep := fun i h h' st k => st.at fun o e => k it (by simp) o e
  item := by
    intro X hP hw hK hc i pins s σ H E I hf st hg
    subst hP hw hK
    obtain ⟨xs, x, hq, hx⟩ := hg
    obtain ⟨its, rv, p, hz⟩ := I.tuple hq
    obtain ⟨u, hu, ru⟩ := rv.get hx
    obtain ⟨f0, f1, f2, f3, f4, f5⟩ := hf it (by simp)
    refine wpAny_pyNext_tuple_item st (show s.heap.IsTuple a its.toArray from p) (x := u) (by simpa using hu) fun h' st' sb => ?_
    have I1 : Inv X pins σ H { s with heap := h' } := I.turned (t' := s.toks) (fun b o hb e => (sb.2 b hb).trans e) f0 f1 f3 f4 f5
    obtain ⟨o, e, c, d⟩ := id st'
    exact ⟨u, rfl, go_of (s := { s with heap := h' }) e c d (by decide) ⟨x, H, I1, ru, ⟨rfl, fun ys hy => by rw [I.tuple_inj hy hq]; exact hx⟩, st', fun b hb => (hf b hb).1⟩⟩
  done := by
    intro X hP hw hK hc i pins s σ H E I hf st hg
    subst hP hw hK
    obtain ⟨xs, hq, hx⟩ := hg
    obtain ⟨its, rv, p, hz⟩ := I.tuple hq
    obtain ⟨f0, f1, f2, f3, f4, f5⟩ := hf it (by simp)
    have hl := rv.length
    exact wpAny_pyNext_tuple_end (I.ok.hd hc) st (show s.heap.IsTuple a its.toArray from p) (by simp; omega) fun h' eb => ⟨rfl, I.turned (t' := s.toks) (fun b o hb e => eb b o hb e) f0 f1 f3 f4 f5⟩
  self := fun _ _ _ _ _ st h => wpAny_pyIter_tupleiter st h
theorem turn_range {P : Program} {w : World} {K : PySem.W.Frag} {tg : Expr} (it : Addr) (lo : Int) (n : Nat) : Turn P w K tg (Itr lo n) [it] it (fun i h => IsRangeIter h it (lo + (i : Nat) * 1) ((n : Int) - (i : Nat)) 1) where
  mem := by simp
  obj := fun i h st b hb => by
    have e : b = it := by simpa using hb
    subst e
    exact ⟨_, st, fun v z => by
      have z' : Data.fields _ = Data.cell v := z
      cases z'⟩
  keep := fun i h h' st k => k it (by simp) _ st
  item := by
    intro X hP hw hK hc i pins s σ H E I hf st hg
    subst hP hw hK
    obtain ⟨f0, f1, f2, f3, f4, f5⟩ := hf it (by simp)
    have W := Walks.range (prog := X.prog) (w := X.w) (I.ok.hd hc) it lo 1 n
    refine W.item i s _ _ hg st fun v h' tk hv st' kk => ?_
    obtain ⟨t, rfl⟩ := hv
    have I1 : Inv X pins σ H { s with heap := h', toks := tk } := I.turned (fun b o hb e => kk b o (by simpa using hb) e) f0 f1 f3 f4 f5
    refine ⟨_, rfl, go_of (s := { s with heap := h', toks := tk }) (n := "range_iterator") st' rfl rfl (by decide) ⟨.int (lo + i), H, I1, ⟨t, ?_⟩, ⟨rfl, rfl⟩, st', fun b hb => (hf b hb).1⟩⟩
    rw [Int.mul_one]
  done := by
    intro X hP hw hK hc i pins s σ H E I hf st hg
    subst hP hw hK
    obtain ⟨f0, f1, f2, f3, f4, f5⟩ := hf it (by simp)
    exact wpAny_pyNext_range_end (I.ok.hd hc) st (by have : n ≤ i := hg; omega) fun h' eb => ⟨rfl, I.turned (t' := s.toks) (fun b o hb e => eb b o hb e) f0 f1 f3 f4 f5⟩
  self := fun _ _ _ _ _ st h => wpAny_pyIter_rangeiter st h
end L2

namespace L2
open PySem PySem.Spec PyProof.Rows
section
variable {X : Cx} {tg : Expr}
theorem range_it {pins : List (Addr × Obj)} {σ : St} {H : Hp} {s : Shared} {R : It → Hp → Prop} {E : Value → Shared → Prop} {lo hi : Int} {t u v : Tok} {tk : Nat} (I : Inv X pins σ H s) (h1 : -(2 ^ 62) ≤ lo) (h2 : lo < 2 ^ 62) (h3 : -(2 ^ 62) ≤ hi) (h4 : hi < 2 ^ 62)
    (q : R (Itr lo (hi - lo).toNat) H) : wpAny (model X.prog X.w) X.A (pyIter (.ref s.heap.objs.size)) (PIE X pins σ tg R) E { s with heap := s.heap.push { cls := .type "range", data := .fields #[.int lo t, .int hi u, .int 1 v] }, toks := tk } := by
  refine wpAny_pyIter_range (IsRange.new ..) (small_one h1 h2 h3 h4) ?_
  have I1 : Inv X pins σ H { s with heap := s.heap.push { cls := .type "range", data := .fields #[.int lo t, .int hi u, .int 1 v] }, toks := tk } := I.kept fun b o e => Heap.get?_push_of_some _ e
  refine ⟨(s.heap.push { cls := .type "range", data := .fields #[.int lo t, .int hi u, .int 1 v] }).objs.size, [(s.heap.push { cls := .type "range", data := .fields #[.int lo t, .int hi u, .int 1 v] }).objs.size], _, _, H, rfl,
    I1.kept (t' := tk) fun b o e => Heap.get?_push_of_some _ e, turn_range _ lo (hi - lo).toNat, ?_, fun b hb => ?_, q⟩
  · have e1 : lo + ((0 : Nat) : Int) * 1 = lo := by simp
    have e2 : (((hi - lo).toNat : Nat) : Int) - ((0 : Nat) : Int) = Builtin.Range.rangeSize lo hi 1 := by rw [rangeSize_one]; split <;> omega
    show IsRangeIter _ _ (lo + ((0 : Nat) : Int) * 1) ((((hi - lo).toNat : Nat) : Int) - ((0 : Nat) : Int)) 1
    rw [e1, e2]
    exact Heap.get?_push_size _ rfl
  · have e : b = (s.heap.push { cls := .type "range", data := .fields #[.int lo t, .int hi u, .int 1 v] }).objs.size := by simpa using hb
    subst e
    exact I1.fpOk (Nat.le_refl _) (I1.hok.fresh (Nat.le_refl _))
noncomputable def iRng1 (ta : TA) : TI := fun σ H R => ta σ H fun vs H1 => ∃ j : Int, vs = [.int j] ∧ -(2 ^ 62) ≤ j ∧ j < 2 ^ 62 ∧ R (Itr 0 j.toNat) H1
theorem pi_range1 {a : Expr} {ta : TA} {p pos : Pos} (hg : Gl X "range") (hm : X.mg "range" = none) (ha : PA X [a] ta) (hs : starEach [a] X.env = [(false, eval a X.env)] := by rfl) : PI X tg (.Call (.Name "range" p) [a] [] pos) (iRng1 ta) := by
  intro pins s σ H R I h
  refine Call_ (ld_blt I hg hm boot_range (PyProof.Rows.callWith_type1 (thn (ha pos pins s σ H _ I h) fun us s1 ⟨vs, H1, I1, r1, q1⟩ => ?_) hs rfl))
  obtain ⟨j, e, q1, q2, q⟩ := q1
  subst e
  cases r1 with
  | cons r rr =>
    cases rr
    obtain ⟨t, rfl⟩ := r
    exact call_range_1 (range_it I1 (by omega) (by omega) q1 q2 (by simpa using q))
noncomputable def tFor (wi : TI) (g : TG) (tb : TS) : TS := fun D σ H => wi σ H fun J H1 => ∃ W : Nat → Nat → St → Hp → Prop, (∃ m, W 0 m σ H1) ∧ ∀ i m σ H, W i m σ H →
  (J.stop i H ∧ D.nx σ H) ∨ (J.go i H ∧ ∃ N : St → Hp → Prop, (∀ σ' H', N σ' H' → ∃ m', m' < m ∧ W (i + 1) m' σ' H') ∧ ∀ x H', J.yld i H x H' → g x σ H' fun σ2 H2 => tb { D with nx := N, ct := N, bk := D.nx } σ2 H2)
noncomputable def pinsAt (fp : List Addr) (h : Heap) : List (Addr × Obj) := fp.filterMap fun b => (h.get? b).map fun o => (b, o)
theorem mem_pinsAt {fp : List Addr} {h : Heap} {b : Addr} {o : Obj} (hb : b ∈ fp) (e : h.get? b = some o) : (b, o) ∈ pinsAt fp h := List.mem_filterMap.mpr ⟨b, hb, by rw [e]; rfl⟩
theorem of_pinsAt {fp : List Addr} {h : Heap} {p : Addr × Obj} (hp : p ∈ pinsAt fp h) : p.1 ∈ fp ∧ h.get? p.1 = some p.2 := by
  obtain ⟨b, hb, e⟩ := List.mem_filterMap.mp hp
  cases q : h.get? b with
  | none => rw [q] at e; cases e
  | some o =>
    rw [q] at e
    have e' : (b, o) = p := Option.some.inj e
    subst e'
    exact ⟨hb, q⟩
theorem Inv.pinned {pins : List (Addr × Obj)} {σ : St} {H : Hp} {s : Shared} {fp : List Addr} (I : Inv X pins σ H s) (hf : ∀ b ∈ fp, FpOk X pins H b) (ho : ∀ b ∈ fp, ∃ o, s.heap.get? b = some o ∧ ∀ v, o.data ≠ .cell v) : Inv X (pins ++ pinsAt fp s.heap) σ H s :=
  I.pins_of fun p hp => (List.mem_append.mp hp).elim (fun z => I.pin p (List.mem_append_right _ z)) fun z => by
    obtain ⟨hb, e⟩ := of_pinsAt z
    obtain ⟨f0, f1, f2, _⟩ := hf p.1 hb
    obtain ⟨o, e', d⟩ := ho p.1 hb
    rw [e] at e'; cases e'
    exact ⟨e, f0, f1, f2, d⟩
theorem Inv.unpinned {pins pl : List (Addr × Obj)} {σ : St} {H : Hp} {s : Shared} (I : Inv X (pins ++ pl) σ H s) : Inv X pins σ H s := I.pins_of fun p hp => I.pin p (List.mem_append_right _ (List.mem_append_left _ hp))
theorem ps_for {iter : Expr} {body : List Stmt} {wi : TI} {g : TG} {tb : TS} {pos : Pos} (hp : PassesOwn (model X.prog X.w) X.A X.env X.xe) (hc : X.calm = true) (hi : PI X tg iter wi) (hg : PG X tg g) (hb : PSs X body tb)
    (hs : ∀ x, foldedSetIterable iter X.env x = pure x := by intro _; rfl) : PS X (.For tg iter body [] pos) (tFor wi g tb) := by
  intro pins s σ H D I h
  refine wpAny_For (thn (hi pins s σ H _ I h) fun v s1 h1 => thn h1 fun itv s2 h2 => ?_) hs
  obtain ⟨it, fp, tn, J, H2, e, I2, T, st2, f2, W, ⟨m0, w0⟩, turn⟩ := h2
  subst e
  -- what stays true of the iterator's objects through the loop
  have stat : ∀ {H' : Hp}, (∀ b ∈ fp, H' b = none) → ∀ b ∈ fp, FpOk X pins H' b := fun hn b hb => ⟨hn b hb, (f2 b hb).2⟩
  refine codeAny_forLoop_any (fun n s' => ∃ i σ' H', Inv X pins σ' H' s' ∧ tn i s'.heap ∧ (∀ b ∈ fp, H' b = none) ∧ W i n σ' H') ?_ m0 ⟨0, σ, H2, I2, st2, fun b hb => (f2 b hb).1, w0⟩
  rintro n s3 ⟨i, σ3, H3, I3, st3, fr3, w3⟩
  rcases turn i n σ3 H3 w3 with ⟨stop, qn⟩ | ⟨go, N, hN, step⟩
  · refine wpAny_passesOwn hp (thn (T.done X rfl rfl rfl hc i pins s3 σ3 H3 X.xe I3 (stat fr3) st3 stop) fun r s4 zz => ?_)
    obtain ⟨hr, I4⟩ := zz
    subst hr
    exact wpAny_execs_nil ⟨σ3, H3, I4, qn⟩
  · refine wpAny_passesOwn hp (thn (T.item X rfl rfl rfl hc i pins s3 σ3 H3 X.xe I3 (stat fr3) st3 go) fun r s4 zz => ?_)
    obtain ⟨u, hr, h4⟩ := zz
    subst hr
    refine wpAny_passesOwn hp (thn h4 fun _ s5 zz => ?_)
    obtain ⟨x, H5, I5, r5, y5, st5, fr5⟩ := zz
    have I5' := I5.pinned (stat fr5) (T.obj _ _ st5)
    refine wpAny_passesOwn hp (thn (hg _ s5 σ3 H5 x u _ I5' r5 (step x H5 y5)) fun _ s6 zz => ?_)
    obtain ⟨σ6, H6, I6, q6⟩ := zz
    refine wpAny_passesOwn hp (thn (hb _ s6 σ6 H6 _ I6 q6) fun f s7 q7 => ?_)
    have again : ∀ {σ7 : St} {H7 : Hp}, Inv X (pins ++ pinsAt fp s5.heap) σ7 H7 s7 → N σ7 H7 → ∃ m, m < n ∧ ∃ i σ' H', Inv X pins σ' H' s7 ∧ tn i s7.heap ∧ (∀ b ∈ fp, H' b = none) ∧ W i m σ' H' := fun {σ7 H7} I7 n7 => by
      obtain ⟨m', hm, w7⟩ := hN σ7 H7 n7
      refine ⟨m', hm, i + 1, σ7, H7, I7.unpinned, T.keep _ _ _ st5 fun b hb o e => (I7.pin (b, o) (List.mem_append_right _ (List.mem_append_right _ (mem_pinsAt hb e)))).1, fun b hb => ?_, w7⟩
      obtain ⟨o, e, d⟩ := T.obj _ _ st5 b hb
      exact (I7.pin (b, o) (List.mem_append_right _ (List.mem_append_right _ (mem_pinsAt hb e)))).2.1
    cases f with
    | next => obtain ⟨σ7, H7, I7, n7⟩ := q7; exact again I7 n7
    | cont => obtain ⟨σ7, H7, I7, n7⟩ := q7; exact again I7 n7
    | brk => obtain ⟨σ7, H7, I7, q7⟩ := q7; exact ⟨σ7, H7, I7.unpinned, q7⟩
    | ret v => obtain ⟨x7, σ7, H7, I7, r7, q7⟩ := q7; exact ⟨x7, σ7, H7, I7.unpinned, r7, q7⟩
end

end L2

namespace L2
open PySem PySem.Spec PyProof.Rows

noncomputable abbrev R2 := V → V → Hp → VK → Prop
noncomputable def OpR (X : Cx) (f : Value → Value → Sem Value) (r : R2) : Prop :=
  ∀ (pins : List (Addr × Obj)) (s : Shared) (σ : St) (H : Hp) (x y : V) (v u : Value) (Q : VK), Inv X pins σ H s → RelV x v → RelV y u → r x y H Q →
    wpAny (model X.prog X.w) X.A (f v u) (EP X pins σ Q) X.xe s
noncomputable def UnR (X : Cx) (f : Value → Sem Value) (r : V → Hp → VK → Prop) : Prop :=
  ∀ (pins : List (Addr × Obj)) (s : Shared) (σ : St) (H : Hp) (x : V) (v : Value) (Q : VK), Inv X pins σ H s → RelV x v → r x H Q →
    wpAny (model X.prog X.w) X.A (f v) (EP X pins σ Q) X.xe s
noncomputable def CallR (X : Cx) (f : Value) (r : List V → Hp → VK → Prop) : Prop :=
  ∀ (pins : List (Addr × Obj)) (s : Shared) (σ : St) (H : Hp) (xs : List V) (us : List Value) (Q : VK), Inv X pins σ H s → Vals xs us → r xs H Q →
    wpAny (model X.prog X.w) X.A (call f us) (EP X pins σ Q) X.xe s
noncomputable def tOp (r : R2) (ta tb : TE) : TE := fun σ H Q => ta σ H fun x H1 => tb σ H1 fun y H2 => r x y H2 Q
noncomputable def tUn (r : V → Hp → VK → Prop) (ta : TE) : TE := fun σ H Q => ta σ H fun x H1 => r x H1 Q
noncomputable def rI (C : Int → Int → Prop) (g : Int → Int → V) : R2 := fun x y H Q => ∃ i j, x = .int i ∧ y = .int j ∧ C i j ∧ Q (g i j) H
noncomputable def rI0 (g : Int → Int → V) : R2 := fun x y H Q => ∃ i j, x = .int i ∧ y = .int j ∧ Q (g i j) H
noncomputable def rU (g : Int → V) : V → Hp → VK → Prop := fun x H Q => ∃ i, x = .int i ∧ Q (g i) H

section
variable {X : Cx} {a b c : Expr} {ta tb tc : TE} {pos : Pos}

theorem binT (ha : PE X a ta) (hb : PE X b tb) {pins : List (Addr × Obj)} {s : Shared} {σ : St} {H : Hp} {R : V → V → Hp → Prop} (I : Inv X pins σ H s)
    (h : ta σ H fun x H1 => tb σ H1 fun y H2 => R x y H2) {Q : Value → Shared → Prop} {f : Value → Value → Sem Value}
    (hf : ∀ v u s2 x y H2, Inv X pins σ H2 s2 → RelV x v → RelV y u → R x y H2 → wpAny (model X.prog X.w) X.A (f v u) Q X.xe s2) :
    wpAny (model X.prog X.w) X.A (eval a X.env) (fun v s₁ => wpAny (model X.prog X.w) X.A (eval b X.env) (fun u s₂ => wpAny (model X.prog X.w) X.A (f v u) Q X.xe s₂) X.xe s₁) X.xe s := by
  refine thn (ha pins s σ H _ I h) fun v s1 zz => ?_
  obtain ⟨x, H1, I1, r1, q1⟩ := zz
  refine thn (hb pins s1 σ H1 _ I1 q1) fun u s2 zz => ?_
  obtain ⟨y, H2, I2, r2, q2⟩ := zz
  exact hf v u s2 x y H2 I2 r1 r2 q2

theorem pe_op {op : Operator} {r : R2} (ho : OpR X (binaryOp op) r) (ha : PE X a ta) (hb : PE X b tb) : PE X (.BinOp a op b pos) (tOp r ta tb) := by
  intro pins s σ H Q I h
  exact wpAny_BinOp (binT ha hb I h fun v u s2 x y H2 I2 rx ry q => ho pins s2 σ H2 x y v u Q I2 rx ry q)
theorem pe_un {op : UnaryOp} {r : V → Hp → VK → Prop} (ho : UnR X (unaryOp op) r) (ha : PE X a ta) : PE X (.UnaryOp op a pos) (tUn r ta) := by
  intro pins s σ H Q I h
  exact UnaryOp_ (thn (ha pins s σ H _ I h) fun v s1 ⟨x, H1, I1, r1, q1⟩ => ho pins s1 σ H1 x v Q I1 r1 q1)
theorem opI {f : Value → Value → Sem Value} {C : Int → Int → Prop} {g : Int → Int → Int}
    (rule : ∀ (i j : Int) (t u : Tok) (s : Shared) (Q : Value → Shared → Prop) (E : Value → Shared → Prop), C i j → Q (.int (g i j) s.toks) { s with toks := s.toks + 1 } → wpAny (model X.prog X.w) X.A (f (.int i t) (.int j u)) Q E s) :
    OpR X f (rI C fun i j => .int (g i j)) := by
  intro pins s σ H x y v u Q I rx ry h
  obtain ⟨i, j, rfl, rfl, hc, q⟩ := h
  obtain ⟨t, rfl⟩ := rx
  obtain ⟨t', rfl⟩ := ry
  exact rule i j t t' s _ _ hc ⟨.int (g i j), H, I.tok _, ⟨_, rfl⟩, q⟩
theorem opI0 {f : Value → Value → Sem Value} {g : Int → Int → Int}
    (rule : ∀ (i j : Int) (t u : Tok) (s : Shared) (Q : Value → Shared → Prop) (E : Value → Shared → Prop), Q (.int (g i j) s.toks) { s with toks := s.toks + 1 } → wpAny (model X.prog X.w) X.A (f (.int i t) (.int j u)) Q E s) :
    OpR X f (rI0 fun i j => .int (g i j)) := by
  intro pins s σ H x y v u Q I rx ry h
  obtain ⟨i, j, rfl, rfl, q⟩ := h
  obtain ⟨t, rfl⟩ := rx
  obtain ⟨t', rfl⟩ := ry
  exact rule i j t t' s _ _ ⟨.int (g i j), H, I.tok _, ⟨_, rfl⟩, q⟩
theorem opB0 {f : Value → Value → Sem Value} {g : Int → Int → Bool}
    (rule : ∀ (i j : Int) (t u : Tok) (s : Shared) (Q : Value → Shared → Prop) (E : Value → Shared → Prop), Q (.bool (g i j)) s → wpAny (model X.prog X.w) X.A (f (.int i t) (.int j u)) Q E s) :
    OpR X f (rI0 fun i j => .bl (g i j)) := by
  intro pins s σ H x y v u Q I rx ry h
  obtain ⟨i, j, rfl, rfl, q⟩ := h
  obtain ⟨t, rfl⟩ := rx
  obtain ⟨t', rfl⟩ := ry
  exact rule i j t t' s _ _ ⟨.bl (g i j), H, I, rfl, q⟩

noncomputable def CPow (i j : Int) : Prop := 0 ≤ j ∧ j ≤ 1000000 ∧ i.natAbs < 2 ^ 64
theorem op_add : OpR X (binaryOp .Add) (rI0 fun i j => .int (i + j)) := opI0 fun _ _ _ _ _ _ _ q => add_int q
theorem op_sub : OpR X (binaryOp .Sub) (rI0 fun i j => .int (i - j)) := opI0 fun _ _ _ _ _ _ _ q => sub_int q
theorem op_mod : OpR X (binaryOp .Mod) (rI (fun _ j => 0 < j) fun i j => .int (i % j)) := opI fun i j _ _ _ _ _ hc q => by
  have h1 : (0 : Int) < j := hc
  exact mod_int' (by omega) (by rw [Int.fmod_eq_emod_of_nonneg i (by omega)]; exact q)
theorem op_pow : OpR X (binaryOp .Pow) (rI CPow fun i j => .int (i ^ j.toNat)) := opI fun _ _ _ _ _ _ _ hc q => pow_int_small hc.1 hc.2.1 hc.2.2 q
theorem unI {f : Value → Sem Value} {g : Int → Int}
    (rule : ∀ (i : Int) (t : Tok) (s : Shared) (Q : Value → Shared → Prop) (E : Value → Shared → Prop), Q (.int (g i) s.toks) { s with toks := s.toks + 1 } → wpAny (model X.prog X.w) X.A (f (.int i t)) Q E s) :
    UnR X f (rU fun i => .int (g i)) := by
  intro pins s σ H x v Q I rx h
  obtain ⟨i, rfl, q⟩ := h
  obtain ⟨t, rfl⟩ := rx
  exact rule i t s _ _ ⟨.int (g i), H, I.tok _, ⟨_, rfl⟩, q⟩
theorem un_neg : UnR X (unaryOp .USub) (rU fun i => .int (-i)) := unI fun _ _ _ _ _ q => neg_int q
end

noncomputable def scal : V → V → Bool
  | .non, .non => true | .non, .int _ => true | .int _, .non => true | .non, .bl _ => true | .bl _, .non => true | .non, .str _ => true | .str _, .non => true
  | .int _, .int _ => true | .bl _, .bl _ => true | .str _, .str _ => true | .byt _, .byt _ => true
  | .int _, .str _ => true | .str _, .int _ => true | .bl _, .str _ => true | .str _, .bl _ => true
  | _, _ => false
noncomputable def rEq : R2 := fun x y H Q => scal x y = true ∧ Q (.bl (decide (x = y))) H
noncomputable def rNe : R2 := fun x y H Q => scal x y = true ∧ Q (.bl (!decide (x = y))) H

theorem dec_int {i j : Int} : decide (V.int i = V.int j) = (i == j) := by
  rw [Bool.eq_iff_iff]
  simp
theorem dec_bl {i j : Bool} : decide (V.bl i = V.bl j) = (i == j) := by
  rw [Bool.eq_iff_iff]
  simp
theorem dec_str {i j : Str} : decide (V.str i = V.str j) = (i == j) := by
  rw [Bool.eq_iff_iff]
  simp
theorem dec_byt {i j : Array UInt8} : decide (V.byt i = V.byt j) = (i.toList == j.toList) := by
  rw [Bool.eq_iff_iff]
  cases i
  cases j
  simp

section
variable {X : Cx} {a b c : Expr} {ta tb tc : TE} {pos : Pos}
theorem fin_bl {pins : List (Addr × Obj)} {σ : St} {H : Hp} {s : Shared} {Q : VK} {k k' : Bool} (I : Inv X pins σ H s) (q : Q (.bl k) H) (e : k = k') : EP X pins σ Q (.bool k') s := by
  subst e
  exact ⟨.bl k, H, I, rfl, q⟩
theorem op_eq : OpR X (compareOp .Eq) rEq := by
  intro pins s σ H x y v u Q I rx ry h
  obtain ⟨hs, q⟩ := h
  cases x with
  | non =>
    cases rx
    cases y with
    | non => cases ry; exact PySem.EqNone.eq_none_none (fin_bl I q (by simp))
    | bl j => cases ry; exact PySem.EqNone.eq_none_bool (fin_bl I q (by simp))
    | int j => obtain ⟨t', rfl⟩ := ry; exact PySem.EqNone.eq_none_int (fin_bl I q (by simp))
    | str j => obtain ⟨t', rfl⟩ := ry; exact PySem.EqNone.eq_none_str (fin_bl I q (by simp))
    | _ => exact absurd (show false = true from hs) Bool.false_ne_true
  | bl i =>
    cases rx
    cases y with
    | non => cases ry; exact PySem.EqNone.eq_bool_none (fin_bl I q (by simp))
    | bl j => cases ry; exact eq_bool (fin_bl I q dec_bl)
    | str j => obtain ⟨t', rfl⟩ := ry; exact PySem.EqMixed.eq_bool_str (fin_bl I q (by simp))
    | _ => exact absurd (show false = true from hs) Bool.false_ne_true
  | int i =>
    obtain ⟨t, rfl⟩ := rx
    cases y with
    | non => cases ry; exact PySem.EqNone.eq_int_none (fin_bl I q (by simp))
    | int j => obtain ⟨t', rfl⟩ := ry; exact eq_int (fin_bl I q dec_int)
    | str j => obtain ⟨t', rfl⟩ := ry; exact PySem.EqMixed.eq_int_str (fin_bl I q (by simp))
    | _ => exact absurd (show false = true from hs) Bool.false_ne_true
  | str i =>
    obtain ⟨t, rfl⟩ := rx
    cases y with
    | non => cases ry; exact PySem.EqNone.eq_str_none (fin_bl I q (by simp))
    | bl j => cases ry; exact PySem.EqMixed.eq_str_bool (fin_bl I q (by simp))
    | int j => obtain ⟨t', rfl⟩ := ry; exact PySem.EqMixed.eq_str_int (fin_bl I q (by simp))
    | str j => obtain ⟨t', rfl⟩ := ry; exact eq_str (fin_bl I q dec_str)
    | _ => exact absurd (show false = true from hs) Bool.false_ne_true
  | byt i =>
    obtain ⟨t, rfl⟩ := rx
    cases y with
    | byt j => obtain ⟨t', rfl⟩ := ry; exact PySem.W.eq_bytes (fin_bl I q dec_byt)
    | _ => exact absurd (show false = true from hs) Bool.false_ne_true
  | _ => cases y <;> exact absurd (show false = true from hs) Bool.false_ne_true
theorem op_ne : OpR X (compareOp .NotEq) rNe := by
  intro pins s σ H x y v u Q I rx ry h
  obtain ⟨hs, q⟩ := h
  cases x with
  | non =>
    cases rx
    cases y with
    | non => cases ry; exact PySem.EqNone.ne_none_none (fin_bl I q (by simp))
    | bl j => cases ry; exact PySem.EqNone.ne_none_bool (fin_bl I q (by simp))
    | int j => obtain ⟨t', rfl⟩ := ry; exact PySem.EqNone.ne_none_int (fin_bl I q (by simp))
    | str j => obtain ⟨t', rfl⟩ := ry; exact PySem.EqNone.ne_none_str (fin_bl I q (by simp))
    | _ => exact absurd (show false = true from hs) Bool.false_ne_true
  | bl i =>
    cases rx
    cases y with
    | non => cases ry; exact PySem.EqNone.ne_bool_none (fin_bl I q (by simp))
    | bl j => cases ry; exact ne_bool (fin_bl I q (congrArg not dec_bl))
    | str j => obtain ⟨t', rfl⟩ := ry; exact PySem.EqMixed.ne_bool_str (fin_bl I q (by simp))
    | _ => exact absurd (show false = true from hs) Bool.false_ne_true
  | int i =>
    obtain ⟨t, rfl⟩ := rx
    cases y with
    | non => cases ry; exact PySem.EqNone.ne_int_none (fin_bl I q (by simp))
    | int j => obtain ⟨t', rfl⟩ := ry; exact ne_int (fin_bl I q (congrArg not dec_int))
    | str j => obtain ⟨t', rfl⟩ := ry; exact PySem.EqMixed.ne_int_str (fin_bl I q (by simp))
    | _ => exact absurd (show false = true from hs) Bool.false_ne_true
  | str i =>
    obtain ⟨t, rfl⟩ := rx
    cases y with
    | non => cases ry; exact PySem.EqNone.ne_str_none (fin_bl I q (by simp))
    | bl j => cases ry; exact PySem.EqMixed.ne_str_bool (fin_bl I q (by simp))
    | int j => obtain ⟨t', rfl⟩ := ry; exact PySem.EqMixed.ne_str_int (fin_bl I q (by simp))
    | str j => obtain ⟨t', rfl⟩ := ry; exact ne_str (fin_bl I q (congrArg not dec_str))
    | _ => exact absurd (show false = true from hs) Bool.false_ne_true
  | byt i =>
    obtain ⟨t, rfl⟩ := rx
    cases y with
    | byt j => obtain ⟨t', rfl⟩ := ry; exact PySem.W.ne_bytes (fin_bl I q (congrArg not dec_byt))
    | _ => exact absurd (show false = true from hs) Bool.false_ne_true
  | _ => cases y <;> exact absurd (show false = true from hs) Bool.false_ne_true

theorem op_lt : OpR X (compareOp .Lt) (rI0 fun i j => .bl (decide (i < j))) := opB0 fun _ _ _ _ _ _ _ q => lt_int q
theorem op_gt : OpR X (compareOp .Gt) (rI0 fun i j => .bl (decide (j < i))) := opB0 fun _ _ _ _ _ _ _ q => gt_int q
theorem op_ge : OpR X (compareOp .GtE) (rI0 fun i j => .bl (decide (j ≤ i))) := opB0 fun _ _ _ _ _ _ _ q => ge_int q
theorem op_notin_str : OpR X (compareOp .NotIn) (fun x y H Q => ∃ i j, x = .str i ∧ y = .str j ∧ Q (.bl (!(!(Builtin.Str.occurrences j i 0 j.length 1).isEmpty))) H) := by
  intro pins s σ H x y v u Q I rx ry h
  obtain ⟨i, j, rfl, rfl, q⟩ := h
  obtain ⟨t, rfl⟩ := rx
  obtain ⟨t', rfl⟩ := ry
  exact notIn_str (fin_bl I q rfl)
noncomputable def isObj : HO → Bool
  | .lst _ => true
  | .ins _ _ _ => true
  | _ => false
theorem obj_there {pins : List (Addr × Obj)} {s : Shared} {σ : St} {H : Hp} {a : Addr} {o : HO} (I : Inv X pins σ H s) (h : H a = some o) (p : isObj o = true) : ∃ ob, s.heap.get? a = some ob ∧ ob.cls ≠ .type "tuple" := by
  cases o with
  | lst xs =>
    obtain ⟨_, its, n, _, e⟩ : xs.length ≤ sizeLine ∧ ∃ (its : List Value) (n : Nat), Vals xs its ∧ s.heap.get? a = some { cls := .type "list", data := .seq its.toArray n } := I.hok a _ h
    exact ⟨_, e, (by show Value.type "list" ≠ .type "tuple"; decide +kernel)⟩
  | ins C dx fs =>
    have x := I.hok a _ h
    obtain ⟨_, _, _, e, _⟩ := x
    exact ⟨_, e, (by show Value.ref C ≠ .type "tuple"; exact fun z => by cases z)⟩
  | _ => exact absurd (show false = true from p) Bool.false_ne_true
theorem OpR.or {f : Value → Value → Sem Value} {r r' : R2} (h : OpR X f r) (h' : OpR X f r') : OpR X f (fun x y H Q => r x y H Q ∨ r' x y H Q) := by
  intro pins s σ H x y v u Q I rx ry q
  rcases q with q | q
  · exact h pins s σ H x y v u Q I rx ry q
  · exact h' pins s σ H x y v u Q I rx ry q

theorem nomark (b : Expr) {op : CmpOp} (h : op ≠ .In := by decide) (h2 : op ≠ .NotIn := by decide) : behindInMarks op b = false := by
  have e1 : (op == CmpOp.In) = false := by cases op <;> first | rfl | exact absurd rfl h
  have e2 : (op == CmpOp.NotIn) = false := by cases op <;> first | rfl | exact absurd rfl h2
  cases b <;> simp [behindInMarks, e1, e2]
theorem pe_cmpR {op : CmpOp} {r : R2} (ho : OpR X (compareOp op) r) (ha : PE X a ta) (hb : PE X b tb) (hm : behindInMarks op b = false) : PE X (.Compare a [op] [b] pos) (tOp r ta tb) := by
  intro pins s σ H Q I h
  exact wpAny_Compare1 (binT ha hb I h fun v u s2 x y H2 I2 rx ry q => ho pins s2 σ H2 x y v u Q I2 rx ry q) hm
noncomputable def tTest (t : TE) : TT := fun σ H Q => t σ H fun x H' => ∃ k, x = .bl k ∧ Q k H'
theorem pt_cmpR {op : CmpOp} {r : R2} (ho : OpR X (compareOp op) r) (ha : PE X a ta) (hb : PE X b tb) (hm : behindInMarks op b = false) : PT X (.Compare a [op] [b] pos) (tTest (tOp r ta tb)) := by
  intro pins s σ H Q I h
  refine wpAny_isTrue_Compare1 (thn (ha pins s σ H _ I h) fun v s1 ⟨x, H1, I1, r1, q1⟩ => thn (hb pins s1 σ H1 _ I1 q1) fun u s2 ⟨y, H2, I2, r2, q2⟩ =>
    thn (ho pins s2 σ H2 x y v u _ I2 r1 r2 q2) fun c s3 ⟨z, H3, I3, r3, k, e, q3⟩ => ?_) hm
  subst e
  cases r3
  exact wpAny_truthy_bool ⟨H3, I3, q3⟩
noncomputable def tChain (r r' : R2) (ta tb tc : TE) : TE := fun σ H Q => ta σ H fun x H1 => tb σ H1 fun y H2 => r x y H2 fun z H3 => ∃ k, z = .bl k ∧
  (if k = true then tc σ H3 fun w' H4 => r' y w' H4 Q else Q (.bl false) H3)
theorem pt_chain {op op' : CmpOp} {r r' : R2} (ho : OpR X (compareOp op) r) (ho' : OpR X (compareOp op') r') (ha : PE X a ta) (hb : PE X b tb) (hc : PE X c tc)
    (hm : lastMarks [op, op'] [b, c] = false := by with_unfolding_all rfl) : PT X (.Compare a [op, op'] [b, c] pos) (tTest (tChain r r' ta tb tc)) := by
  intro pins s σ H Q I h
  refine isTrue_chain (thn (ha pins s σ H _ I h) fun v s1 ⟨x, H1, I1, r1, q1⟩ => test_link (thn (hb pins s1 σ H1 _ I1 q1) fun u s2 ⟨y, H2, I2, r2, q2⟩ =>
    thn (ho pins s2 σ H2 x y v u _ I2 r1 r2 q2) fun d s3 ⟨z, H3, I3, r3, k, e, q3⟩ => ?_)) hm
  subst e
  cases r3
  refine wpAny_truthy_bool ?_
  cases k with
  | false =>
    obtain ⟨k', e', q'⟩ := q3
    cases e'
    exact ite_ff ⟨H3, I3, q'⟩
  | true =>
    refine ite_tt (test_last (thn (hc pins s3 σ H3 _ I3 q3) fun w' s4 ⟨z', H4, I4, r4, q4⟩ => thn (ho' pins s4 σ H4 y z' u w' _ I4 r2 r4 q4) fun d' s5 zz => ?_))
    obtain ⟨z2, H5, I5, r5, k2, e2, q5⟩ := zz
    subst e2
    cases r5
    exact wpAny_truthy_bool ⟨H5, I5, q5⟩

theorem line63 : (sizeLine : Nat) < 2 ^ 63 := by rw [sizeLine_eq]; decide
theorem op_add_str : OpR X (binaryOp .Add) (fun x y H Q => ∃ i j, x = .str i ∧ y = .str j ∧ i.length + j.length ≤ sizeLine ∧ Q (.str (i ++ j)) H) := by
  intro pins s σ H x y v u Q I rx ry h
  obtain ⟨i, j, rfl, rfl, hz, q⟩ := h
  obtain ⟨t, rfl⟩ := rx
  obtain ⟨t', rfl⟩ := ry
  exact add_str (fun t' tk => ⟨.str (i ++ j), H, I.tok _, ⟨_, rfl⟩, q⟩) hz
noncomputable def PlainIxT (b : Expr) : Prop := ∀ o i, subscripted b false o i = operate [o, i] (getItem o i)
theorem pe_item_str (ha : PE X a ta) (hb : PE X b tb) (hs : PlainIxT b) :
    PE X (.Subscript a b pos) (tOp (fun x y H Q => ∃ z i c, x = .str z ∧ y = .int i ∧ 0 ≤ i ∧ i < 2 ^ 63 ∧ i < z.length ∧ z.cps[i.toNat]? = some c ∧ Q (.str ⟨#[c]⟩) H) ta tb) := by
  intro pins s σ H Q I h
  refine Subscript_ (binT ha hb I h fun v u s2 x y H2 I2 rx ry q => ?_)
  obtain ⟨z, i, c, rfl, rfl, h0, h63, h1, hc, q⟩ := q
  obtain ⟨t, rfl⟩ := rx
  obtain ⟨t', rfl⟩ := ry
  have e : seqIndex? i z.length = some i.toNat := PySem.StrLaws.seqIndex_nonneg h0 h1
  exact tail_any (typeIs_str s2 z t) slot_str_getitem.lookup (getItem_str (c := c) (by
    have e1 : decide (i < -(2 ^ 63 : Int)) = false := decide_eq_false (by omega)
    have e2 : decide (i ≥ 2 ^ 63) = false := decide_eq_false (by omega)
    rw [e1, e2] <;> rfl) (by rw [e]; exact hc) ⟨.str ⟨#[c]⟩, H2, I2.tok _, ⟨_, rfl⟩, q⟩) (hs _ _)
theorem vals1 {x : V} {us : List Value} (r : Vals [x] us) : ∃ u, us = [u] ∧ RelV x u := by
  cases r with
  | cons r1 r2 => cases r2; exact ⟨_, rfl, r1⟩
theorem vals2 {x y : V} {us : List Value} (r : Vals [x, y] us) : ∃ u w', us = [u, w'] ∧ RelV x u ∧ RelV y w' := by
  cases r with
  | cons r1 r2 =>
    cases r2 with
    | cons r3 r4 => cases r4; exact ⟨_, _, rfl, r1, r3⟩
theorem call_abs : CallR X (.builtin "abs") (fun xs H Q => ∃ i, xs = [.int i] ∧ Q (.int (if i < 0 then -i else i)) H) := by
  intro pins s σ H xs us Q I r h
  obtain ⟨i, rfl, q⟩ := h
  obtain ⟨u, rfl, t, rfl⟩ := vals1 r
  exact call_abs_int fun u tk => ⟨.int (if i < 0 then -i else i), H, I.tok _, ⟨_, rfl⟩, q⟩
theorem call_max2 (hc : X.calm = true) : CallR X (.builtin "max") (fun xs H Q => ∃ i j, xs = [.int i, .int j] ∧ Q (.int (if j > i then j else i)) H) := by
  intro pins s σ H xs us Q I r h
  obtain ⟨i, j, rfl, q⟩ := h
  obtain ⟨u, w', rfl, ⟨t, rfl⟩, ⟨t', rfl⟩⟩ := vals2 r
  refine max_two_ints (I.ok.hd hc) fun h' tk k => ⟨_, H, I.kept k, ?_, q⟩
  by_cases hj : j > i
  · rw [if_pos hj, if_pos hj]; exact ⟨_, rfl⟩
  · rw [if_neg hj, if_neg hj]; exact ⟨_, rfl⟩
theorem call_int1 : CallR X (.type "int") (fun xs H Q => (∃ i, xs = [.int i] ∧ Q (.int i) H) ∨ ∃ k, xs = [.bl k] ∧ Q (.int (if k then 1 else 0)) H) := by
  intro pins s σ H xs us Q I r h
  rcases h with ⟨i, rfl, q⟩ | ⟨k, rfl, q⟩
  · obtain ⟨u, rfl, t, rfl⟩ := vals1 r
    exact call_int_int ⟨.int i, H, I, ⟨_, rfl⟩, q⟩
  · obtain ⟨u, rfl, r1⟩ := vals1 r
    cases r1
    exact call_int_bool ⟨.int (if k then 1 else 0), H, I.tok _, ⟨_, rfl⟩, q⟩
end
end L2

namespace L2
open PySem PySem.Spec PyProof.Rows

structure ObjM (h : Heap) (x dx C : Addr) (mA : Str → Option Value) : Prop where
  obj : h.get? x = some (PySem.W.instObj C dx)
  ns : h.Ns1 dx mA
  ne : dx ≠ x

theorem lookIn_ns {h : Heap} {dx : Addr} {mA : Str → Option Value} (n : h.Ns1 dx mA) : ∃ od, h.get? dx = some od ∧ ∀ name, PySem.W.lookIn name od = some (mA name) := by
  obtain ⟨o, es, ep, ho, hd, hk, _, hm⟩ := n
  refine ⟨o, ho, fun name => ?_⟩
  have e := hm name
  unfold nsFind findBy at e
  rw [← Array.find?_toList] at e
  unfold PySem.W.lookIn
  rw [hd]
  dsimp only
  split
  · rename_i y q
    rw [q] at e
    exact congrArg some e
  · rename_i q
    rw [q] at e
    have a : es.toList.any (·.refKey) = false := by
      rw [List.any_eq_false]
      intro y hy
      obtain ⟨z, t, hkey⟩ := hk y (Array.mem_toList_iff.mp hy)
      simp [DictEntry.refKey, hkey]
    have a' : ¬ es.toList.any (·.refKey) = true := by rw [a]; exact Bool.false_ne_true
    rw [if_neg a']
    exact congrArg some e

theorem ObjM.look {h : Heap} {x dx C : Addr} {mA : Str → Option Value} (I : ObjM h x dx C mA) : ∃ od, PySem.W.InstAt h x (PySem.W.instObj C dx) C (some od) ∧ ∀ name, PySem.W.lookIn name od = some (mA name) :=
  let ⟨od, ho, hl⟩ := lookIn_ns I.ns
  ⟨od, ⟨I.obj, rfl, rfl, ho⟩, hl⟩

section
variable {prog : Program} {w : World} {A : Around} {E : Value → Shared → Prop} {s : Shared} {K : PySem.W.Frag} {x dx C f : Addr} {mA : Str → Option Value} {name : Str} {v : Value}

end

section
variable {P : Program} {w : World} {H H' : Hp} {h h' : Heap} {a C dx : Addr} {fs fs' : List (Str × V)}
theorem ins_get (hok : HOk P w H h) (e : H a = some (.ins C dx fs)) : ∃ mA, ObjM h a dx C mA ∧ (∀ f, RelO (fs.lookup f) (mA f)) ∧ PySem.Within mA (fs.map (·.1)) ∧ fs.length ≤ 1000 ∧ H dx = some (.own a) := by
  obtain ⟨d, z, ne, ob, mA, n, r, q⟩ := (show ObjOk P w H h a (.ins C dx fs) from hok a _ e)
  exact ⟨mA, ⟨ob, n, ne⟩, r, q, z, d⟩
end

structure Cls (K : PySem.W.Frag) (C : Addr) : Prop where
  pg : PySem.W.plainGet K C Str.empty = true
  hd : PySem.W.hasDictIn K C = true
  po : PySem.W.plainOver K C = true
  sa : PySem.W.findIn K (.ref C) "__setattr__" = some (some (.builtin "object.__setattr__"))
theorem Cls.get {K : PySem.W.Frag} {C : Addr} (c : Cls K C) (f : Str) : PySem.W.plainGet K C f = true := c.pg
section
variable {X : Cx} {pins : List (Addr × Obj)} {σ : St} {H : Hp} {s : Shared} {a C dx : Addr} {fs : List (Str × V)} {f : Str} {v : V} {A : Around} {E : Value → Shared → Prop}

end

section
variable {X : Cx} {o e value : Expr} {f : Str} {pos pos' tpos : Pos} {ta tv : TE}
end

section
variable {X : Cx} {pins : List (Addr × Obj)} {σ : St} {H : Hp} {s : Shared} {A : Around} {E : Value → Shared → Prop} {Q : Value → Shared → Prop} {c : Value} {b : Bool}
inductive TyOf (K : PySem.W.Frag) (H : Hp) : V → Value → Prop where
  | non : TyOf K H .non (.type "NoneType")
  | bl (x : Bool) : TyOf K H (.bl x) (.type "bool")
  | int (i : Int) : TyOf K H (.int i) (.type "int")
  | str (x : Str) : TyOf K H (.str x) (.type "str")
  | flt (x : UInt64) : TyOf K H (.flt x) (.type "float")
  | lst {a : Addr} {xs : List V} (e : H a = some (.lst xs)) : TyOf K H (.ref a) (.type "list")
  | frz {a : Addr} {o : Obj} {xs : List V} (e : H a = some (.frz o (.lst xs))) : TyOf K H (.ref a) (.type "list")
  | tup {a : Addr} {xs : List V} (e : H a = some (.tup xs)) : TyOf K H (.ref a) (.type "tuple")
  | dK {a : Addr} {kvs : List (Key × V)} (e : H a = some (.dK kvs)) : TyOf K H (.ref a) (.type "dict")
  | dT {a : Addr} {kvs : List (List Key × V)} (e : H a = some (.dT kvs)) : TyOf K H (.ref a) (.type "dict")
  | ins {a C dx : Addr} {fs : List (Str × V)} (e : H a = some (.ins C dx fs)) (cl : Cls K C) (ha : PySem.W.findIn K (.ref C) "__class__" = some (some (.builtin "object.__class__")))
      (hn : PySem.W.specialIn K (.builtin "object.__class__") "__get__" = some (some (.builtin "getset_descriptor.__get__"))) (htk : PySem.W.takesIn K (.builtin "object.__class__") = some true)
      (hm : PySem.W.mroIn K C (.type "object") = some true) : TyOf K H (.ref a) (.ref C)
theorem isinst_ok {x : V} {u t : Value} (I : Inv X pins σ H s) (rx : RelV x u) (ty : TyOf X.K H x t) (e : PySem.W.kitOne X.K t c = some b) (h : ∀ tk, Q (.bool b) { s with toks := tk }) :
    wpAny (model X.prog X.w) A (call (.builtin "isinstance") [u, c]) Q E s := by
  cases ty with
  | non => cases (show u = Value.none from rx); exact PySem.W.kia_one PySem.W.kitx_none I.kIn True.intro e (fun z => nomatch z) h
  | bl y => cases (show u = Value.bool y from rx); exact PySem.W.kia_one PySem.W.kitx_bool I.kIn True.intro e (fun z => nomatch z) h
  | int i => obtain ⟨t, q⟩ := (show ∃ t, u = Value.int i t from rx); cases q; exact PySem.W.kia_one PySem.W.kitx_int I.kIn True.intro e (fun z => nomatch z) h
  | str y => obtain ⟨t, q⟩ := (show ∃ t, u = Value.str y t from rx); cases q; exact PySem.W.kia_one PySem.W.kitx_str I.kIn True.intro e (fun z => nomatch z) h
  | flt y => obtain ⟨t, q⟩ := (show ∃ t, u = Value.float y t from rx); cases q; exact PySem.W.kia_one PySem.W.kitx_float I.kIn True.intro e (fun z => nomatch z) h
  | @lst a xs ea =>
    cases (show u = Value.ref a from rx)
    obtain ⟨_, _, n, _, h1⟩ := (show ObjOk X.prog X.w H s.heap a (.lst xs) from I.hok a _ ea)
    exact PySem.W.kia_one PySem.W.kitx_list I.kIn ⟨_, h1, rfl⟩ e (fun z => nomatch z) h
  | @frz a ob xs ea =>
    cases (show u = Value.ref a from rx)
    obtain ⟨_, _, _, n, _, h1⟩ := (show ObjOk X.prog X.w H s.heap a (.frz ob (.lst xs)) from I.hok a _ ea)
    exact PySem.W.kia_one PySem.W.kitx_list I.kIn ⟨_, h1, rfl⟩ e (fun z => nomatch z) h
  | @tup a xs ea =>
    cases (show u = Value.ref a from rx)
    obtain ⟨_, _, _, p⟩ := (show ObjOk X.prog X.w H s.heap a (.tup xs) from I.hok a _ ea)
    obtain ⟨o, h1, h2, _⟩ := p
    exact PySem.W.kia_one PySem.W.kitx_tuple I.kIn ⟨o, h1, h2⟩ e (fun z => nomatch z) h
  | @dK a kvs ea =>
    cases (show u = Value.ref a from rx)
    obtain ⟨_, _, vs, _, p⟩ := (show ObjOk X.prog X.w H s.heap a (.dK kvs) from I.hok a _ ea)
    obtain ⟨o, es, ep, h1, h2, _⟩ := p
    exact PySem.W.kia_one PySem.W.kitx_dict I.kIn ⟨o, h1, h2.1⟩ e (fun z => nomatch z) h
  | @dT a kvs ea =>
    cases (show u = Value.ref a from rx)
    obtain ⟨_, _, xs, _, o, es, ep, h1, h2, _⟩ := (show ObjOk X.prog X.w H s.heap a (.dT kvs) from I.hok a _ ea)
    exact PySem.W.kia_one PySem.W.kitx_dict I.kIn ⟨o, h1, h2.1⟩ e (fun z => nomatch z) h
  | @ins a C dx fs ea cl ha hn htk hm =>
    cases (show u = Value.ref a from rx)
    obtain ⟨mA, O, _⟩ := ins_get I.hok ea
    obtain ⟨od, J, _⟩ := O.look
    exact PySem.W.kia_one (PySem.W.kitx_own (cl.get _) cl.hd ha hn htk hm) I.kIn J e (fun z => nomatch z) h
end
end L2

namespace L2
open PySem PySem.Spec PyProof.Rows

structure Room (k : Nat) (A : Around) : Prop where
  hd : A.handled = none
  dp : A.depth + 3 * k + 5 < recursionLimit
  un : A.units + 16 * k + 200 < cLine
theorem Room.mono {j k : Nat} {A : Around} (r : Room k A) (h : j ≤ k) : Room j A := ⟨r.hd, by have := r.dp; omega, by have := r.un; omega⟩
theorem Room.deeper {k : Nat} {A : Around} (r : Room (k + 1) A) (env : Env) : Room k (A.deeper env) :=
  ⟨r.hd, by have := r.dp; show A.depth + 1 + 3 * k + 5 < _; omega, by have := r.un; show A.units + 3 + 16 * k + 200 < _; omega⟩
theorem Room.in1 {k : Nat} {A : Around} (r : Room (k + 1) A) : Room k A.in1 :=
  ⟨r.hd, by have := r.dp; show A.depth + 3 * k + 5 < _; omega, by have := r.un; show A.units + 1 + 16 * k + 200 < _; omega⟩
theorem Room.depth {k : Nat} {A : Around} (r : Room k A) : A.depth < recursionLimit := by have := r.dp; omega
theorem Room.units {k : Nat} {A : Around} (r : Room k A) : A.units + 64 < cLine := by have := r.un; omega
noncomputable def tNil : TA := fun _ H Q => Q [] H
noncomputable def tCons (ta : TE) (tr : TA) : TA := fun σ H Q => ta σ H fun x H1 => tr σ H1 fun xs H2 => Q (x :: xs) H2
section
variable {X : Cx} {e : Expr} {es : List Expr} {te : TE} {t : TA} {pos : Pos}
theorem pa_nil : PA X [] tNil := fun _ _ _ _ H Q I h => Calls.spliced_nil ⟨[], H, I, .nil, h⟩
theorem pa_cons (ha : PE X e te) (hr : PA X es t) (hs : starEach (e :: es) X.env = (false, eval e X.env) :: starEach es X.env := by rfl) : PA X (e :: es) (tCons te t) := by
  intro pos pins s σ H Q I h
  rw [hs]
  show wpAny _ _ (spliced ((false, eval e X.env) :: backTo pos (starEach es X.env))) _ _ s
  refine Calls.spliced_cons (thn (ha pins s σ H _ I h) fun u s1 zz => ?_)
  obtain ⟨x, H1, I1, r1, q1⟩ := zz
  exact thn (hr pos pins s1 σ H1 _ I1 q1) fun us s2 ⟨xs, H2, I2, r2, q2⟩ => ⟨x :: xs, H2, I2, .cons r1 r2, q2⟩

noncomputable def tTup (t : TA) : TE := fun σ H Q => t σ H fun xs H1 => xs.length ≤ sizeLine ∧ ∀ p, H1 p = none → Q (.ref p) (upd H1 p (.tup xs))
noncomputable def tLst (t : TA) : TE := fun σ H Q => t σ H fun xs H1 => xs.length ≤ sizeLine ∧ ∀ p, H1 p = none → Q (.ref p) (upd H1 p (.lst xs))
theorem pe_tup {x1} (h : PA X es t) : PE X (.Tuple es x1 pos) (tTup t) := by
  intro pins s σ H Q I hq
  refine wpAny_Tuple_spliced (thn (h pos pins s σ H _ I hq) fun us s1 ⟨xs, H1, I1, r, z, q⟩ => ⟨by rw [← r.length]; exact z, ?_⟩)
  have hf : H1 s1.heap.objs.size = none := I1.hok.fresh (Nat.le_refl _)
  refine ⟨.ref s1.heap.objs.size, upd H1 s1.heap.objs.size (.tup xs), I1.laid (t' := s1.toks) (fun b u e => Heap.get?_push_of_some _ e) (Nat.le_refl _) ?_, rfl, q _ hf⟩
  exact ⟨z, us, r, ⟨_, Heap.get?_push_size _ rfl, rfl, _, rfl⟩⟩
theorem pe_lst (h : PA X es t) : PE X (.List es pos) (tLst t) := by
  intro pins s σ H Q I hq
  refine wpAny_List_spliced (thn (h pos pins s σ H _ I hq) fun us s1 ⟨xs, H1, I1, r, z, q⟩ => ⟨by rw [← r.length]; exact z, ?_⟩)
  have hf : H1 s1.heap.objs.size = none := I1.hok.fresh (Nat.le_refl _)
  refine ⟨.ref s1.heap.objs.size, upd H1 s1.heap.objs.size (.lst xs), I1.laid (t' := s1.toks) (fun b u e => Heap.get?_push_of_some _ e) (Nat.le_refl _) ?_, rfl, q _ hf⟩
  exact ⟨z, us, 0, r, Heap.get?_push_size _ rfl⟩
end

noncomputable abbrev Sp := List V → Hp → VK → XK → Prop
noncomputable abbrev CXT := List Env → Hp → Shared → XK → Value → Shared → Prop

structure Env0 (P : Program) (w : World) (K : PySem.W.Frag) (mg : Str → Option Value) (base : Heap) (A : Around) (outer : List Env) (s : Shared) (H : Hp) : Prop where
  frames : A.frames = some outer
  mod : Mod K mg base
  bs : ∀ b o, base.get? b = some o → s.heap.get? b = some o ∧ H b = none
  bsz : base.objs.size ≤ s.heap.objs.size
  funs : s.heap.FunFrames base outer
  frf : ∀ b ∈ frs outer, H b = none
  hok : HOk P w H s.heap
  bare : AllBare s.gens
noncomputable def CE (outer : List Env) (P : Program) (w : World) (H : Hp) (s : Shared) (Q : VK) (u : Value) (s' : Shared) : Prop :=
  ∃ v H', s'.os = s.os ∧ AllBare s'.gens ∧ Un (frs outer) [] H H' s.heap s'.heap ∧ HOk P w H' s'.heap ∧ RelV v u ∧ Q v H'
noncomputable def CR (CX : CXT) (outer : List Env) (P : Program) (w : World) (H : Hp) (s : Shared) (Q : VK) (E : XK) (r : Result) (s' : Shared) : Prop :=
  match r with
  | .ok (.ret u) => CE outer P w H s Q u s'
  | .ok _ => False
  | .error e => CX outer H s E e s'
structure FnOk (P : Program) (w : World) (K : PySem.W.Frag) (mg : Str → Option Value) (base : Heap) (CX : CXT) (k : Nat) (f : Addr) (fd : FuncData) (ps : List Str) (sp : Sp) : Prop where
  len : ∀ vs H Q E, sp vs H Q E → vs.length = ps.length
  run : ∀ (A : Around) (outer : List Env) (s : Shared) (H : Hp) (args : Args) (us : List Value) (vs : List V) (Q : VK) (E : XK), Room k A → Env0 P w K mg base A outer s H → BindsTo s fd args (ps.zip us) → Vals vs us → sp vs H Q E →
    codeAny (model P w) A (.call (.ref f) args) (CR CX outer P w H s Q E) s
theorem FnOk.mono {P : Program} {w : World} {K : PySem.W.Frag} {mg : Str → Option Value} {base : Heap} {CX : CXT} {j k : Nat} {f : Addr} {fd : FuncData} {ps : List Str} {sp : Sp} (F : FnOk P w K mg base CX j f fd ps sp) (h : j ≤ k) :
    FnOk P w K mg base CX k f fd ps sp := ⟨F.len, fun A outer s H args us vs Q E hr => F.run A outer s H args us vs Q E (hr.mono h)⟩
theorem FnOk.imp {P : Program} {w : World} {K : PySem.W.Frag} {mg : Str → Option Value} {base : Heap} {CX : CXT} {k : Nat} {f : Addr} {fd : FuncData} {ps : List Str} {sp sp' : Sp} (F : FnOk P w K mg base CX k f fd ps sp)
    (h : ∀ vs H Q E, sp' vs H Q E → sp vs H Q E) : FnOk P w K mg base CX k f fd ps sp' :=
  ⟨fun vs H Q E q => F.len vs H Q E (h _ _ _ _ q), fun A outer s H args us vs Q E hr he hb hv hs => F.run A outer s H args us vs Q E hr he hb hv (h _ _ _ _ hs)⟩

theorem Env0.in1 {P : Program} {w : World} {K : PySem.W.Frag} {mg : Str → Option Value} {base : Heap} {A : Around} {outer : List Env} {s : Shared} {H : Hp} (e : Env0 P w K mg base A outer s H) :
    Env0 P w K mg base A.in1 outer s H := ⟨e.frames, e.mod, e.bs, e.bsz, e.funs, e.frf, e.hok, e.bare⟩

section
variable {X : Cx} {pins : List (Addr × Obj)} {σ : St} {H : Hp} {s s' : Shared}
theorem Inv.env0 (I : Inv X pins σ H s) : Env0 X.prog X.w X.K X.mg X.base X.A X.stack s H :=
  ⟨I.ok.frames, I.ok.mod, I.bs, Nat.le_trans I.ok.bsz I.sz, I.stack, I.stkFree, I.hok, I.bare⟩
theorem Inv.after {Q : VK} {u : Value} (I : Inv X pins σ H s) (h : CE X.stack X.prog X.w H s Q u s') : EP X pins σ Q u s' := by
  obtain ⟨v, H', os, bare, un, hok, r, q⟩ := h
  obtain ⟨hh, g, d, t, os'⟩ := s'
  obtain rfl : os' = s.os := os
  exact ⟨v, H', I.call (h' := hh) (g' := g) (d' := d) (t' := t) (ch := []) un hok bare (fun b z => absurd z (by simp)), r, q⟩
end

noncomputable def tCall (sp : Sp) (dvs : List V) (E : XK) (t : TA) : TE := fun σ H Q => t σ H fun vs H1 => sp (vs ++ dvs) H1 Q E
noncomputable def Binds (K : PySem.W.Frag) (fd : FuncData) (ps : List Str) (ds : List Value) : Prop :=
  ∀ (s : Shared) (us : List Value), K.In s.heap → (us ++ ds).length = ps.length → BindsTo s fd ⟨us, []⟩ (ps.zip (us ++ ds))
theorem Binds.all {K : PySem.W.Frag} {fd : FuncData} {ps : List Str} (h : ∀ us : List Value, us.length = ps.length → bindArgs fd ⟨us, []⟩ = pure (ps.zip us)) : Binds K fd ps [] := fun s us _ hl => by
  rw [List.append_nil] at hl ⊢
  exact .of_eq (h us hl)

noncomputable def Passes (CX : CXT) (X : Cx) (E : XK) : Prop := ∀ (pins : List (Addr × Obj)) (σ : St) (H : Hp) (s : Shared) (e : Value) (s' : Shared), Inv X pins σ H s → CX X.stack H s E e s' → X.xe e s'

section
variable {X : Cx} {CX : CXT} {k : Nat} {f C : Addr} {fd : FuncData} {ps : List Str} {sp : Sp} {dvs : List V} {ds : List Value} {E : XK} {x m : Str} {p pos apos : Pos} {e o : Expr} {es : List Expr} {ta : TE} {t : TA}

theorem run_fn {pins : List (Addr × Obj)} {σ : St} {H : Hp} {s : Shared} {Q : VK} {us : List Value} {vs : List V} (F : FnOk X.prog X.w X.K X.mg X.base CX k f fd ps sp) (hr : Room k X.A) (hb : Binds X.K fd ps ds) (hd : Vals dvs ds) (hx : Passes CX X E)
    (I : Inv X pins σ H s) (r : Vals vs us) (h : sp (vs ++ dvs) H Q E) : wpAny (model X.prog X.w) X.A (call (.ref f) us) (EP X pins σ Q) X.xe s := by
  have r2 : Vals (vs ++ dvs) (us ++ ds) := r.append hd
  have hl : (us ++ ds).length = ps.length := by rw [← r2.length]; exact F.len _ _ _ _ h
  refine wpAny_call (codeAny_mono (F.run X.A X.stack s H ⟨us, []⟩ (us ++ ds) (vs ++ dvs) Q E hr I.env0 (hb s us I.kIn hl) r2 h) fun r s' hq => ?_)
  cases r with
  | error e => exact hx pins σ H s e s' I hq
  | ok fl =>
    cases fl with
    | ret u => exact I.after hq
    | next => exact False.elim hq
    | brk => exact False.elim hq
    | cont => exact False.elim hq

theorem pe_call (F : FnOk X.prog X.w X.K X.mg X.base CX k f fd ps sp) (hr : Room k X.A) (hg : Gl X x) (hm : X.mg x = some (.ref f)) (hk : PySem.W.keepIn X.K (.ref f) = true) (hb : Binds X.K fd ps ds) (hd : Vals dvs ds) (hx : Passes CX X E)
    (ha : PA X (e :: es) t) (hdb : (x == ("__debug__" : Str)) = false := by decide) (he : starEach (e :: es) X.env = (false, eval e X.env) :: starEach es X.env := by rfl) (hpl : (backTo pos (starEach es X.env)).any (·.1) = false := by rfl) :
    PE X (.Call (.Name x p) (e :: es) [] pos) (tCall sp dvs E t) := by
  intro pins s σ H Q I h
  refine wpAny_Call_Name_kw (ld_glob I hg hm ?_ hdb)
  refine PySem.W.callWith_K (h₀ := X.base) I.ok.mod.kin hk (thn (ha pos pins s σ H _ I h) fun us s1 ⟨vs, H1, I1, r, q⟩ => ⟨I1.kIn, ?_⟩) he hpl
  exact run_fn F hr hb hd hx I1 r q
end

section
variable {X : Cx} {CX : CXT} {k : Nat} {f C : Addr} {fd : FuncData} {ps ks : List Str} {sp : Sp} {E : XK} {x m : Str} {p pos apos kpos : Pos} {e o : Expr} {es : List Expr} {kws : List Keyword} {te ta : TE} {t tk : TA} {nm : Option Str}
variable {g : List Value → List Value → List Value} {gV : List V → List V → List V}
end

structure FnScope (N P : List Str) (sc : Scope) : Prop where
  kind : sc.kind = .function
  co : sc.isCoroutine = false
  gen : sc.isGenerator = false
  nd : N.Nodup
  pre : N.take P.length = P
  par : ∀ x ∈ P, sc.names.lookup x = some .local ∨ sc.names.lookup x = some .cell
  nofree : ∀ y ∈ sc.names, y.2 ≠ .free

theorem bindL_out {kindOf : Str → Option NameKind} {x : Str} : ∀ {binds : List (Str × Value)} {m : Str → Option Value}, (∀ v, (x, v) ∉ binds) → bindL kindOf binds m x = m x
  | [], _, _ => rfl
  | (n, v) :: r, m, h => by
    unfold bindL
    rw [bindL_out fun w hw => h w (List.mem_cons_of_mem _ hw)]
    split
    · have : x ≠ n := by rintro rfl; exact h v List.mem_cons_self
      simp [this]
    · rfl
theorem bindC_out {kindOf : Str → Option NameKind} {x : Str} : ∀ {binds : List (Str × Value)} {m : Str → Option Value}, (∀ v, (x, v) ∉ binds) → bindC kindOf binds m x = m x
  | [], _, _ => rfl
  | (n, v) :: r, m, h => by
    unfold bindC
    rw [bindC_out fun w hw => h w (List.mem_cons_of_mem _ hw)]
    split
    · rfl
    · have : x ≠ n := by rintro rfl; exact h v List.mem_cons_self
      simp [this]
theorem bindL_get {kindOf : Str → Option NameKind} {x : Str} {v : Value} : ∀ {P : List Str} {vs : List Value} {i : Nat} {m : Str → Option Value}, P.Nodup → P[i]? = some x → vs[i]? = some v → kindOf x = some .local →
    bindL kindOf (P.zip vs) m x = some v
  | [], _, _, _, _, h, _, _ => by simp at h
  | _ :: _, [], _, _, _, _, h, _ => by simp at h
  | p :: P, w :: vs, 0, m, nd, h1, h2, hk => by
    simp at h1 h2; subst h1; subst h2
    show bindL kindOf ((p, w) :: P.zip vs) m p = _
    unfold bindL
    rw [bindL_out fun v hv => (List.nodup_cons.mp nd).1 (List.of_mem_zip hv).1, if_pos hk]
    simp
  | p :: P, w :: vs, i + 1, m, nd, h1, h2, hk => by
    show bindL kindOf ((p, w) :: P.zip vs) m x = _
    unfold bindL
    exact bindL_get (i := i) (List.nodup_cons.mp nd).2 (by simpa using h1) (by simpa using h2) hk
theorem bindC_get {kindOf : Str → Option NameKind} {x : Str} {v : Value} : ∀ {P : List Str} {vs : List Value} {i : Nat} {m : Str → Option Value}, P.Nodup → P[i]? = some x → vs[i]? = some v → kindOf x ≠ some .local →
    bindC kindOf (P.zip vs) m x = some v
  | [], _, _, _, _, h, _, _ => by simp at h
  | _ :: _, [], _, _, _, _, h, _ => by simp at h
  | p :: P, w :: vs, 0, m, nd, h1, h2, hk => by
    simp at h1 h2; subst h1; subst h2
    show bindC kindOf ((p, w) :: P.zip vs) m p = _
    unfold bindC
    rw [bindC_out fun v hv => (List.nodup_cons.mp nd).1 (List.of_mem_zip hv).1, if_neg hk]
    simp
  | p :: P, w :: vs, i + 1, m, nd, h1, h2, hk => by
    show bindC kindOf ((p, w) :: P.zip vs) m x = _
    unfold bindC
    exact bindC_get (i := i) (List.nodup_cons.mp nd).2 (by simpa using h1) (by simpa using h2) hk

noncomputable def start (N : List Str) (vs : List V) : St := vs.map some ++ List.replicate (N.length - vs.length) none

noncomputable def cxOf (CX : CXT) (P : Program) (w : World) (K : PySem.W.Frag) (mg : Str → Option Value) (base : Heap) (N : List Str) (qual : Str) (scope : Scope) (f : Addr) (cd : Value) (A : Around) (outer : List Env) (s : Shared) (H : Hp) (E : XK) : Cx where
  prog := P
  w := w
  K := K
  mg := mg
  base := base
  A := A.deeper (envOfC qual scope s.heap.objs.size f cd)
  N := N
  s₀ := s
  H₀ := H
  env := envOfC qual scope s.heap.objs.size f cd
  outer := outer
  stack := envOfC qual scope s.heap.objs.size f cd :: outer
  ex := []
  calm := true
  fn := fun _ => true
  pn := []
  xe := fun e s' => wpAny (model P w) (A.deeper (envOfC qual scope s.heap.objs.size f cd)) (leaving (envOfC qual scope s.heap.objs.size f cd) e) (fun _ s'' => CX outer H s E e s'') (fun e' s'' => CX outer H s E e' s'') s'

theorem cell_has {sc : Scope} {n : Nat} {x : Str} (h : sc.names.lookup x = some .cell) : ∃ c, (cellsFrom n sc.names []).lookup x = some c := by
  have q := PySem.W.cellsFrom_some sc.names n [] (.inl h)
  exact Option.isSome_iff_exists.mp q

theorem inv_start {CX : CXT} {P : Program} {w : World} {K : PySem.W.Frag} {mg : Str → Option Value} {base : Heap} {N ps : List Str} {qual : Str} {scope : Scope} {f : Addr} {cd : Value} {A : Around} {outer : List Env} {s s1 : Shared} {H : Hp} {E : XK} {us : List Value} {vs : List V}
    (S : FnScope N ps scope) (hd : A.handled = none) (e0 : Env0 P w K mg base A outer s H) (hl : vs.length = ps.length) (r : Vals vs us)
    (x : InCallC s s.heap.objs.size (bindL (envOfC qual scope s.heap.objs.size f cd).kindOf (ps.zip us) fun _ => none) (cellsFrom (s.heap.objs.size + 1) scope.names []) (bindC (envOfC qual scope s.heap.objs.size f cd).kindOf (ps.zip us) fun _ => none) s1) :
    Inv (cxOf CX P w K mg base N qual scope f cd A outer s H E) [] (start N vs) H s1 := by
  have hpl : ps.length ≤ N.length := by have := congrArg List.length S.pre; rw [List.length_take] at this; omega
  obtain ⟨h1, tk, rfl, hk⟩ := x.done
  have noA : ∀ b : Addr, b ∉ (cxOf CX P w K mg base N qual scope f cd A outer s H E).ex := fun b z => absurd (show b ∈ ([] : List Addr) from z) (by simp)
  refine ⟨⟨e0.mod, S.kind, rfl, rfl, Nat.le_refl _, fun y z c h1 h2 => ?_, fun y hy => ?_, fun y c _ h => ?_, fun _ => hd, Around.frames_deeper e0.frames, .inr ⟨rfl, rfl⟩, fun b z => absurd z (noA b), e0.bs, e0.bsz, fun b _ _ => noA b, fun b z => absurd z (noA b), e0.funs, e0.frf⟩,
    rfl, e0.bare, Un.kept hk, ⟨_, x.toInCall.ns, fun i y v h1 h2 h3 => ?_⟩, fun y c h => ⟨_, x.cell y c h⟩, e0.hok.fresh (Nat.le_refl _), fun y c h => ?_, fun p hp => absurd (show p ∈ ([] : List (Addr × Obj)) from hp) (by simp), e0.hok.kept hk, ?_⟩
  · exact name_of_addr x.apart (PySem.mem_of_lookup h1) (PySem.mem_of_lookup h2)
  · have hy : scope.names.lookup y = some .cell ∨ scope.names.lookup y = some .free := hy
    rcases hy with hy | hy
    · exact cell_has hy
    · exact absurd rfl (S.nofree _ (PySem.mem_of_lookup hy))
  · exact Nat.le_of_lt (x.above y c (PySem.mem_of_lookup h))
  · have hi : i < vs.length := by
      unfold start at h2
      by_cases hi : i < vs.length
      · exact hi
      · rw [List.getElem?_append_right (by simpa using hi)] at h2
        rw [List.getElem?_replicate] at h2
        split at h2 <;> cases h2
    have ha : vs[i]? = some v := by
      unfold start at h2
      rw [List.getElem?_append_left (by simpa using hi), List.getElem?_map] at h2
      cases e : vs[i]? with
      | none => rw [e] at h2; cases h2
      | some a => rw [e] at h2; cases h2; rfl
    obtain ⟨u, hu, rv⟩ := r.get ha
    have hp : ps[i]? = some y := by
      rw [← S.pre, List.getElem?_take_of_lt (by omega)]; exact h1
    have ndP : ps.Nodup := by rw [← S.pre]; exact S.nd.sublist (List.take_sublist _ _)
    refine ⟨u, rv, ?_⟩
    rcases S.par y (List.mem_of_getElem? hp) with k | k
    · exact .inl ⟨k, bindL_get ndP hp hu k⟩
    · obtain ⟨c, e⟩ := cell_has (n := s.heap.objs.size + 1) k
      refine .inr ⟨.inl k, c, e, ?_⟩
      have q := x.cell y c e
      rw [bindC_get ndP hp hu (by show scope.names.lookup y ≠ _; rw [k]; decide)] at q
      exact q
  · exact e0.hok.fresh (Nat.le_of_lt (x.above y c (PySem.mem_of_lookup h)))
  · unfold start
    show _ = N.length
    rw [List.length_append, List.length_map, List.length_replicate]
    omega

theorem fn_of {CX : CXT} {P : Program} {w : World} {K : PySem.W.Frag} {mg : Str → Option Value} {base : Heap} {k : Nat} {f : Addr} {name qual : Str} {params : Arguments} {body : List Stmt} {scope : Scope} {dV kV doc pm cdv ct oc : Value} {an od : Option Addr}
    {osl : Array (Option Value)} {N ps : List Str} {sp : Sp} (lk : K.lookup f = some ⟨oc, od, .func (PySem.W.fnOf name qual params body scope dV kV doc pm an cdv ct), osl⟩) (hcd : PySem.W.codeIn K cdv qual = true) (S : FnScope N ps scope)
    (len : ∀ vs H Q E, sp vs H Q E → vs.length = ps.length)
    (hbody : ∀ (A : Around) (outer : List Env) (s : Shared) (H : Hp) (vs : List V) (Q : VK) (E : XK), Room k (A.deeper (envOfC qual scope s.heap.objs.size f cdv)) → sp vs H Q E →
      ∃ t, PSs (cxOf CX P w K mg base N qual scope f cdv A outer s H E) body t ∧ t { nx := fun _ H' => Q .non H', rt := Q } (start N vs) H) :
    FnOk P w K mg base CX (k + 1) f (PySem.W.fnOf name qual params body scope dV kV doc pm an cdv ct) ps sp := by
  refine ⟨len, fun A outer s H args us vs Q E hr e0 hb r hsp => ?_⟩
  have hl := len _ _ _ _ hsp
  have KX : K.In s.heap := e0.mod.kin.keeps fun b o e => (e0.bs b o e).1
  have lim : s.heap.NoLimit := e0.mod.nolimit.keeps fun b o e => (e0.bs b o e).1
  have hkind : ∀ y ∈ ps.zip us, scope.names.lookup y.1 = some .local ∨ (scope.names.lookup y.1 = some .cell ∧ ((cellsFrom (s.heap.objs.size + 1) scope.names []).lookup y.1).isSome = true) := fun ⟨n, v⟩ hy => by
    rcases S.par n (List.of_mem_zip hy).1 with q | q
    · exact .inl q
    · exact .inr ⟨q, PySem.W.cellsFrom_some _ _ _ (.inl q)⟩
  refine codeAny_call_function hr.depth (KX _ _ lk) rfl S.co S.gen rfl (PySem.W.codeRec_of KX hcd) (hb _ _ _ _ ?_)
  refine wpAny_newFunctionEnv_cells S.kind hkind fun env he s1 x => ?_
  subst he
  refine ⟨lim.keeps x.toInCall.keep, codeAny_func ?_⟩
  obtain ⟨t, ht, hq⟩ := hbody A outer s H vs Q E (hr.deeper _) hsp
  have I : Inv (cxOf CX P w K mg base N qual scope f cdv A outer s H E) [] (start N vs) H s1 := inv_start S hr.hd e0 hl r x
  refine wpAny_mono (ht [] s1 (start N vs) H _ I hq) (fun fl s' hs => ?_) fun e s' hs => hs
  have fin : ∀ {σ' : St} {H' : Hp} {v : V} {u : Value}, Inv (cxOf CX P w K mg base N qual scope f cdv A outer s H E) [] σ' H' s' → RelV v u → Q v H' → CE outer P w H s Q u s' :=
    fun {σ' H' v u} J rv q => ⟨v, H', J.os, J.bare, J.base, J.hok, rv, q⟩
  cases fl with
  | ret u =>
    obtain ⟨v, σ', H', J, rv, q⟩ := hs
    exact fin J rv q
  | next =>
    obtain ⟨σ', H', J, q⟩ := hs
    exact fin (v := V.non) (u := Value.none) J rfl q
  | brk =>
    obtain ⟨_, _, _, q⟩ := hs
    exact False.elim q
  | cont =>
    obtain ⟨_, _, _, q⟩ := hs
    exact False.elim q
end L2

namespace L2
open PySem PySem.Spec PyProof.Rows
section
variable {X : Cx} {x : Str} {p pos : Pos} {e : Expr} {es : List Expr} {t : TA} {id T : String} {r : List V → Hp → VK → Prop}

noncomputable def tCB (r : List V → Hp → VK → Prop) (t : TA) : TE := fun σ H Q => t σ H fun vs H1 => r vs H1 Q
theorem pe_callB (hc : CallR X (.builtin id) r) (hg : Gl X x) (hm : X.mg x = none) (hv : bootBuiltins x = some (.builtin id)) (ha : PA X (e :: es) t) (hn : x ≠ "__name__" := by decide) (hdb : (x == ("__debug__" : Str)) = false := by decide)
    (he : starEach (e :: es) X.env = (false, eval e X.env) :: starEach es X.env := by rfl) (hpl : (backTo pos (starEach es X.env)).any (·.1) = false := by rfl) : PE X (.Call (.Name x p) (e :: es) [] pos) (tCB r t) := by
  intro pins s σ H Q I h
  refine wpAny_Call_Name_kw (ld_blt I hg hm hv ?_ hn hdb)
  exact PyProof.Rows.callWith_builtin1 (thn (ha pos pins s σ H _ I h) fun us s1 ⟨vs, H1, I1, r1, q1⟩ => hc pins s1 σ H1 vs us Q I1 r1 q1) he hpl
theorem pe_callTy (hc : CallR X (.type T) r) (hg : Gl X x) (hm : X.mg x = none) (hv : bootBuiltins x = some (.type T)) (ha : PA X (e :: es) t) (hn : x ≠ "__name__" := by decide) (hdb : (x == ("__debug__" : Str)) = false := by decide)
    (he : starEach (e :: es) X.env = (false, eval e X.env) :: starEach es X.env := by rfl) (hpl : (backTo pos (starEach es X.env)).any (·.1) = false := by rfl) : PE X (.Call (.Name x p) (e :: es) [] pos) (tCB r t) := by
  intro pins s σ H Q I h
  refine wpAny_Call_Name_kw (ld_blt I hg hm hv ?_ hn hdb)
  exact PyProof.Rows.callWith_type1 (thn (ha pos pins s σ H _ I h) fun us s1 ⟨vs, H1, I1, r1, q1⟩ => hc pins s1 σ H1 vs us Q I1 r1 q1) he hpl
end
end L2

namespace HT
open PySem PyProof.Rows

section
open PySem.SeqAt
open PySem.AutoSeq1 (wpAny_loadPart')
open PySem.MeetsSeq PySem.MeetsSeq2 PySem.MeetsSeq3

end

section
variable {prog : Program} {w : World} {A : Around} {E : Value → Shared → Prop} {s : Shared}

end
end HT

namespace L2
open PySem PySem.Spec PyProof.Rows

noncomputable abbrev TO := St → Hp → (Option Int → Hp → Prop) → Prop
noncomputable def PO (X : Cx) (e : Option Expr) (t : TO) : Prop :=
  ∀ (pins : List (Addr × Obj)) (s : Shared) (σ : St) (H : Hp) (Q : Option Int → Hp → Prop), Inv X pins σ H s → t σ H Q →
    wpAny (model X.prog X.w) X.A (evalPart e X.env) (fun u s' => ∃ o H', Inv X pins σ H' s' ∧ IsPart u o ∧ Q o H') X.xe s
noncomputable def tNoPart : TO := fun _ H Q => Q none H
noncomputable def tPart (t : TE) : TO := fun σ H Q => t σ H fun x H1 => ∃ i, x = .int i ∧ Q (some i) H1

section
variable {X : Cx} {e : Expr} {te : TE} {lo hi : Option Expr} {tl th : TO} {pos p2 : Pos}

theorem po_none : PO X none tNoPart := by
  intro pins s σ H Q I h
  rw [evalPart_none]
  exact wpAny_pure ⟨none, H, I, .none, h⟩
theorem po_some (h : PE X e te) : PO X (some e) (tPart te) := by
  intro pins s σ H Q I hw
  rw [evalPart_some]
  refine thn (h pins s σ H _ I hw) fun u s1 zz => ?_
  obtain ⟨x, H1, I1, r1, q1⟩ := zz
  obtain ⟨i, rfl, q⟩ := q1
  obtain ⟨t, rfl⟩ := r1
  exact ⟨some i, H1, I1, .int i t, q⟩

noncomputable def SlR (X : Cx) (r : V → Option Int → Option Int → Hp → VK → Prop) : Prop :=
  ∀ (pins : List (Addr × Obj)) (s : Shared) (σ : St) (H : Hp) (x : V) (v vl vu : Value) (lo hi : Option Int) (sl : Addr) (Q : VK), Inv X pins σ H s → RelV x v → s.heap.IsSliceOf sl vl vu .none → IsPart vl lo → IsPart vu hi → r x lo hi H Q →
    ∃ T id, typeLookup (.type T) "__getitem__" = pure (some (.builtin id)) ∧ s.TypeIs v T ∧ wpAny (model X.prog X.w) X.A (getItem v (.ref sl)) (EP X pins σ Q) X.xe s
theorem SlR.or {r r' : V → Option Int → Option Int → Hp → VK → Prop} (h : SlR X r) (h' : SlR X r') : SlR X (fun x lo hi H Q => r x lo hi H Q ∨ r' x lo hi H Q) := by
  intro pins s σ H x v vl vu lo hi sl Q I rx hs pl pu q
  rcases q with q | q
  · exact h pins s σ H x v vl vu lo hi sl Q I rx hs pl pu q
  · exact h' pins s σ H x v vl vu lo hi sl Q I rx hs pl pu q
noncomputable def tSl (r : V → Option Int → Option Int → Hp → VK → Prop) (te : TE) (tl th : TO) : TE := fun σ H Q => te σ H fun x H1 => tl σ H1 fun l H2 => th σ H2 fun u H3 => r x l u H3 Q
theorem pe_slice {r : V → Option Int → Option Int → Hp → VK → Prop} (hr : SlR X r) (he : PE X e te) (hl : PO X lo tl) (hu : PO X hi th) : PE X (.Subscript e (.Slice lo hi none p2) pos) (tSl r te tl th) := by
  intro pins s σ H Q I h
  refine Subscript_ (thn (he pins s σ H _ I h) fun v s1 zz => ?_)
  obtain ⟨x, H1, I1, r1, q1⟩ := zz
  refine wpAny_Slice (thn (hl pins s1 σ H1 _ I1 q1) fun vl s2 ⟨l, H2, I2, pl, q2⟩ => thn (hu pins s2 σ H2 _ I2 q2) fun vu s3 zz => ?_)
  obtain ⟨u, H3, I3, pu, q3⟩ := zz
  rw [evalPart_none]
  refine wpAny_pure ?_
  have I4 : Inv X pins σ H3 { s3 with heap := s3.heap.push { cls := .type "slice", data := .fields #[vl, vu, .none] } } := I3.kept (t' := s3.toks) fun b ob q => Heap.get?_push_of_some _ q
  obtain ⟨T, id, hT, ht, hg⟩ := hr pins { s3 with heap := s3.heap.push { cls := .type "slice", data := .fields #[vl, vu, .none] } } σ H3 x v vl vu l u s3.heap.objs.size Q I4 r1 (Heap.IsSliceOf.new ..) pl pu q3
  show wpAny (model X.prog X.w) X.A (subscriptTail e (.Slice lo hi none p2) v (.ref s3.heap.objs.size)) (EP X pins σ Q) X.xe { s3 with heap := s3.heap.push { cls := .type "slice", data := .fields #[vl, vu, .none] } }
  exact tail_any (ops := [.ref s3.heap.objs.size, v]) ht hT hg (by with_unfolding_all rfl)

end
end L2

namespace L2
open PySem PySem.Spec PyProof.Rows

noncomputable def ixN (n : Nat) (i : Int) : Option Nat := if 0 ≤ i then (if i < n then some i.toNat else none) else if -(n : Int) ≤ i then some (i + n).toNat else none
noncomputable def atI {α : Type} (xs : List α) (i : Int) : Option α := (ixN xs.length i).bind fun j => xs[j]?
theorem ixN_seq {n : Nat} {i : Int} {j : Nat} (h : ixN n i = some j) : seqIndex? i n = some j ∧ j < n ∧ -(n : Int) ≤ i ∧ i < n := by
  unfold ixN at h
  by_cases h0 : 0 ≤ i
  · rw [if_pos h0] at h
    by_cases h1 : i < n
    · rw [if_pos h1] at h
      have e : i.toNat = j := Option.some.inj h
      exact ⟨by rw [seqIndex_of h0 h1, e], by omega, by omega, h1⟩
    · rw [if_neg h1] at h; cases h
  · rw [if_neg h0] at h
    by_cases h1 : -(n : Int) ≤ i
    · rw [if_pos h1] at h
      have e : (i + n).toNat = j := Option.some.inj h
      exact ⟨by rw [seqIndex_neg (by omega) h1, e], by omega, h1, by omega⟩
    · rw [if_neg h1] at h; cases h
theorem atI_get {α : Type} {xs : List α} {i : Int} {v : α} (h : atI xs i = some v) : ∃ j, seqIndex? i xs.length = some j ∧ xs[j]? = some v ∧ j < xs.length ∧ -(xs.length : Int) ≤ i ∧ i < xs.length := by
  unfold atI at h
  cases e : ixN xs.length i with
  | none => rw [e] at h; cases h
  | some j =>
    rw [e] at h
    obtain ⟨h1, h2, h3, h4⟩ := ixN_seq e
    exact ⟨j, h1, h, h2, h3, h4⟩
noncomputable def PlainIx (b : Expr) : Prop := ∀ o i, subscripted b false o i = operate [o, i] (getItem o i)
noncomputable def IxR (X : Cx) (r : R2) : Prop :=
  ∀ (value slice : Expr) (pins : List (Addr × Obj)) (s : Shared) (σ : St) (H : Hp) (x y : V) (v u : Value) (Q : VK), Inv X pins σ H s → RelV x v → RelV y u → r x y H Q →
    subscripted slice false v u = operate [v, u] (getItem v u) → wpAny (model X.prog X.w) X.A (subscriptTail value slice v u) (EP X pins σ Q) X.xe s
noncomputable def MtR (X : Cx) (id : String) (r : V → List V → Hp → VK → Prop) : Prop :=
  ∀ (pins : List (Addr × Obj)) (s : Shared) (σ : St) (H : Hp) (x : V) (xs : List V) (v : Value) (us : List Value) (Q : VK), Inv X pins σ H s → RelV x v → Vals xs us → r x xs H Q →
    wpAny (model X.prog X.w) X.A (call (.builtin id) (v :: us)) (EP X pins σ Q) X.xe s
section
variable {X : Cx} {a b : Expr} {ta tb : TE} {pos : Pos}
theorem IxR.or {r r' : R2} (h : IxR X r) (h' : IxR X r') : IxR X (fun x y H Q => r x y H Q ∨ r' x y H Q) := by
  intro value slice pins s σ H x y v u Q I rx ry q hs
  rcases q with q | q
  · exact h value slice pins s σ H x y v u Q I rx ry q hs
  · exact h' value slice pins s σ H x y v u Q I rx ry q hs
theorem MtR.or {id : String} {r r' : V → List V → Hp → VK → Prop} (h : MtR X id r) (h' : MtR X id r') : MtR X id (fun x xs H Q => r x xs H Q ∨ r' x xs H Q) := by
  intro pins s σ H x xs v us Q I rx rs q
  rcases q with q | q
  · exact h pins s σ H x xs v us Q I rx rs q
  · exact h' pins s σ H x xs v us Q I rx rs q
theorem pe_ix {r : R2} (hr : IxR X r) (ha : PE X a ta) (hb : PE X b tb) (hs : PlainIx b) : PE X (.Subscript a b pos) (tOp r ta tb) := by
  intro pins s σ H Q I h
  exact Subscript_ (binT ha hb I h fun v u s2 x y H2 I2 rx ry q => hr a b pins s2 σ H2 x y v u Q I2 rx ry q (hs _ _))

noncomputable def rIxL (K : PySem.W.Frag) : R2 := fun x y H Q => ∃ p xs i v, x = .ref p ∧ y = .int i ∧ SqL K H p xs ∧ atI xs i = some v ∧ Q v H
noncomputable def rIxT (K : PySem.W.Frag) : R2 := fun x y H Q => ∃ p xs i v, x = .ref p ∧ y = .int i ∧ SqT K H p xs ∧ atI xs i = some v ∧ Q v H
theorem ix_list : IxR X (rIxL X.K) := by
  intro value slice pins s σ H x y v u Q I rx ry h hs
  obtain ⟨p, xs, i, z, rfl, rfl, hq, he, q⟩ := h
  cases rx
  obtain ⟨t, rfl⟩ := ry
  obtain ⟨its, r, pl, hz⟩ := I.list hq
  obtain ⟨j, h1, h2, h3, h4, h5⟩ := atI_get he
  obtain ⟨w, ew, rw'⟩ := r.get h2
  have hl := r.length
  have hn := line63
  have fin : EP X pins σ Q w s := ⟨z, H, I, rw', q⟩
  by_cases h0 : 0 ≤ i
  · have hj : i.toNat = j := by
      rw [seqIndex_of h0 h5] at h1
      exact Option.some.inj h1
    exact item_listR pl.isList h0 (by omega) (by rw [hj]; simpa using ew) fin hs
  · have hj : (i + (its.toArray.size : Int)).toNat = j := by
      rw [seqIndex_neg (by omega) h4] at h1
      rw [List.size_toArray, ← hl]
      exact Option.some.inj h1
    exact subscriptTail_builtinR (x := w) pl.isList.typeIs slot_list_getitem.lookup
      (wpAny_getItem_list_neg (Q := fun r s' => r = w ∧ EP X pins σ Q r s') pl.isList (by omega) (by rw [List.size_toArray] <;> omega) (by omega) (by rw [hj]; simpa using ew) ⟨rfl, fin⟩) hs
theorem ix_tup : IxR X (rIxT X.K) := by
  intro value slice pins s σ H x y v u Q I rx ry h hs
  obtain ⟨p, xs, i, z, rfl, rfl, hq, he, q⟩ := h
  cases rx
  obtain ⟨t, rfl⟩ := ry
  obtain ⟨its, r, pl, hz⟩ := I.tuple hq
  obtain ⟨j, h1, h2, h3, h4, h5⟩ := atI_get he
  obtain ⟨w, ew, rw'⟩ := r.get h2
  have hl := r.length
  have hn := line63
  have fin : EP X pins σ Q w s := ⟨z, H, I, rw', q⟩
  exact subscriptTail_builtinR (x := w) pl.typeIs slot_tuple_getitem.lookup
    (getItem_tuple (j := j) (Q := fun r s' => r = w ∧ EP X pins σ Q r s') pl (by omega) (by omega) (by rw [List.size_toArray, ← hl]; exact h1) (by simpa using ew) ⟨rfl, fin⟩) hs
theorem mapSeq_set (its : List Value) (n j : Nat) (u : Value) : Obj.mapSeq (·.setIfInBounds j u) { cls := .type "list", data := .seq its.toArray n } = { cls := .type "list", data := .seq (its.set j u).toArray n } := by
  simp [Obj.mapSeq]
theorem Inv.lst {pins : List (Addr × Obj)} {σ : St} {H : Hp} {s : Shared} {p : Addr} {xs : List V} (I : Inv X pins σ H s) (h : H p = some (.lst xs)) :
    ∃ (its : List Value) (n : Nat), Vals xs its ∧ s.heap.get? p = some { cls := .type "list", data := .seq its.toArray n } ∧ xs.length ≤ sizeLine := by
  obtain ⟨z, its, n, r, e⟩ := I.hok p _ h
  exact ⟨its, n, r, e, z⟩
theorem Inv.lstUpd {pins : List (Addr × Obj)} {σ : St} {H : Hp} {s : Shared} {p : Addr} {xs ys : List V} {its its' : List Value} {n n' : Nat} {f : Obj → Obj} (I : Inv X pins σ H s) (h : H p = some (.lst xs))
    (ho : s.heap.get? p = some { cls := .type "list", data := .seq its.toArray n }) (hf : f { cls := .type "list", data := .seq its.toArray n } = { cls := .type "list", data := .seq its'.toArray n' }) (r : Vals ys its') (hz : ys.length ≤ sizeLine) (t : Nat) :
    Inv X pins σ (upd H p (.lst ys)) { s with heap := s.heap.update p f, toks := t } := by
  have e : (s.heap.update p f).get? p = some { cls := .type "list", data := .seq its'.toArray n' } := by
    rw [Heap.get?_update_self f ho (by rw [hf] <;> rfl), hf]
  refine I.write (x := p) (e := p) (by rw [h]; trivial) (.inl rfl) (fun b u hb q => (Heap.get?_update_other _ _ (Ne.symm hb)).trans q) ⟨_, e⟩ ?_
  exact ⟨hz, its', n', r, e⟩
noncomputable def rSetL : V → V → V → Hp → (Hp → Prop) → Prop := fun o i v H Q => ∃ p xs k j, o = .ref p ∧ i = .int k ∧ H p = some (.lst xs) ∧ ixN xs.length k = some j ∧ Q (upd H p (.lst (xs.set j v)))
theorem set_list : PSet X rSetL := by
  intro pins s σ H o i v ov iv u Q I ro ri rv h
  obtain ⟨p, xs, k, j, rfl, rfl, hp, hj, q⟩ := h
  cases ro
  obtain ⟨t, rfl⟩ := ri
  obtain ⟨its, n, r, ho, hz⟩ := I.lst hp
  obtain ⟨h1, h2, h3, h4⟩ := ixN_seq hj
  have hl := r.length
  have hn := line63
  have I' : Inv X pins σ (upd H p (.lst (xs.set j v))) { s with heap := s.heap.update p (Obj.mapSeq (·.setIfInBounds j u)) } :=
    I.lstUpd hp ho (mapSeq_set its n j u) (r.set rv j) (by rw [List.length_set]; exact hz) s.toks
  by_cases h0 : 0 ≤ k
  · have hk : k.toNat = j := by
      rw [seqIndex_of h0 h4] at h1
      exact Option.some.inj h1
    exact PySem.W.ki_setAt ho h0 (by omega) (by rw [List.size_toArray, ← hl]; exact h4) (by rw [hk]; exact ⟨_, I', q⟩)
  · have hk : (k + (its.toArray.size : Int)).toNat = j := by
      rw [seqIndex_neg (by omega) h3] at h1
      rw [List.size_toArray, ← hl]
      exact Option.some.inj h1
    exact PySem.W.ki_setBack ho (by omega) (by rw [List.size_toArray, ← hl]; exact h3) (by omega) (by rw [hk]; exact ⟨_, I', q⟩)

theorem call_len_seq : CallR X (.builtin "len") (fun xs H Q => ∃ p ys, xs = [.ref p] ∧ (SqL X.K H p ys ∨ SqT X.K H p ys) ∧ Q (.int ys.length) H) := by
  intro pins s σ H xs us Q I r h
  obtain ⟨p, ys, rfl, hq, q⟩ := h
  obtain ⟨u, rfl, rx⟩ := vals1 r
  cases rx
  have hn := line63
  rcases hq with hq | hq
  · obtain ⟨its, r', pl, hz⟩ := I.list hq
    have hlen := r'.length
    exact Calls.call_len_list pl.isList (by simp only [List.size_toArray] <;> omega) ⟨.int ys.length, H, I.tok _, ⟨s.toks + 1, by rw [List.size_toArray, hlen]⟩, q⟩
  · obtain ⟨its, r', pl, hz⟩ := I.tuple hq
    have hlen := r'.length
    exact len_tuple pl (by simp only [List.size_toArray] <;> omega) ⟨.int ys.length, H, I.tok _, ⟨s.toks + 1, by rw [List.size_toArray, hlen]⟩, q⟩
theorem call_len_str : CallR X (.builtin "len") (fun xs H Q => ∃ z, xs = [.str z] ∧ z.length ≤ sizeLine ∧ Q (.int z.length) H) := by
  intro pins s σ H xs us Q I r h
  obtain ⟨z, rfl, hz, q⟩ := h
  obtain ⟨u, rfl, t, rfl⟩ := vals1 r
  have hn := line63
  exact len_str (by omega) ⟨.int z.length, H, I.tok _, ⟨_, rfl⟩, q⟩
theorem CallR.or {f : Value} {r r' : List V → Hp → VK → Prop} (h : CallR X f r) (h' : CallR X f r') : CallR X f (fun xs H Q => r xs H Q ∨ r' xs H Q) := by
  intro pins s σ H xs us Q I rs q
  rcases q with q | q
  · exact h pins s σ H xs us Q I rs q
  · exact h' pins s σ H xs us Q I rs q
noncomputable def tyV (K : PySem.W.Frag) (T : String) (x : V) (H : Hp) : Prop := match x with
  | .str _ => T = "str"
  | .int _ => T = "int"
  | .ref p => (T = "list" ∧ ∃ xs, SqL K H p xs) ∨ (T = "tuple" ∧ ∃ o, K.lookup p = some o ∧ o.cls = .type "tuple" ∧ o.dict = none) ∨
      (T = "dict" ∧ ((∃ kvs, H p = some (.dK kvs)) ∨ ∃ kvs, H p = some (.dT kvs))) ∨ (T = "set" ∧ ∃ S n, H p = some (.set S n))
  | _ => False
theorem tyV_is {pins : List (Addr × Obj)} {σ : St} {H : Hp} {s : Shared} {T : String} {x : V} {v : Value} (I : Inv X pins σ H s) (r : RelV x v) (ty : tyV X.K T x H) :
    s.TypeIs v T ∧ ∀ a, v = .ref a → ∃ ob, s.heap.get? a = some ob ∧ ob.dict = none := by
  cases x with
  | str z =>
    obtain ⟨t, rfl⟩ := r
    cases (show T = "str" from ty)
    exact ⟨typeIs_str s z t, fun _ e => nomatch e⟩
  | int i =>
    obtain ⟨t, rfl⟩ := r
    cases (show T = "int" from ty)
    exact ⟨typeIs_int s i t, fun _ e => nomatch e⟩
  | ref p =>
    cases r
    rcases ty with ⟨rfl, xs, hq⟩ | ⟨rfl, o, hk, hc, hd⟩ | ⟨rfl, hk⟩ | ⟨rfl, S, n, hk⟩
    · obtain ⟨its, _, pl, _⟩ := I.list hq
      refine ⟨pl.isList.typeIs, fun a e => ?_⟩
      cases e
      obtain ⟨o, n, e, c, hd, _⟩ := pl
      exact ⟨o, e, hd⟩
    · refine ⟨⟨o, I.kIn p o hk, hc⟩, fun a e => ?_⟩
      cases e
      exact ⟨o, I.kIn _ o hk, hd⟩
    · have z : ∃ o, s.heap.get? p = some o ∧ o.ExactDict := by
        rcases hk with ⟨kvs, hk⟩ | ⟨kvs, hk⟩
        · obtain ⟨_, _, _, _, o, _, _, e, ex, _⟩ := I.hok p _ hk
          exact ⟨o, e, ex⟩
        · obtain ⟨_, _, _, _, o, _, _, e, ex, _⟩ := I.hok p _ hk
          exact ⟨o, e, ex⟩
      obtain ⟨o, e, ex⟩ := z
      refine ⟨⟨o, e, ex.1⟩, fun a e2 => ?_⟩
      cases e2
      exact ⟨o, e, ex.2.1⟩
    · obtain ⟨o, _, _, _, e, ex, _⟩ := I.hok p _ hk
      refine ⟨⟨o, e, ex.1⟩, fun a e2 => ?_⟩
      cases e2
      exact ⟨o, e, ex.2.1⟩
  | _ => exact False.elim ty
noncomputable def tBM (K : PySem.W.Frag) (T : String) (r : V → List V → Hp → VK → Prop) (to : TE) (t : TA) : TE := fun σ H Q => to σ H fun x H1 => tyV K T x H1 ∧ t σ H1 fun xs H2 => r x xs H2 Q
variable {o e : Expr} {es : List Expr} {to : TE} {t : TA} {name : Str} {apos cpos : Pos} {T id : String} {r : V → List V → Hp → VK → Prop}
theorem pe_bm (pa : PlainAttrs T) (slot : Slot T name id) (hty : typeOf (.builtin id) = pure (.type "method_descriptor")) (hm : MtR X id r) (ho : PE X o to) (ha : PA X (e :: es) t)
    (hbase : attributeBase o name X.env (eval o X.env) = eval o X.env := by rfl)
    (hfew : ((backTo cpos (starEach (e :: es) X.env)).all (fun x => !x.1) && (backToKw cpos (keywordEach [] X.env)).all (fun x => x.1.isSome)
      && decide ((e :: es).length + ([] : List Keyword).length + (if ([] : List Keyword).isEmpty then 0 else 1) < 30)) = true := by rfl)
    (hline : (apos.endLine == cpos.line) = true := by rfl) (hs : starEach (e :: es) X.env = (false, eval e X.env) :: starEach es X.env := by rfl) (hplain : (backTo cpos (starEach es X.env)).any (·.1) = false := by rfl) :
    PE X (.Call (.Attribute o name apos) (e :: es) [] cpos) (tBM X.K T r to t) := by
  intro pins s σ H Q I h
  refine wpAny_Call_method_late hbase hfew hline rfl (thn (ho pins s σ H _ I h) fun v s1 zz => ?_)
  obtain ⟨x, H1, I1, r1, ty, q1⟩ := zz
  obtain ⟨h1, h2⟩ := tyV_is I1 r1 ty
  refine ⟨T, id, pa, slot, hty, h1, h2, ?_⟩
  have hA := ha cpos pins s1 σ H1 _ I1 q1
  rw [hs] at hA ⊢
  refine Calls.callWith_builtin (by show (false || (backTo cpos (starEach es X.env)).any (·.1)) = false; rw [hplain] <;> rfl) (Calls.evalArgs_plain ?_)
  exact thn hA fun us s2 ⟨vs, H2, I2, r2, q2⟩ => hm pins s2 σ H2 x vs v us Q I2 r1 r2 q2
/- xs.append(e), list.index on a module's tuple .. are MtR facts of 06m -/
end
end L2

namespace L2
open PySem PySem.Spec PyProof.Rows

noncomputable def MtM (X : Cx) (id : String) (r : V → List V → Hp → VK → Prop) : Prop :=
  ∀ (pins : List (Addr × Obj)) (s : Shared) (σ : St) (H : Hp) (x : V) (xs : List V) (v : Value) (us : List Value) (Q : VK), Inv X pins σ H s → RelV x v → Vals xs us → r x xs H Q →
    wpAny (model X.prog X.w) X.A (call (.builtin id) (v :: us)) (EP X pins σ Q) X.xe s

theorem Vals.one {x : V} {us : List Value} (h : Vals [x] us) : ∃ u, us = [u] ∧ RelV x u := by
  cases h with | cons r t => cases t; exact ⟨_, rfl, r⟩
theorem Vals.two {x y : V} {us : List Value} (h : Vals [x, y] us) : ∃ u v, us = [u, v] ∧ RelV x u ∧ RelV y v := by
  cases h with | cons r t => cases t with | cons q t2 => cases t2; exact ⟨_, _, rfl, r, q⟩
theorem Vals.zero : ∀ {us : List Value}, Vals [] us → us = []
  | _, .nil => rfl
theorem Vals.dropLast {xs : List V} {us : List Value} (h : Vals xs us) : Vals xs.dropLast us.dropLast := by
  induction h with
  | nil => exact .nil
  | cons r t ih =>
    cases t with
    | nil => exact .nil
    | cons q t' => exact .cons r ih
theorem Vals.reverse {xs : List V} {us : List Value} (h : Vals xs us) : Vals xs.reverse us.reverse := by
  induction h with
  | nil => exact .nil
  | cons r t ih => rw [List.reverse_cons, List.reverse_cons]; exact Vals.append ih (.cons r .nil)
section
variable {X : Cx} {pins : List (Addr × Obj)} {σ : St} {H : Hp} {s : Shared} {l b : Addr} {xs ys zs : List V}

theorem Inv.lset {its its' : List Value} {n : Nat} {f : Array Value → Array Value} {t' : Nat} (I : Inv X pins σ H s) (hH : H l = some (.lst xs))
    (e : s.heap.get? l = some { cls := .type "list", data := .seq its.toArray n }) (hf : f its.toArray = its'.toArray) (hv : Vals ys its') (hz : ys.length ≤ sizeLine) :
    Inv X pins σ (upd H l (.lst ys)) { s with heap := s.heap.update l (Obj.mapSeq f), toks := t' } := by
  have q := PySem.IsL.update e f
  rw [hf] at q
  refine I.write (x := l) (e := l) (by rw [hH]; exact trivial) (.inl rfl) (fun b' u hb hu => (Heap.get?_update_other s.heap (Obj.mapSeq f) (Ne.symm hb)).trans hu) ⟨_, q⟩ ?_
  exact ⟨hz, its', _, hv, q⟩
theorem Inv.lnew {its : List Value} {t' : Nat} (I : Inv X pins σ H s) (hv : Vals ys its) (hz : ys.length ≤ sizeLine) :
    Inv X pins σ (upd H s.heap.objs.size (.lst ys)) { s with heap := s.heap.push { cls := .type "list", data := .seq its.toArray }, toks := t' } :=
  I.laid (fun _ _ q => Heap.get?_push_of_some _ q) (Nat.le_refl _) ⟨hz, its, 0, hv, Heap.get?_push_size _ rfl⟩
theorem Inv.fresh (I : Inv X pins σ H s) : H s.heap.objs.size = none := I.hok.fresh (Nat.le_refl _)
theorem Inv.lstM (I : Inv X pins σ H s) (hH : H l = some (.lst xs)) : xs.length ≤ sizeLine ∧ ∃ (its : List Value) (n : Nat), Vals xs its ∧ xs.length = its.length ∧ s.heap.get? l = some { cls := .type "list", data := .seq its.toArray n } := by
  obtain ⟨z, its, n, r, e⟩ := I.hok l _ hH
  exact ⟨z, its, n, r, r.length, e⟩

end

section
variable {X : Cx}

noncomputable def rAppend : V → List V → Hp → VK → Prop := fun x vs H Q => ∃ l xs y, x = .ref l ∧ vs = [y] ∧ H l = some (.lst xs) ∧ xs.length < sizeLine ∧ Q .non (upd H l (.lst (xs ++ [y])))
theorem mt_append : MtM X "list.append" rAppend := by
  intro pins s σ H x vs v us Q I rx rv h
  obtain ⟨l, xs, y, rfl, rfl, hH, hz, q⟩ := h
  cases rx
  obtain ⟨u, rfl, ru⟩ := rv.one
  obtain ⟨z, its, n, r, hl, e⟩ := I.lstM hH
  refine call_meets F.slot_list_append ⟨_, e, rfl⟩ F.entry_list_append (F.args_list_append_2 _ _) (PySem.list_append l its.toArray n u (by rw [List.size_toArray]; omega)) ⟨e, ?_⟩
  refine ⟨.non, _, I.lset (its' := its ++ [u]) hH e (by simp) (r.append (.cons ru .nil)) ?_, rfl, q⟩
  rw [List.length_append, List.length_singleton]
  omega

end

section
variable {prog : Program} {w : World} {A : Around} {E : Value → Shared → Prop} {s : Shared}
end

section
variable {X : Cx}
end
end L2

namespace Att
open PySem PySem.W PySem.Calls PyProof.Rows

theorem ints_of_wellAll {P : Params} {h : Heap} : ∀ (ns : List Int) (vs : List Value), WellAll P h vs (ns.map WData.int) → IntsAre vs ns := by
  intro ns
  induction ns with
  | nil =>
    intro vs w
    rw [List.map_nil] at w
    cases w
    exact .nil
  | cons n ns ih =>
    intro vs w
    rw [List.map_cons] at w
    cases w with
    | cons a b =>
      cases a
      exact .cons _ _ (ih _ b)

theorem script_of {l : OpenLaw} {n : Nat} (hn : l.most = some n) {P : Params} {h : Heap} {args : List WData} {vals : List Value}
    (hpre : l.row.toRowW.claim.pre args = true) (hwl : WellAll P h vals args) :
    ∃ a vs ns, vals = [Value.ref a] ∧ args = [WData.list (ns.map WData.int)] ∧ h.get? a = some { cls := .type "list", data := .seq vs.toArray } ∧ IntsAre vs ns ∧ ns.length ≤ n := by
  have hsh : WShape.hasAll [] args [.list .int] = true := (pre_splitW hpre).1
  have hc : l.pre.holds [] { args := args } = true := (pre_splitW hpre).2
  obtain ⟨d, r, rfl, h1, h2⟩ := hasAllW_cons hsh
  obtain rfl := hasAllW_nil h2
  obtain ⟨xs, rfl, h3⟩ := hasW_list h1
  obtain ⟨ns, rfl⟩ := items_int h3
  have hlen : ns.length ≤ n := by
    unfold OpenLaw.pre at hc
    have h4 : (WTm.not (.lt (.lit (.int (n : Int))) (.len (.arg 0)))).holds [] { args := [.list (ns.map .int)] } = true := by
      have h4 := (holds_andW hc).1
      rw [hn] at h4
      exact h4
    have h5 := condW_of h4 (w_not (w_lt w_lit (w_len_list (w_arg rfl))))
    rw [List.length_map] at h5
    refine Nat.le_of_not_lt fun q => ?_
    have q' : (n : Int) < ((ns.length : Nat) : Int) := by omega
    first
      | (rw [decide_eq_true q'] at h5; exact absurd h5 (by decide))
      | (simp at h5; omega)
  cases hwl with
  | cons w1 w2 =>
    cases w2
    cases w1 with
    | list ho hall => exact ⟨_, _, ns, rfl, rfl, ho, ints_of_wellAll ns _ hall, hlen⟩

theorem post_true (l : OpenLaw) (args : List WData) : l.row.toRowW.claim.post args (.bool true) args = true :=
  postW_of (r := l.row.toRowW) (X := (true == true))
    (show WShape.has [] (.bool true) .bool = true by first | rfl | decide | simp [WShape.has, WShape.arms, WShape.armsAll])
    (show (WTm.eq .res (.lit (.bool true))).value [] { args := args, res := some (.bool true), after := args } = some (.bool (true == true)) from w_eq_bool (w_res rfl) w_lit) rfl

theorem attach_call {l : OpenLaw} {n : Nat} {q : Program} {loose : List Str} {XP : (Str → Option Value) → Heap → Prop} {YP : World → Heap → Prop} {d : DefRec}
    (hn : l.most = some n) (hdf : d.params.defaults = [])
    (call : ∀ (w : World) (s₀ s₁ : Shared) (mg mb : Str → Option Value) (fa : Addr) (o : Obj) (pm cd doc : Value) (a : Addr) (vs : List Value) (ns : List Int),
      Ground q loose [] XP w s₀ mg mb s₁.heap → YP w s₁.heap →
      s₁.heap.get? fa = some o → o.data = .func (docDef d.name d.params d.body d.scope pm cd doc) → s₁.heap.CodeRec cd d.name → mg d.name = some (.ref fa) →
      s₁.heap.get? a = some { cls := .type "list", data := .seq vs.toArray } → IntsAre vs ns → ns.length ≤ n → s₁.gens = #[] →
      codeAny (model l.prog w) callerA (.call (.ref fa) ⟨[.ref a], []⟩) (fun r s' => r = .ok (.ret (.bool true)) ∧ OldK s₁.heap s'.heap ∧ s'.os = s₁.os ∧ AllBare s'.gens) s₁) :
    WalkO q loose XP YP l.row.toRowW d [] (fun f vs => PySem.call f vs) := by
  intro w s₀ s₁ mg mb G Y fa o pm cd doc dV kV ho hd hcd hD hmg hg args vals as hpre hlay hrd hwl hlo
  obtain rfl : dV = .none := Dflts.none hD hdf
  obtain rfl : kV = .none := Dflts.noKw hD
  obtain ⟨a, vs, ns, rfl, rfl, hobj, hints, hlen⟩ := script_of hn hpre hwl
  refine enter_call (codeAny_mono (call w s₀ s₁ mg mb fa o pm cd doc a vs ns G Y ho (fd_plain hd) hcd hmg hobj hints hlen hg) fun r s' hq => ?_)
  obtain ⟨rfl, h2, h3, h4⟩ := hq
  exact ⟨.inl ⟨.bool true, .bool true, [], rfl, fun _ => rfl, .bool true, post_true l _, fun _ => ⟨List.Pairwise.nil, fun _ hm => (nomatch hm)⟩⟩, h2, h3, h4⟩

section
variable {prog : Program} {w : World} {A : Around} {E : Value → Shared → Prop} {s : Shared} {K : Frag}

end
end Att

namespace L2
open PySem PySem.Spec PyProof.Rows

theorem vals_ints : ∀ {vs : List Value} {ns : List Int}, IntsAre vs ns → Vals (ns.map V.int) vs
  | _, _, .nil => .nil
  | _, _, .cons n t h => .cons ⟨t, rfl⟩ (vals_ints h)

noncomputable def Only (H : Hp) : Prop := ∀ b, H b = none ∨ ∃ o xs, H b = some (.frz o (.lst xs))

theorem law_call {P : Program} {w : World} {K : PySem.W.Frag} {mg mb : Str → Option Value} {CX : CXT} {k : Nat} {fa a : Addr} {fd : FuncData} {x : Str} {sp : Sp} {s₁ : Shared} {vs : List Value} {ns : List Int}
    (KX : K.In s₁.heap) (hns : s₁.heap.Ns mainGlobals mg) (hb : s₁.heap.Ns builtinsNs mb) (hbb : ∀ x : Str, x ≠ "__name__" → mb x = bootBuiltins x) (hlim : s₁.heap.NoLimit) (hdig : s₁.heap.NoDigits) (hg : s₁.gens = #[])
    (ha : s₁.heap.get? a = some { cls := .type "list", data := .seq vs.toArray }) (hi : IntsAre vs ns) (hl : ns.length ≤ sizeLine) (hr : Room k callerA)
    (F : ∀ base : Heap, K.In base → base.Ns mainGlobals mg → base.NoDigits → FnOk P w K mg base CX k fa fd [x] sp) (hbind : ∀ (s : Shared) (u : Value), BindsTo s fd ⟨[u], []⟩ [(x, u)])
    (hsp : ∀ H : Hp, Only H → SqL K H a (ns.map V.int) → sp [.ref a] H (fun v _ => v = .bl true) fun _ _ _ => False)
    (hCX : ∀ H e s', CX [] H s₁ (fun _ _ _ => False) e s' → False) :
    codeAny (model P w) callerA (.call (.ref fa) ⟨[.ref a], []⟩) (fun r s' => r = .ok (.ret (.bool true)) ∧ OldK s₁.heap s'.heap ∧ s'.os = s₁.os ∧ AllBare s'.gens) s₁ := by
  have rv := vals_ints hi
  have lenV := hi.length
  -- from an abstract heap in which nothing but the script may be tracked
  have core : ∀ H : Hp, Only H → SqL K H a (ns.map V.int) → HOk P w H s₁.heap → (∀ b, H b ≠ none → b = a) → (H a ≠ none → K.lookup a = none) →
      codeAny (model P w) callerA (.call (.ref fa) ⟨[.ref a], []⟩) (fun r s' => r = .ok (.ret (.bool true)) ∧ OldK s₁.heap s'.heap ∧ s'.os = s₁.os ∧ AllBare s'.gens) s₁ := by
    intro H hO hS hok hA hK
    have base_of : ∀ {b : Addr} {o : Obj}, s₁.heap.get? b = some o → H b = none → (hidT s₁.heap H).get? b = some o := fun e n => hidT_get e n
    have noA : ∀ {b : Addr} {o : Obj} {es : Array DictEntry} {ep : Nat}, s₁.heap.get? b = some o → o.data = .dict es ep → H b = none := fun {b o es ep} e d => by
      cases q : H b with
      | none => rfl
      | some u =>
        have e' : b = a := hA b (by rw [q]; simp)
        subst e'
        rw [ha] at e; cases e
        have d' : Data.seq vs.toArray _ = Data.dict es ep := d
        cases d'
    have nsK : ∀ {b : Addr} {m : Str → Option Value}, s₁.heap.Ns b m → (hidT s₁.heap H).Ns b m := fun {b m} ⟨o, es, ep, e, d, r⟩ => ⟨o, es, ep, base_of e (noA e d), d, r⟩
    have hKb : K.In (hidT s₁.heap H) := fun b o e => base_of (KX b o e) (by
      cases q : H b with
      | none => rfl
      | some u =>
        have e' : b = a := hA b (by rw [q]; simp)
        subst e'
        rw [hK (by rw [q]; simp)] at e; cases e)
    have hM : Mod K mg (hidT s₁.heap H) := ⟨hKb, nsK hns, ⟨mb, nsK hb, hbb⟩, let ⟨mc, h1, h2⟩ := hlim; ⟨mc, nsK h1, h2⟩⟩
    have e0 : Env0 P w K mg (hidT s₁.heap H) callerA [] s₁ H := ⟨rfl, hM, fun b o e => of_hidT e, Nat.le_of_eq (hidT_size _ _), trivial, fun b hb => absurd (show b ∈ ([] : List Addr) from hb) (by simp), hok, .of_eq hg⟩
    refine codeAny_mono ((F _ hKb (nsK hns) (let ⟨mc, h1, h2⟩ := hdig; ⟨mc, nsK h1, h2⟩)).run callerA [] s₁ H ⟨[.ref a], []⟩ [.ref a] [.ref a] _ _ hr e0 (hbind s₁ (.ref a)) (.cons rfl .nil) (hsp H hO hS)) fun r s' h => ?_
    cases r with
    | error e => exact (hCX H e s' h).elim
    | ok fl =>
      cases fl with
      | next => exact False.elim h
      | brk => exact False.elim h
      | cont => exact False.elim h
      | ret u =>
        obtain ⟨v, H', os, bare, un, hok', r', q⟩ := h
        have q' : v = .bl true := q
        subst q'
        obtain rfl : u = Value.bool true := r'
        refine ⟨rfl, OldK.of_keep fun b o e => ?_, os, bare⟩
        cases q : H b with
        | none => exact un.keep b o e q (by intro z; exact absurd (show b ∈ ([] : List Addr) from z) (by simp)) (by simp)
        | some u =>
          rcases hO b with z | ⟨ob, xs, z⟩
          · rw [q] at z; cases z
          · have z2 := un.frzs b ob _ z
            obtain ⟨e1, _⟩ := hok b _ z
            obtain ⟨e2, _⟩ := hok' b _ z2
            rw [e] at e1; cases e1
            exact e2
  cases hk : K.lookup a with
  | some o =>
    -- the script is one of the module's own objects
    have e := KX a o hk
    rw [ha] at e
    cases e
    refine core (fun _ => none) (fun _ => .inl rfl) (.inr ⟨_, vs.toArray, _, hk, rfl, rfl, rfl, by rw [List.size_toArray, lenV]; exact hl, by simpa using rv⟩) (fun b u z => by have z' : (none : Option HO) = some u := z; cases z') (fun b z => absurd rfl z) fun z => absurd rfl z
  | none =>
    refine core (fun b => if b = a then some (.frz { cls := .type "list", data := .seq vs.toArray } (.lst (ns.map V.int))) else none) (fun b => ?_) (.inl (.inr ⟨{ cls := .type "list", data := .seq vs.toArray }, if_pos rfl⟩)) (fun b u z => ?_) (fun b z => ?_) fun _ => hk
    · by_cases hb : b = a
      · exact .inr ⟨_, _, if_pos hb⟩
      · exact .inl (if_neg hb)
    · by_cases hb : b = a
      · have z' := (if_pos hb).symm.trans z
        cases z'
        subst hb
        exact ⟨ha, by rw [List.length_map]; exact hl, vs, _, rv, ha⟩
      · have z' := (if_neg hb).symm.trans z
        cases z'
    · by_cases hb : b = a
      · exact hb
      · exact absurd (if_neg hb) z
end L2

namespace L2
open PySem PySem.Spec PyProof.Rows

theorem walk_of {l : PySem.W.OpenLaw} {n k : Nat} {q : Program} {loose : List Str} {XP : (Str → Option Value) → Heap → Prop} {YP : World → Heap → Prop} {d : DefRec} {K : Params → PySem.W.Frag} {CX : World → CXT} {sp : World → Sp} {x : Str}
    (hn : l.most = some n) (hn2 : n ≤ sizeLine) (hdf : d.params.defaults = []) (hr : Room k callerA)
    (hY : ∀ (w : World) (h : Heap), YP w h → (K w.params).In h)
    (F : ∀ (w : World) (mg : Str → Option Value) (fa : Addr) (h : Heap), (K w.params).In h → h.Ns mainGlobals mg → mg d.name = some (.ref fa) →
      ∃ fd : FuncData, (∀ (s : Shared) (u : Value), BindsTo s fd ⟨[u], []⟩ [(x, u)]) ∧
        ∀ base : Heap, (K w.params).In base → base.Ns mainGlobals mg → base.NoDigits → FnOk l.prog w (K w.params) mg base (CX w) k fa fd [x] (sp w))
    (hsp : ∀ (w : World) (H : Hp) (a : Addr) (ns : List Int), ns.length ≤ n → Only H → SqL (K w.params) H a (ns.map V.int) → sp w [.ref a] H (fun v _ => v = .bl true) fun _ _ _ => False)
    (hCX : ∀ (w : World) (H : Hp) (s : Shared) (e : Value) (s' : Shared), CX w [] H s (fun _ _ _ => False) e s' → False) :
    PySem.W.WalkO q loose XP YP l.row.toRowW d [] (fun f vs => PySem.call f vs) := by
  refine Att.attach_call hn hdf fun w s₀ s₁ mg mb fa o pm cd doc a vs ns G Y ho hd hcd hmg hobj hints hlen hg => ?_
  have KX := hY w _ Y
  obtain ⟨fd, hb, hF⟩ := F w mg fa _ KX G.T.g hmg
  exact law_call KX G.T.g G.T.b G.T.builtins G.T.nolimit G.T.nodigits hg hobj hints (Nat.le_trans hlen hn2) hr hF hb (fun H hO hS => hsp w H a ns hlen hO hS) fun H e s' => hCX w H s₁ e s'
theorem walk_ofK {l : PySem.W.OpenLaw} {n k : Nat} {q : Program} {loose : List Str} {XP : (Str → Option Value) → Heap → Prop} {YP : World → Heap → Prop} {d : DefRec} {K : Params → PySem.W.Frag} {CX : CXT} {sp : PySem.W.Frag → Sp} {x : Str}
    (hn : l.most = some n) (hn2 : n ≤ sizeLine) (hdf : d.params.defaults = []) (hr : Room k callerA)
    (hY : ∀ (w : World) (h : Heap), YP w h → (K w.params).In h)
    (F : ∀ (w : World) (mg : Str → Option Value) (fa : Addr) (h : Heap), (K w.params).In h → h.Ns mainGlobals mg → mg d.name = some (.ref fa) →
      ∃ fd : FuncData, (∀ (s : Shared) (u : Value), BindsTo s fd ⟨[u], []⟩ [(x, u)]) ∧
        ∀ base : Heap, (K w.params).In base → base.Ns mainGlobals mg → base.NoDigits → FnOk l.prog w (K w.params) mg base CX k fa fd [x] (sp (K w.params)))
    (hsp : ∀ (K : PySem.W.Frag) (H : Hp) (a : Addr) (ns : List Int), ns.length ≤ n → Only H → SqL K H a (ns.map V.int) → sp K [.ref a] H (fun v _ => v = .bl true) fun _ _ _ => False)
    (hCX : ∀ (H : Hp) (s : Shared) (e : Value) (s' : Shared), CX [] H s (fun _ _ _ => False) e s' → False) :
    PySem.W.WalkO q loose XP YP l.row.toRowW d [] (fun f vs => PySem.call f vs) :=
  walk_of (K := K) (CX := fun _ => CX) (sp := fun w => sp (K w.params)) hn hn2 hdf hr hY F (fun w H a ns h1 h2 h3 => hsp (K w.params) H a ns h1 h2 h3) fun _ H s e s' => hCX H s e s'
end L2


namespace L2
open PySem PySem.Spec PyProof.Rows

noncomputable def defArgs (s : Stmt) : Arguments := match s with
  | .FunctionDef _ a _ _ _ _ _ _ _ _ => a
  | _ => { posonlyargs := [], args := [], vararg := none, kwonlyargs := [], kw_defaults := [], kwarg := none, defaults := [] }
noncomputable def defBody (s : Stmt) : List Stmt := match s with
  | .FunctionDef _ _ b _ _ _ _ _ _ _ => b
  | _ => []
noncomputable def defScope (s : Stmt) : Scope := match s with
  | .FunctionDef _ _ _ _ _ _ sc _ _ _ => sc
  | _ => { kind := .function, names := [], isGenerator := false, isCoroutine := false }

noncomputable abbrev CX0 : CXT := fun _ _ _ _ _ _ => False
noncomputable abbrev E0 : XK := fun _ _ _ => False
theorem pass0 {X : Cx} : Passes CX0 X E0 := fun _ _ _ _ _ _ _ h => h.elim

section
variable {P : Program} {w : World} {K : PySem.W.Frag} {mg : Str → Option Value} {base : Heap}
end
section
variable {X : Cx}
end

end L2

end
namespace RM
open Rat
noncomputable def bl (n : Nat) : Nat := n.log2 + 1
theorem lt_bl (n : Nat) : n < 2 ^ bl n := Nat.lt_log2_self
theorem bl_le {n k : Nat} (h : n < 2 ^ k) (hk : 0 < k) : bl n ≤ k := by
  unfold bl
  rcases Nat.eq_zero_or_pos n with h0 | h0
  · subst h0; rw [Nat.log2_zero]; omega
  · have := (Nat.log2_lt (Nat.pos_iff_ne_zero.mp h0)).mpr h
    omega
theorem bl_pos (n : Nat) : 0 < bl n := Nat.succ_pos _
theorem bl_mono {m n : Nat} (h : m ≤ n) : bl m ≤ bl n := bl_le (Nat.lt_of_le_of_lt h (lt_bl n)) (bl_pos n)
theorem bl_mul (m n : Nat) : bl (m * n) ≤ bl m + bl n := by
  refine bl_le ?_ (Nat.add_pos_left (bl_pos m) _)
  rw [Nat.pow_add]
  exact Nat.mul_lt_mul'' (lt_bl m) (lt_bl n)
theorem bl_add (m n : Nat) : bl (m + n) ≤ max (bl m) (bl n) + 1 := by
  refine bl_le ?_ (Nat.succ_pos _)
  have h1 := lt_bl m
  have h2 := lt_bl n
  have e1 : 2 ^ bl m ≤ 2 ^ max (bl m) (bl n) := Nat.pow_le_pow_right (by decide) (Nat.le_max_left _ _)
  have e2 : 2 ^ bl n ≤ 2 ^ max (bl m) (bl n) := Nat.pow_le_pow_right (by decide) (Nat.le_max_right _ _)
  rw [Nat.pow_succ]
  omega
noncomputable def sz (q : Rat) : Nat := max (bl q.num.natAbs) (bl q.den)
theorem sz_num (q : Rat) : bl q.num.natAbs ≤ sz q := Nat.le_max_left _ _
theorem sz_den (q : Rat) : bl q.den ≤ sz q := Nat.le_max_right _ _
theorem sz_le {q : Rat} {n : Nat} (h1 : bl q.num.natAbs ≤ n) (h2 : bl q.den ≤ n) : sz q ≤ n := Nat.max_le.mpr ⟨h1, h2⟩
theorem num_le (a b : Int) : (divInt a b).num.natAbs ≤ a.natAbs := by
  rw [num_divInt]
  rcases Int.lt_trichotomy b 0 with h | h | h
  · rw [Int.sign_eq_neg_one_of_neg h]
    refine Nat.le_trans (Int.natAbs_ediv_le_natAbs _ _) ?_
    simp
  · subst h; simp
  · rw [Int.sign_eq_one_of_pos h, Int.one_mul]
    exact Int.natAbs_ediv_le_natAbs _ _
theorem den_le (a b : Int) (hb : b ≠ 0) : (divInt a b).den ≤ b.natAbs := by
  rw [den_divInt, if_neg hb]
  exact Nat.div_le_self _ _
theorem sz_divInt (a b : Int) (hb : b ≠ 0) : sz (divInt a b) ≤ max (bl a.natAbs) (bl b.natAbs) :=
  sz_le (Nat.le_trans (bl_mono (num_le a b)) (Nat.le_max_left _ _)) (Nat.le_trans (bl_mono (den_le a b hb)) (Nat.le_max_right _ _))
theorem den_ne (q : Rat) : (q.den : Int) ≠ 0 := by have := q.den_nz; omega
theorem add_eq (q r : Rat) : q + r = divInt (q.num * r.den + r.num * q.den) (q.den * r.den) := by
  conv => lhs; rw [← num_divInt_den q, ← num_divInt_den r]
  rw [divInt_add_divInt _ _ (den_ne q) (den_ne r)]
theorem mul_eq (q r : Rat) : q * r = divInt (q.num * r.num) (q.den * r.den) := by
  conv => lhs; rw [← num_divInt_den q, ← num_divInt_den r]
  rw [divInt_mul_divInt]
theorem natAbs_add_le' (a b : Int) : (a + b).natAbs ≤ a.natAbs + b.natAbs := Int.natAbs_add_le a b
theorem sz_add (q r : Rat) : sz (q + r) ≤ sz q + sz r + 1 := by
  rw [add_eq]
  have hb : ((q.den : Int) * (r.den : Int)) ≠ 0 := Int.mul_ne_zero (den_ne q) (den_ne r)
  refine Nat.le_trans (sz_divInt _ _ hb) (Nat.max_le.mpr ⟨?_, ?_⟩)
  · refine Nat.le_trans (bl_mono (natAbs_add_le' _ _)) (Nat.le_trans (bl_add _ _) ?_)
    rw [Int.natAbs_mul, Int.natAbs_mul]
    have h1 := bl_mul q.num.natAbs (r.den : Int).natAbs
    have h2 := bl_mul r.num.natAbs (q.den : Int).natAbs
    have a1 := sz_num q
    have a2 := sz_num r
    have a3 := sz_den q
    have a4 := sz_den r
    simp only [Int.natAbs_natCast] at h1 h2 ⊢
    omega
  · rw [Int.natAbs_mul]
    have h1 := bl_mul (q.den : Int).natAbs (r.den : Int).natAbs
    have a3 := sz_den q
    have a4 := sz_den r
    simp only [Int.natAbs_natCast] at h1 ⊢
    omega
theorem sz_mul (q r : Rat) : sz (q * r) ≤ sz q + sz r := by
  rw [mul_eq]
  have hb : ((q.den : Int) * (r.den : Int)) ≠ 0 := Int.mul_ne_zero (den_ne q) (den_ne r)
  refine Nat.le_trans (sz_divInt _ _ hb) (Nat.max_le.mpr ⟨?_, ?_⟩)
  · rw [Int.natAbs_mul]
    have h1 := bl_mul q.num.natAbs r.num.natAbs
    have a1 := sz_num q
    have a2 := sz_num r
    omega
  · rw [Int.natAbs_mul]
    have h1 := bl_mul (q.den : Int).natAbs (r.den : Int).natAbs
    have a3 := sz_den q
    have a4 := sz_den r
    simp only [Int.natAbs_natCast] at h1 ⊢
    omega
theorem sz_neg (q : Rat) : sz (-q) = sz q := by
  unfold sz
  rw [Rat.neg_num, Rat.neg_den, Int.natAbs_neg]
theorem sz_sub (q r : Rat) : sz (q - r) ≤ sz q + sz r + 1 := by
  rw [Rat.sub_eq_add_neg]
  have := sz_add q (-r)
  rw [sz_neg] at this
  exact this
theorem sz_small (q : Rat) {n : Nat} (hn : 0 < n) (h1 : q.num.natAbs < 2 ^ n) (h2 : q.den < 2 ^ n) : sz q ≤ n := sz_le (bl_le h1 hn) (bl_le h2 hn)
theorem sz_zero : sz 0 = 1 := by decide
theorem sz_one : sz 1 = 1 := by decide
theorem gcd_step (a b : Nat) (h : b ≠ 0) : Nat.gcd a b = Nat.gcd b (a % b) := by
  rw [Nat.gcd_comm, Nat.gcd_rec, Nat.gcd_comm]
theorem fdiv_exact {a g : Int} (h : g ∣ a) : a.fdiv g = a / g := by
  obtain ⟨c, rfl⟩ := h
  by_cases hg : g = 0
  · subst hg; simp
  · rw [Int.mul_fdiv_cancel_left _ hg, Int.mul_ediv_cancel_left _ hg]
theorem low_eq (a b : Int) (hb : b ≠ 0) (share : Int) (hs : share = if b < 0 then -((Nat.gcd a.natAbs b.natAbs : Nat) : Int) else ((Nat.gcd a.natAbs b.natAbs : Nat) : Int)) :
    a.fdiv share = (divInt a b).num ∧ b.fdiv share = ((divInt a b).den : Int) := by
  have hg : Nat.gcd a.natAbs b.natAbs = Int.gcd b a := by unfold Int.gcd; exact Nat.gcd_comm _ _
  have da : ((Int.gcd b a : Nat) : Int) ∣ a := Int.gcd_dvd_right b a
  have db : ((Int.gcd b a : Nat) : Int) ∣ b := Int.gcd_dvd_left b a
  rw [hg] at hs
  rw [num_divInt, den_divInt, if_neg hb]
  by_cases h : b < 0
  · rw [if_pos h] at hs
    subst hs
    rw [fdiv_exact (Int.neg_dvd.mpr da), fdiv_exact (Int.neg_dvd.mpr db), Int.sign_eq_neg_one_of_neg h]
    refine ⟨?_, ?_⟩
    · rw [Int.ediv_neg, Int.neg_one_mul, Int.neg_ediv_of_dvd da]
    · rw [Int.ediv_neg, ← Int.neg_ediv_of_dvd db]
      have e : -b = ((b.natAbs : Nat) : Int) := by omega
      rw [e]
      norm_cast
  · rw [if_neg h] at hs
    subst hs
    have hp : 0 < b := by omega
    rw [fdiv_exact da, fdiv_exact db, Int.sign_eq_one_of_pos hp, Int.one_mul]
    refine ⟨rfl, ?_⟩
    have e : b = ((b.natAbs : Nat) : Int) := by omega
    conv => lhs; rw [e]
    norm_cast
end RM

namespace L2
open PySem PySem.Spec PyProof.Rows
section
variable {prog : Program} {w : World} {A : Around} {R : Result → Shared → Prop} {s : Shared}
noncomputable def testsOf (ifs : List Expr) (env : Env) : Sem Bool := forIn ifs true fun c r => if r = true then do let ok ← isTrue c env (eval c env); pure (ForInStep.yield ok) else pure (ForInStep.yield r)
theorem compLoop_goT {elt target iter : Expr} {ifs : List Expr} {scope : Scope} {pos : Pos} {it acc : Value} {env : Env} (I : Nat → Shared → Prop)
    (turn : ∀ n s, I n s → wpAny (model prog w) A (pyNext it) (fun r s₁ => match r with
      | none => R (.ok .next) s₁
      | some v => wpAny (model prog w) A (letOwnedTupleGo target it v) (fun _ s₁' => wpAny (model prog w) A (assign target env v) (fun _ s₂ => wpAny (model prog w) A (testsOf ifs env) (fun ok s₂' => if ok = true then wpAny (model prog w) A (eval elt env) (fun x s₃ =>
          wpAny (model prog w) A (call (.builtin "list.append") [acc, x]) (fun _ s₄ => ∃ m, m < n ∧ I m s₄) (notedBy (model prog w) A env fun e s' => R (.error e) s') s₃)
          (notedBy (model prog w) A env fun e s' => R (.error e) s') s₂' else ∃ m, m < n ∧ I m s₂') (notedBy (model prog w) A env fun e s' => R (.error e) s') s₂) (notedBy (model prog w) A env fun e s' => R (.error e) s') s₁') (notedBy (model prog w) A env fun e s' => R (.error e) s') s₁) (notedBy (model prog w) A env fun e s' => R (.error e) s') s)
    (n : Nat) (h : I n s) :
    codeAny (model prog w) A (.compLoop (.ListComp elt [⟨target, iter, ifs, 0⟩] scope pos) 0 it acc env) R s := by
  refine codeAny_loop rfl I (fun n s hI => ?_) n h
  show wpAny _ _ ((compTurn (.ListComp elt [⟨target, iter, ifs, 0⟩] scope pos) 0 it acc env).onRaise (fun x => do noteFrame x env; theTreesLotGoes x)) _ _ s
  refine wpAny_noted ?_
  rw [compTurn_list]
  refine wpAny_bind (wpAny_standAt (wpAny_bind (wpAny_mono (turn n s hI) (fun r s₁ h₁ => ?_) fun _ _ h' => h')))
  cases r with
  | none => exact wpAny_pure h₁
  | some v =>
    refine wpAny_bind (wpAny_mono h₁ (fun _ s₁' h₁' => ?_) fun _ _ h' => h')
    refine wpAny_bind (wpAny_mono h₁' (fun _ s₂ h₂ => wpAny_bind (wpAny_mono h₂ (fun ok s₂' h₃ => ?_) fun _ _ h' => h')) fun _ _ h' => h')
    cases ok with
    | true =>
      refine wpAny_bind (wpAny_bind (wpAny_mono h₃ (fun x s₃ h₄ => wpAny_bind (wpAny_mono h₄ (fun _ s₄ h₅ => wpAny_pure (wpAny_pure ⟨rfl, h₅⟩)) fun _ _ h' => h')) fun _ _ h' => h'))
    | false => exact wpAny_bind (wpAny_pure (wpAny_pure ⟨rfl, h₃⟩))
end
noncomputable def PIfs (X : Cx) (ifs : List Expr) (t : TT) : Prop :=
  ∀ (pins : List (Addr × Obj)) (s : Shared) (σ : St) (H : Hp) (Q : Bool → Hp → Prop), Inv X pins σ H s → t σ H Q → wpAny (model X.prog X.w) X.A (testsOf ifs X.env) (TP X pins σ Q) X.xe s
noncomputable def tYes : TT := fun _ H Q => Q true H
theorem pifs_nil {X : Cx} : PIfs X [] tYes := fun pins s σ H Q I q => wpAny_pure ⟨H, I, q⟩
theorem pifs_one {X : Cx} {c : Expr} {t : TT} (h : PT X c t) : PIfs X [c] t := fun pins s σ H Q I q => wpAny_tests_one (h pins s σ H Q I q)
end L2
namespace L2
open PySem PySem.Spec PyProof.Rows
noncomputable def clFor (cells : List (Str × Addr)) : List (Str × NameKind) → List (Str × Addr) → List (Str × Addr)
  | [], acc => acc
  | (n, k) :: r, acc => if k == .free then clFor cells r ((n, (cells.lookup n).getD 0) :: acc) else clFor cells r acc
theorem closure_go {env : Env} : ∀ (names : List (Str × NameKind)) (acc : List (Str × Addr)), (∀ n, (n, NameKind.free) ∈ names → ∃ c, env.cells.lookup n = some c) →
    (forIn names acc (fun (x : Str × NameKind) (cs : List (Str × Addr)) => if (x.2 == NameKind.free) = true then (do let a ← cellOf env x.1; pure (ForInStep.yield ((x.1, a) :: cs))) else pure (ForInStep.yield cs)) : Sem (List (Str × Addr))) = pure (clFor env.cells names acc)
  | [], acc, _ => rfl
  | (n, k) :: r, acc, h => by
    rw [List.forIn_cons]
    unfold clFor
    by_cases hk : (k == NameKind.free) = true
    · have e : k = .free := by cases k <;> first | rfl | (exact absurd hk (by decide))
      subst e
      obtain ⟨c, hc⟩ := h n List.mem_cons_self
      rw [if_pos hk, if_pos hk]
      have e1 : cellOf env n = pure c := by unfold cellOf; rw [hc]
      rw [e1, pure_bind, pure_bind, hc]
      exact closure_go r _ fun m hm => h m (List.mem_cons_of_mem _ hm)
    · rw [if_neg hk, if_neg hk, pure_bind]
      exact closure_go r _ fun m hm => h m (List.mem_cons_of_mem _ hm)
theorem closure_for {scope : Scope} {env : Env} (h : ∀ n, (n, NameKind.free) ∈ scope.names → ∃ c, env.cells.lookup n = some c) : closureFor scope env = pure (clFor env.cells scope.names []) := by
  have := closure_go (env := env) scope.names [] h
  unfold closureFor
  first
    | (simp only [] at this ⊢; rw [← this]; simp only [bind_pure]; rfl)
    | (rw [← this]; rfl)
    | (simp only [bind_pure, pure_bind]; exact this)
theorem clFor_some {cells : List (Str × Addr)} {x : Str} {c : Addr} : ∀ (names : List (Str × NameKind)) (acc : List (Str × Addr)), (∀ n, (n, NameKind.free) ∈ names → ∃ c, cells.lookup n = some c) → (∀ y d, acc.lookup y = some d → cells.lookup y = some d) → (clFor cells names acc).lookup x = some c → cells.lookup x = some c
  | [], acc, _, ha, h => ha x c h
  | (n, k) :: r, acc, hn, ha, h => by
    unfold clFor at h
    by_cases hk : (k == NameKind.free) = true
    · rw [if_pos hk] at h
      have e : k = .free := by cases k <;> first | rfl | (exact absurd hk (by decide))
      subst e
      obtain ⟨d, hd⟩ := hn n List.mem_cons_self
      refine clFor_some r _ (fun m hm => hn m (List.mem_cons_of_mem _ hm)) (fun y e hy => ?_) h
      rw [List.lookup_cons] at hy
      split at hy
      · rename_i hz
        have hz' : y = n := by simpa using hz
        subst hz'
        rw [hd] at hy ⊢
        cases hy; rfl
      · exact ha y e hy
    · rw [if_neg hk] at h
      exact clFor_some r _ (fun m hm => hn m (List.mem_cons_of_mem _ hm)) ha h
theorem clFor_has {cells : List (Str × Addr)} {x : Str} : ∀ (names : List (Str × NameKind)) (acc : List (Str × Addr)), ((x, NameKind.free) ∈ names ∨ ∃ c, acc.lookup x = some c) → ∃ c, (clFor cells names acc).lookup x = some c
  | [], acc, h => by
    rcases h with h | h
    · cases h
    · exact h
  | (n, k) :: r, acc, h => by
    unfold clFor
    by_cases hk : (k == NameKind.free) = true
    · rw [if_pos hk]
      refine clFor_has r _ ?_
      by_cases hx : x = n
      · right; rw [List.lookup_cons]; simp [hx]
      · rcases h with h | ⟨c, h⟩
        · rcases List.mem_cons.mp h with z | z
          · injection z with z1 _; exact absurd z1 hx
          · exact .inl z
        · right
          refine ⟨c, ?_⟩
          rw [List.lookup_cons]
          have : (x == n) = false := by simpa using hx
          rw [this]; exact h
    · rw [if_neg hk]
      refine clFor_has r _ ?_
      rcases h with h | h
      · rcases List.mem_cons.mp h with z | z
        · injection z with _ z2
          subst z2
          exact absurd rfl hk
        · exact .inl z
      · exact .inr h
theorem relabel_mem {scope : Scope} {env : Env} {x : Str} {k : NameKind} (h : (relabel scope env).names.lookup x = some k) (hk : k = .cell ∨ k = .free) (hcell : ∀ y ∈ scope.names, y.2 ≠ .cell) : (x, NameKind.free) ∈ scope.names := by
  have go : ∀ (l : List (Str × NameKind)), (∀ y ∈ l, y.2 ≠ .cell) → (l.map fun (n, k) => if (k == NameKind.free && env.scope.kind == .function && env.kindOf n == some .cell) = true then (n, NameKind.cell) else (n, k)).lookup x = some k → (x, NameKind.free) ∈ l := by
    intro l
    induction l with
    | nil => intro _ h; cases h
    | cons p r ih =>
      intro hl h
      obtain ⟨n, j⟩ := p
      rw [List.map_cons, List.lookup_cons] at h
      by_cases hj : j = .free
      · subst hj
        by_cases hx : x = n
        · subst hx; exact List.mem_cons_self
        · refine List.mem_cons_of_mem _ (ih (fun y hy => hl y (List.mem_cons_of_mem _ hy)) ?_)
          have e : ∀ b : Bool, (x == (if b = true then (n, NameKind.cell) else (n, NameKind.free)).1) = false := fun b => by cases b <;> simpa using hx
          dsimp only at h
          rw [e] at h
          exact h
      · have e : (j == NameKind.free) = false := by simpa using hj
        have hc := hl (n, j) List.mem_cons_self
        dsimp only at h
        rw [e] at h
        simp only [Bool.false_and, Bool.false_eq_true, if_false] at h
        by_cases hx : x = n
        · have : (x == n) = true := by simpa using hx
          rw [this] at h
          have h' : j = k := by simpa using h
          subst h'
          rcases hk with z | z
          · exact absurd z hc
          · exact absurd z hj
        · have : (x == n) = false := by simpa using hx
          rw [this] at h
          exact List.mem_cons_of_mem _ (ih (fun y hy => hl y (List.mem_cons_of_mem _ hy)) h)
  exact go scope.names hcell h
noncomputable def cxF (X : Cx) (scope : Scope) (cl : List (Str × Addr)) (N' : List Str) (s3 : Shared) (H3 : Hp) (C : Addr) (fp : List Addr) (pins : List (Addr × Obj)) : Cx :=
  { X with N := N', s₀ := s3, H₀ := H3, env := compEnvC scope cl C X.env, outer := X.stack, ex := fp, fn := fun _ => false, pn := X.pn ++ pins, xe := fun _ _ => False }
noncomputable def capF (n : Nat) (caps : List Nat) (σ : St) : St := List.replicate n none ++ caps.map fun i => (σ[i]?).getD none
noncomputable def tCompF (n : Nat) (caps : List Nat) (wi : TI) (g : TG) (tc : TT) (te : TE) : TE := fun σ H Q => wi σ H fun J H1 => ∀ D, H1 D = none → ∃ W : Nat → Nat → Hp → Prop, (∃ m, W 0 m (upd H1 D (.lst []))) ∧ ∀ i m H, W i m H →
  (J.stop i H ∧ Q (.ref D) H) ∨ (J.go i H ∧ ∀ x H', J.yld i H x H' → g x (capF n caps σ) H' fun σ2 H2 => tc σ2 H2 fun b H2' => if b = true then te σ2 H2' fun v H3 => ∃ ys, H3 D = some (.lst ys) ∧ ys.length < sizeLine ∧ ∃ m', m' < m ∧ W (i + 1) m' (upd H3 D (.lst (ys ++ [v]))) else ∃ m', m' < m ∧ W (i + 1) m' H2')
section
variable {X : Cx} {elt tg iter : Expr} {scope : Scope} {cl : List (Str × Addr)} {tgs cps : List Str} {caps : List Nat} {wi : TI} {g : TG} {tc : TT} {te : TE} {pos : Pos} {ifs : List Expr}
noncomputable def CapOk (s3 : Shared) (H3 : Hp) (fp : List Addr) (cl : List (Str × Addr)) (x : Str) (v : V) : Prop :=
  ∃ (u : Value) (c : Addr) (o : Obj), RelV v u ∧ cl.lookup x = some c ∧ s3.heap.get? c = some o ∧ o.data = .cell (some u) ∧ H3 c = none ∧ c ∉ fp
theorem Inv.reset {pins pins' : List (Addr × Obj)} {σ0 σ' : St} {H3 H' : Hp} {s3 s' : Shared} {fp : List Addr} {C : Addr} (I : Inv (cxF X scope cl (tgs ++ cps) s3 H3 C fp pins) pins' σ' H' s')
    (hsc : ∀ x ∈ cps, (relabel scope X.env).names.lookup x = some .cell ∨ (relabel scope X.env).names.lookup x = some .free) (hl : caps.length = cps.length)
    (hc : ∀ (j : Nat) (x : Str) (v : V), cps[j]? = some x → (caps.map fun i => (σ0[i]?).getD none)[j]? = some (some v) → CapOk s3 H3 fp cl x v) :
    Inv (cxF X scope cl (tgs ++ cps) s3 H3 C fp pins) pins' (capF tgs.length caps σ0) H' s' := by
  obtain ⟨m, hn, _⟩ := I.loc
  refine ⟨I.ok, I.os, I.bare, I.base, ⟨m, hn, fun i x v e1 e2 e3 => ?_⟩, I.cell, I.free, I.freeC, I.pin, I.hok, by simp [capF, cxF, hl]⟩
  have e1 : (tgs ++ cps)[i]? = some x := e1
  unfold capF at e2
  rw [List.getElem?_append] at e1 e2
  rw [List.length_replicate] at e2
  by_cases hi : i < tgs.length
  · rw [if_pos hi] at e2
    rw [List.getElem?_replicate] at e2
    split at e2 <;> cases e2
  · rw [if_neg hi] at e1 e2
    obtain ⟨u, c, o, r, h1, h2, h3, h4, h5⟩ := hc (i - tgs.length) x v e1 e2
    obtain ⟨sl, k⟩ := I.base.any h2 h4 h5
    refine ⟨u, r, .inr ⟨?_, c, h1, _, k, h3⟩⟩
    rcases hsc x (List.mem_of_getElem? e1) with z | z
    · exact .inl z
    · exact .inr z
theorem compF_block {pins : List (Addr × Obj)} {σ0 : St} {σ : St} {H3 : Hp} {s3 : Shared} {fp : List Addr} {it D C : Addr} {tn : Nat → Heap → Prop} {J : It} {h₁ : Heap} {tk : Nat} {m : Str → Option Value} {R : Result → Shared → Prop} {Qd : Hp → Prop}
    (hc : X.calm = true) (hcell : ∀ x ∈ scope.names, x.2 ≠ .cell) (hkind : scope.kind = .function)
    (hcl : ∀ x c, cl.lookup x = some c → X.env.cells.lookup x = some c) (hhas : ∀ x, (x, NameKind.free) ∈ scope.names → ∃ c, cl.lookup x = some c)
    (hsc : ∀ x ∈ cps, (relabel scope X.env).names.lookup x = some .cell ∨ (relabel scope X.env).names.lookup x = some .free) (hl : caps.length = cps.length)
    (hcap : ∀ (j : Nat) (x : Str) (v : V), cps[j]? = some x → (caps.map fun i => (σ0[i]?).getD none)[j]? = some (some v) → CapOk s3 H3 fp cl x v)
    (hg : ∀ cl s3 H3 C fp pins, PG (cxF X scope cl (tgs ++ cps) s3 H3 C fp pins) tg g) (hq : ∀ cl s3 H3 C fp pins, PIfs (cxF X scope cl (tgs ++ cps) s3 H3 C fp pins) ifs tc) (he : ∀ cl s3 H3 C fp pins, PE (cxF X scope cl (tgs ++ cps) s3 H3 C fp pins) elt te)
    (I3 : Inv X pins σ H3 s3) (T : Turn X.prog X.w X.K tg J fp it tn) (st3 : tn 0 s3.heap) (f3 : ∀ b ∈ fp, FpOk X pins H3 b) (hC : C = s3.heap.objs.size) (hn : h₁.Ns C m) (hk : ∀ b o, s3.heap.get? b = some o → h₁.get? b = some o)
    (W : Nat → Nat → Hp → Prop) (m0 : Nat) (w0 : W 0 m0 H3)
    (turn : ∀ i m H, W i m H → (J.stop i H ∧ Qd H) ∨ (J.go i H ∧ ∀ x H', J.yld i H x H' → g x (capF tgs.length caps σ0) H' fun σ2 H2 => tc σ2 H2 fun b H2' => if b = true then te σ2 H2' fun v H3 => ∃ ys, H3 D = some (.lst ys) ∧ ys.length < sizeLine ∧ ∃ m', m' < m ∧ W (i + 1) m' (upd H3 D (.lst (ys ++ [v]))) else ∃ m', m' < m ∧ W (i + 1) m' H2'))
    (hR : ∀ s' H' σ', Inv (cxF X scope cl (tgs ++ cps) s3 H3 C fp pins) [] σ' H' s' → Qd H' → R (.ok .next) s') :
    codeAny (model X.prog X.w) X.A (.compStart (.ListComp elt [⟨tg, iter, ifs, 0⟩] scope pos) 0 (.ref it) (.ref D) (compEnvC scope cl C X.env)) R { s3 with heap := h₁, toks := tk } := by
  have lt3 : ∀ b ∈ fp, b < s3.heap.objs.size := fun b hb => by
    obtain ⟨o, e, _⟩ := T.obj 0 _ st3 b hb
    exact Heap.lt_size e
  have ok' : (cxF X scope cl (tgs ++ cps) s3 H3 C fp pins).Ok := {
    mod := I3.ok.mod
    kind := hkind
    glob := I3.ok.glob
    blt := I3.ok.blt
    above := Nat.le_of_eq hC.symm
    inj := fun x y c e e' => I3.ok.inj x y c (hcl x c e) (hcl y c e')
    has := fun x h => by
      rcases h with h | h
      · exact hhas x (relabel_mem h (.inl rfl) hcell)
      · exact hhas x (relabel_mem h (.inr rfl) hcell)
    cab := fun x c h => by cases h
    hd := fun _ => I3.ok.hd hc
    frames := I3.ok.frames
    stk := .inl rfl
    exf := fun b hb => ⟨fun z => by
      have z' : b = C := z
      have h1 := lt3 b hb
      rw [z', hC] at h1
      exact Nat.lt_irrefl _ h1, fun x c e => (f3 b hb).2.2.2.2.1 x c (hcl x c e)⟩
    bs := fun b o e => I3.bs b o e
    bsz := Nat.le_trans I3.ok.bsz I3.sz
    noex := fun b o e hb => by
      obtain ⟨_, _, _, q, _⟩ := f3 b hb
      rcases q with q | q
      · exact I3.ok.noex b o e q
      · have h1 := Heap.lt_size e
        exact absurd (Nat.lt_of_lt_of_le (Nat.lt_of_lt_of_le h1 I3.ok.bsz) q) (Nat.lt_irrefl _)
    exfs := fun b hb z => by
      obtain ⟨_, q1, q2, _⟩ := f3 b hb
      rcases List.mem_cons.mp (I3.stkSub b z) with y | y
      · exact q1 y
      · exact q2 y
    funs := I3.stack
    frf := I3.stkFree }
  have J0 : Inv (cxF X scope cl (tgs ++ cps) s3 H3 C fp pins) [] (List.replicate (tgs ++ cps).length none) H3 { s3 with heap := h₁, toks := tk } := {
    ok := ok'
    os := rfl
    bare := I3.bare
    base := Un.kept hk
    loc := ⟨m, hn, fun i x v _ e _ => by
      rw [List.getElem?_replicate] at e
      split at e <;> cases e⟩
    cell := fun x c e => by
      obtain ⟨v, o, ho, hd⟩ := I3.cell x c (hcl x c e)
      exact ⟨v, o, hk c o ho, hd⟩
    free := I3.hok.fresh (Nat.le_of_eq hC.symm)
    freeC := fun x c e => I3.freeC x c (hcl x c e)
    pin := fun p hp => by
      have hp' : p ∈ X.pn ++ pins := by simpa [cxF] using hp
      obtain ⟨a1, a2, a3, a4, a5⟩ := I3.pin p hp'
      refine ⟨hk _ _ a1, a2, fun z => ?_, fun z => ?_, a5⟩
      · have z' : p.1 = C := z
        have h1 := Heap.lt_size a1
        rw [z', hC] at h1
        exact Nat.lt_irrefl _ h1
      · rcases List.mem_cons.mp (I3.stkSub _ z) with y | y
        · exact a3 y
        · exact a4 y
    hok := I3.hok.kept hk
    len := by simp [cxF] }
  have stat : ∀ {H' : Hp}, (∀ b ∈ fp, H' b = none) → ∀ b ∈ fp, FpOk (cxF X scope cl (tgs ++ cps) s3 H3 C fp pins) [] H' b := fun hn b hb => by
    obtain ⟨_, _, _, _, _, q⟩ := f3 b hb
    exact ⟨hn b hb, (ok'.exf b hb).1, ok'.exfs b hb, .inl hb, (ok'.exf b hb).2, fun p hp => q p (by simpa [cxF] using hp)⟩
  have loop : codeAny (model X.prog X.w) X.A (.compLoop (.ListComp elt [⟨tg, iter, ifs, 0⟩] scope pos) 0 (.ref it) (.ref D) (compEnvC scope cl C X.env)) R { s3 with heap := h₁, toks := tk } := by
    refine compLoop_goT (fun n s' => ∃ i σ' H', Inv (cxF X scope cl (tgs ++ cps) s3 H3 C fp pins) [] σ' H' s' ∧ tn i s'.heap ∧ (∀ b ∈ fp, H' b = none) ∧ W i n H') ?_ m0
      ⟨0, _, H3, J0, T.keep _ _ _ st3 fun b hb o e => hk b o e, fun b hb => (f3 b hb).1, w0⟩
    rintro n s4 ⟨i, σ4, H4, I4, st4, fr4, w4⟩
    rcases turn i n H4 w4 with ⟨stop, qn⟩ | ⟨go, step⟩
    · refine thn (T.done (cxF X scope cl (tgs ++ cps) s3 H3 C fp pins) rfl rfl rfl hc i [] s4 σ4 H4 _ I4 (stat fr4) st4 stop) fun r s5 zz => ?_
      obtain ⟨hr, I5⟩ := zz
      subst hr
      exact hR s5 H4 σ4 I5 qn
    · refine thn (T.item (cxF X scope cl (tgs ++ cps) s3 H3 C fp pins) rfl rfl rfl hc i [] s4 σ4 H4 _ I4 (stat fr4) st4 go) fun r s5 zz => ?_
      obtain ⟨u, hr, h5⟩ := zz
      subst hr
      refine thn h5 fun _ s6 zz => ?_
      obtain ⟨x, H6, I6, r6, y6, st6, fr6⟩ := zz
      have I6w := I6.reset hsc hl hcap
      have I6' := I6w.pinned (stat fr6) (T.obj _ _ st6)
      refine wpAny_mono (hg cl s3 H3 C fp pins _ s6 _ H6 x u _ I6' r6 (step x H6 y6)) (fun _ s7 ⟨σ7, H7, I7, q7⟩ => ?_) fun _ _ z => z.elim
      refine wpAny_mono (hq cl s3 H3 C fp pins _ s7 σ7 H7 _ I7 q7) (fun b s7' ⟨H7', I7', q7'⟩ => ?_) fun _ _ z => z.elim
      cases b with
      | false =>
        obtain ⟨m', hm, w8⟩ := q7'
        refine ⟨m', hm, i + 1, σ7, H7', I7'.unpinned, T.keep _ _ _ st6 fun b hb o e => (I7'.pin (b, o) (List.mem_append_right _ (List.mem_append_right _ (mem_pinsAt hb e)))).1, fun b hb => ?_, w8⟩
        obtain ⟨o, e, d⟩ := T.obj _ _ st6 b hb
        exact (I7'.pin (b, o) (List.mem_append_right _ (List.mem_append_right _ (mem_pinsAt hb e)))).2.1
      | true =>
        refine wpAny_mono (he cl s3 H3 C fp pins _ s7' σ7 H7' _ I7' q7') (fun v s8 ⟨y, H8, I8, r8, q8⟩ => ?_) fun _ _ z => z.elim
        obtain ⟨ys, hy, hz, m', hm, w8⟩ := q8
        refine wpAny_mono (mt_append (X := cxF X scope cl (tgs ++ cps) s3 H3 C fp pins) _ s8 σ7 H8 (.ref D) [y] (.ref D) [v] (fun _ H9 => W (i + 1) m' H9) I8 rfl (.cons r8 .nil) ⟨D, ys, y, rfl, rfl, hy, hz, w8⟩) (fun _ s9 ⟨_, H9, I9, _, w9⟩ => ?_) fun _ _ z => z.elim
        refine ⟨m', hm, i + 1, σ7, H9, I9.unpinned, T.keep _ _ _ st6 fun b hb o e => (I9.pin (b, o) (List.mem_append_right _ (List.mem_append_right _ (mem_pinsAt hb e)))).1, fun b hb => ?_, w9⟩
        obtain ⟨o, e, d⟩ := T.obj _ _ st6 b hb
        exact (I9.pin (b, o) (List.mem_append_right _ (List.mem_append_right _ (mem_pinsAt hb e)))).2.1
  exact codeAny_compStart_list loop (T.self _ 0 _ _ _ (T.keep _ _ _ st3 fun b hb o e => hk b o e) loop)
theorem compF_gen (hc : X.calm = true) (hcell : ∀ x ∈ scope.names, x.2 ≠ .cell) (hkind : scope.kind = .function) (hnames : ∀ x ∈ scope.names, x.2 = .local → scope.names.lookup x.1 = some .local)
    (hfr : ∀ x ∈ scope.names, x.2 = .free → x.1 ∈ cps) (hN : caps.map (fun i => X.N[i]?) = cps.map some) (hX : ∀ x ∈ cps, X.env.scope.names.lookup x = some .cell ∧ scope.names.lookup x = some .free)
    (hsc : ∀ x ∈ cps, (relabel scope X.env).names.lookup x = some .cell ∨ (relabel scope X.env).names.lookup x = some .free)
    (hi : PI X tg iter wi) (hg : ∀ cl s3 H3 C fp pins, PG (cxF X scope cl (tgs ++ cps) s3 H3 C fp pins) tg g) (hq : ∀ cl s3 H3 C fp pins, PIfs (cxF X scope cl (tgs ++ cps) s3 H3 C fp pins) ifs tc) (he : ∀ cl s3 H3 C fp pins, PE (cxF X scope cl (tgs ++ cps) s3 H3 C fp pins) elt te)
    (hs : ∀ x, foldedSetIterable iter X.env x = pure x) {use : Option (Value → Sem Unit)} {Qf : Value → Shared → Prop} {pins : List (Addr × Obj)} {s : Shared} {σ : St} {H : Hp} {Q : VK} (I : Inv X pins σ H s) (h : tCompF tgs.length caps wi g tc te σ H Q)
    (hU : ∀ (D C : Addr) (s' : Shared) (H4 : Hp) (m4 : Str → Option Value), s'.heap.Ns C m4 → FpOk X pins H4 C → (∀ h', Heap.SameBut C s'.heap h' → Inv X pins σ H4 { s' with heap := h' }) → Q (.ref D) H4 → compPost (model X.prog X.w) X.A X.xe use Qf (.ref D) C (.ok .next) s') :
    wpAny (model X.prog X.w) X.A (comprehension (.ListComp elt [⟨tg, iter, ifs, 0⟩] scope pos) scope X.env (firstIterPos [⟨tg, iter, ifs, 0⟩] pos) (newList []) false (eval iter X.env) use) Qf X.xe s := by
  have hl : caps.length = cps.length := by
    have := congrArg List.length hN
    simpa using this
  have hcells : ∀ n, (n, NameKind.free) ∈ scope.names → ∃ c, X.env.cells.lookup n = some c := fun n hn => I.ok.has n (.inl (hX n (hfr _ hn rfl)).1)
  refine wpAny_comprehension_free (use := use) rfl hs (closure_for hcells) hkind hnames (thn (hi pins s σ H _ I h) fun v s1 h1 => thn h1 fun itv s2 h2 => ?_)
  obtain ⟨it, fp, tn, J, H', e, I2, T, st2, f2, hW⟩ := h2
  subst e
  refine wpAny_newObj_type (hd := by size_fits) (wpAny_newFunctionEnv hcell (by intro y hy; simp at hy) (fun h₁ hns₁ hsb₁ => ?_) hkind)
  dsimp only at hns₁ hsb₁ ⊢
  have I3 := I2.lnew (ys := []) (its := []) (t' := s2.toks) .nil (Nat.zero_le _)
  obtain ⟨W, ⟨m0, w0⟩, turn⟩ := hW _ I2.fresh
  have st3 : tn 0 (s2.heap.push { cls := .type "list", data := .seq ([] : List Value).toArray }) := T.keep _ _ _ st2 fun b hb o e => Heap.get?_push_of_some _ e
  have f3 : ∀ b ∈ fp, FpOk X pins (upd H' s2.heap.objs.size (.lst [])) b := fun b hb => by
    obtain ⟨q0, q⟩ := f2 b hb
    obtain ⟨o, e, _⟩ := T.obj 0 _ st2 b hb
    exact ⟨by rw [upd_ne (Nat.ne_of_lt (Heap.lt_size e))]; exact q0, q⟩
  have old : ∀ b o, (s2.heap.push { cls := .type "list", data := .seq ([] : List Value).toArray }).get? b = some o → h₁.get? b = some o := fun b o e =>
    hsb₁.extBut b o (Nat.ne_of_lt (Heap.lt_size e)) (Heap.get?_push_of_some _ e)
  have hcap : ∀ (j : Nat) (x : Str) (v : V), cps[j]? = some x → (caps.map fun i => (σ[i]?).getD none)[j]? = some (some v) →
      CapOk { s2 with heap := s2.heap.push { cls := .type "list", data := .seq ([] : List Value).toArray }, toks := s2.toks } (upd H' s2.heap.objs.size (.lst [])) fp (clFor X.env.cells scope.names []) x v := fun j x v ex ev => by
    have hx := hX x (List.mem_of_getElem? ex)
    have hj : (caps.map (fun i => X.N[i]?))[j]? = some (some x) := by rw [hN, List.getElem?_map, ex]; rfl
    rw [List.getElem?_map] at ev hj
    cases hcj : caps[j]? with
    | none => rw [hcj] at ev; cases ev
    | some i =>
      rw [hcj] at ev hj
      have ev' : (σ[i]?).getD none = some v := by simpa using ev
      have hj' : X.N[i]? = some x := by simpa using hj
      have es : σ[i]? = some (some v) := by
        cases q : σ[i]? with
        | none => rw [q] at ev'; cases ev'
        | some w => rw [q] at ev'; rw [show w = some v by simpa using ev']
      obtain ⟨m, hn, hlook⟩ := I3.loc
      obtain ⟨u, ru, lk⟩ := hlook i x v hj' es (.inr (.inl hx.1))
      rcases lk with ⟨k1, _⟩ | ⟨_, c, hc1, o, ho, hd⟩
      · have k1' : X.env.scope.names.lookup x = some .local := k1
        rw [hx.1] at k1'; cases k1'
      · have hmem : (x, NameKind.free) ∈ scope.names := by
          have hlk := hx.2
          have go : ∀ l : List (Str × NameKind), l.lookup x = some .free → (x, NameKind.free) ∈ l := by
            intro l
            induction l with
            | nil => intro z; cases z
            | cons p r ih =>
              intro z
              obtain ⟨n, k⟩ := p
              rw [List.lookup_cons] at z
              split at z
              · rename_i q; have q' : x = n := by simpa using q
                have z' : k = .free := by simpa using z
                rw [q', z']; exact List.mem_cons_self
              · exact List.mem_cons_of_mem _ (ih z)
          exact go _ hlk
        obtain ⟨c', hc'⟩ := clFor_has (cells := X.env.cells) scope.names [] (.inl hmem)
        have := clFor_some scope.names [] hcells (fun y d z => by cases z) hc'
        rw [hc1] at this
        cases this
        refine ⟨u, c, o, ru, hc', ho, hd, I3.freeC x c hc1, fun hb => ?_⟩
        exact (f3 c hb).2.2.2.2.1 x c hc1 rfl
  refine compF_block (s3 := { s2 with heap := s2.heap.push { cls := .type "list", data := .seq ([] : List Value).toArray }, toks := s2.toks }) (Qd := fun H => Q (.ref s2.heap.objs.size) H) (tk := s2.toks + ([] : List (Str × Value)).length) (cl := clFor X.env.cells scope.names [])
    hc hcell hkind (fun x c z => clFor_some scope.names [] hcells (fun y d z => by cases z) z) (fun x z => clFor_has scope.names [] (.inl z)) hsc hl hcap hg hq he I3 T st3 f3 rfl hns₁ old W m0 w0 turn fun s' H4 σ4 I4 q4 => ?_
  obtain ⟨m4, hn4, _⟩ := I4.loc
  have hCfree : H4 _ = none := I4.free
  have nC : ∀ b u, H4 b = some u → b ≠ (s2.heap.push { cls := .type "list", data := .seq ([] : List Value).toArray }).objs.size := fun b u e z => by
    rw [z] at e
    have := e.symm.trans hCfree
    cases this
  have lt : ∀ b o, (s2.heap.push { cls := .type "list", data := .seq ([] : List Value).toArray }).get? b = some o → b ≠ (s2.heap.push { cls := .type "list", data := .seq ([] : List Value).toArray }).objs.size := fun b o e => Nat.ne_of_lt (Heap.lt_size e)
  have ub := I4.base
  have fC : FpOk X pins H4 (s2.heap.push { cls := .type "list", data := .seq ([] : List Value).toArray }).objs.size := I3.fpOk (Nat.le_refl _) hCfree
  refine hU _ _ s' H4 m4 hn4 fC (fun h' hsb => ?_) q4
  have un : Un (frs X.stack) fp (upd H' s2.heap.objs.size (.lst [])) H4 (s2.heap.push { cls := .type "list", data := .seq ([] : List Value).toArray }) h' := {
    keep := fun b o e n x y => (hsb.2 b (lt b o e)).trans (ub.keep b o e n x y)
    slot := fun b o e n x y => let ⟨q, z⟩ := ub.slot b o e n x y; ⟨q, (hsb.2 b (lt b o e)).trans z⟩
    free := ub.free
    there := fun b o e y => let ⟨q, z⟩ := ub.there b o e y; ⟨q, (hsb.2 b (lt b o e)).trans z⟩
    tups := ub.tups
    frzs := ub.frzs
    tbls := ub.tbls }
  refine I3.call' (s' := { s' with heap := h' }) I4.os un (fun b u e => ?_) I4.bare fun b hb => ?_
  · refine (I4.hok b u e).stay (fun c v hcv q => (hsb.2 c ?_).trans q) (fun _ q => q) fun _ _ q => q
    rcases hcv with z | z
    · rw [z]; exact nC b u e
    · exact nC c _ z
  · obtain ⟨q0, q1, q2, q3, q4, q5⟩ := f3 b hb
    exact ⟨q3, q1, q4, q5⟩
theorem pe_compF (hc : X.calm = true) (hcell : ∀ x ∈ scope.names, x.2 ≠ .cell) (hkind : scope.kind = .function) (hnames : ∀ x ∈ scope.names, x.2 = .local → scope.names.lookup x.1 = some .local)
    (hfr : ∀ x ∈ scope.names, x.2 = .free → x.1 ∈ cps) (hN : caps.map (fun i => X.N[i]?) = cps.map some) (hX : ∀ x ∈ cps, X.env.scope.names.lookup x = some .cell ∧ scope.names.lookup x = some .free)
    (hsc : ∀ x ∈ cps, (relabel scope X.env).names.lookup x = some .cell ∨ (relabel scope X.env).names.lookup x = some .free)
    (hi : PI X tg iter wi) (hg : ∀ cl s3 H3 C fp pins, PG (cxF X scope cl (tgs ++ cps) s3 H3 C fp pins) tg g) (hq : ∀ cl s3 H3 C fp pins, PIfs (cxF X scope cl (tgs ++ cps) s3 H3 C fp pins) ifs tc) (he : ∀ cl s3 H3 C fp pins, PE (cxF X scope cl (tgs ++ cps) s3 H3 C fp pins) elt te)
    (hs : ∀ x, foldedSetIterable iter X.env x = pure x := by intro _; rfl) : PE X (.ListComp elt [⟨tg, iter, ifs, 0⟩] scope pos) (tCompF tgs.length caps wi g tc te) := by
  intro pins s σ H Q I h
  rw [eval_ListComp]
  exact compF_gen hc hcell hkind hnames hfr hN hX hsc hi hg hq he hs I h fun D C s' H4 m4 hn4 fC hI q4 => ⟨m4, hn4, fun h' hsb => ⟨.ref D, H4, hI h' hsb, rfl, q4⟩⟩
end
end L2

namespace L2
open PySem
noncomputable def SI : Bool → Heap → Addr → Addr → Nat → Prop
  | true, h, it, a, i => h.IsListIter it a i
  | false, h, it, a, i => h.IsTupleIter it a i
noncomputable def SS : Bool → Heap → Addr → Array Value → Prop
  | true, h, a, xs => h.IsList a xs
  | false, h, a, xs => h.IsTuple a xs
theorem SI.at {k : Bool} {h h' : Heap} {it a : Addr} {i : Nat} (x : SI k h it a i) (f : ∀ o, h.get? it = some o → h'.get? it = some o) : SI k h' it a i := by
  cases k <;> (obtain ⟨o, e, r⟩ := x; exact ⟨o, f o e, r⟩)
theorem SS.at {k : Bool} {h h' : Heap} {a : Addr} {xs : Array Value} (x : SS k h a xs) (f : ∀ o, h.get? a = some o → h'.get? a = some o) : SS k h' a xs := by
  cases k <;> (obtain ⟨o, e, r⟩ := x; exact ⟨o, f o e, r⟩)
theorem SI.obj {k : Bool} {h : Heap} {it a : Addr} {i : Nat} (x : SI k h it a i) : ∃ o, h.get? it = some o ∧ ∀ v, o.data ≠ .cell v := by
  cases k <;> (obtain ⟨o, e, c, d⟩ := x; exact ⟨o, e, fun v z => by rw [d] at z; cases z⟩)
theorem SS.obj {k : Bool} {h : Heap} {a : Addr} {xs : Array Value} (x : SS k h a xs) : ∃ o, h.get? a = some o := by
  cases k <;> (obtain ⟨o, e, _⟩ := x; exact ⟨o, e⟩)
section
variable {prog : Program} {w : World} {A : Around} {E : Value → Shared → Prop} {s : Shared}
theorem tupleStep {p t : Addr} {n : Nat} {xs : Array Value} {v : Value} {Q : Value → Shared → Prop} (hp : s.heap.IsTupleIter p t n) (ht : s.heap.IsTuple t xs) (hv : xs[n]? = some v)
    (q : ∀ h', h'.IsTupleIter p t (n + 1) → Heap.SameBut p s.heap h' → Q v { s with heap := h' }) : wpAny (model prog w) A (Builtin.SmallTypes.nextOf (.ref p)) Q E s := by
  obtain ⟨ob, e1, e2, e3⟩ := id hp
  obtain ⟨ot, f1, _, cap, f2⟩ := ht
  unfold Builtin.SmallTypes.nextOf
  refine wpAny_bind (wpAny_callSpecial?_slot (name := Str.ofString "__next__") hp.typeIs F.slot_tuple_iterator_next (wpAny_call_entry F.slot_tuple_iterator_next hp.typeIs F.entry_tuple_iterator_next ?_ (F.args_tuple_iterator_next_1 _)))
  show wpAny _ _ (field (.ref p) 0 >>= _) _ _ s
  refine wpAny_bind (wpAny_field e1 e3 (x := .ref t) rfl ?_)
  show wpAny _ _ (if (Value.ref t == Value.none) = true then _ else _) _ _ s
  rw [if_neg (fun z : (Value.ref t == Value.none) = true => nomatch z)]
  show wpAny _ _ (field (.ref p) 1 >>= _) _ _ s
  refine wpAny_bind (wpAny_field e1 e3 (x := .int n 0) rfl ?_)
  show wpAny _ _ (seqItems? (.ref t) >>= _) _ _ s
  refine wpAny_bind (wpAny_seqItems f1 f2 ?_)
  simp only [Int.toNat_natCast, hv]
  refine wpAny_bind (wpAny_setField e1 e3 (by simp) (wpAny_pure ⟨v, rfl, wpAny_pure (q _ ⟨_, Heap.get?_update_self _ e1 (Obj.isFreed_of_fields (Obj.data_mapFields e3 _)), (Obj.cls_mapFields ..).trans e2, ?_⟩ (Heap.SameBut.update ..))⟩))
  rw [Obj.data_mapFields e3]; simp [rawInt]
theorem tupleEnd {p t : Addr} {n : Nat} {xs : Array Value} {Q : Value → Shared → Prop} (hA : A.handled = none) (hp : s.heap.IsTupleIter p t n) (ht : s.heap.IsTuple t xs) (hv : xs[n]? = none)
    (q : ∀ h' e, Heap.ExtBut p s.heap h' → (∃ o, h'.get? e = some o ∧ o.cls = .type "StopIteration") → E (.ref e) { s with heap := h' }) : wpAny (model prog w) A (Builtin.SmallTypes.nextOf (.ref p)) Q E s := by
  obtain ⟨ob, e1, e2, e3⟩ := id hp
  obtain ⟨ot, f1, _, cap, f2⟩ := ht
  unfold Builtin.SmallTypes.nextOf
  refine wpAny_bind (wpAny_callSpecial?_slot (name := Str.ofString "__next__") hp.typeIs F.slot_tuple_iterator_next (wpAny_call_entry F.slot_tuple_iterator_next hp.typeIs F.entry_tuple_iterator_next ?_ (F.args_tuple_iterator_next_1 _)))
  show wpAny _ _ (field (.ref p) 0 >>= _) _ _ s
  refine wpAny_bind (wpAny_field e1 e3 (x := .ref t) rfl ?_)
  show wpAny _ _ (if (Value.ref t == Value.none) = true then _ else _) _ _ s
  rw [if_neg (fun z : (Value.ref t == Value.none) = true => nomatch z)]
  show wpAny _ _ (field (.ref p) 1 >>= _) _ _ s
  refine wpAny_bind (wpAny_field e1 e3 (x := .int n 0) rfl ?_)
  show wpAny _ _ (seqItems? (.ref t) >>= _) _ _ s
  refine wpAny_bind (wpAny_seqItems f1 f2 ?_)
  simp only [Int.toNat_natCast, hv]
  refine wpAny_bind (wpAny_rule (wpAny_bind (wpAny_setField e1 e3 (by simp) ?_)))
  show wpAny _ _ (newExc (.type "StopIteration") [] >>= _) _ _ _
  refine wpAny_bind ?_; simp only [newExc, newTuple]
  refine wpAny_bind (wpAny_newObj_type ?_ (by size_fits)); refine wpAny_bind (m := firstArgMember _ _) (wpAny_of_eq (a := Value.none) (by first | rfl | (simp only [firstArgMember]; rfl)) ?_)
  refine wpAny_newObj_type ?_ (by size_fits); simp only [raiseNew]; refine wpAny_bind (wpAny_handled ?_)
  first | rw [show A.in1.handled = none from hA] | rw [hA]
  refine wpAny_bind (wpAny_pure (wpAny_throw (q _ _ (((Heap.SameBut.update ..).extBut.push _).push _) ⟨_, Heap.get?_push_size _ rfl, rfl⟩)))
theorem seqStep {k : Bool} {p a : Addr} {n : Nat} {xs : Array Value} {v : Value} {Q : Value → Shared → Prop} (hp : SI k s.heap p a n) (ha : SS k s.heap a xs) (hv : xs[n]? = some v)
    (q : ∀ h', SI k h' p a (n + 1) → Heap.SameBut p s.heap h' → Q v { s with heap := h' }) : wpAny (model prog w) A (Builtin.SmallTypes.nextOf (.ref p)) Q E s := by
  cases k with
  | true => exact wpAny_nextOf_list_item hp ha hv q
  | false => exact tupleStep hp ha hv q
theorem seqEnd {k : Bool} {p a : Addr} {n : Nat} {xs : Array Value} {Q : Value → Shared → Prop} (hA : A.handled = none) (hp : SI k s.heap p a n) (ha : SS k s.heap a xs) (hv : xs[n]? = none)
    (q : ∀ h' e, Heap.ExtBut p s.heap h' → (∃ o, h'.get? e = some o ∧ o.cls = .type "StopIteration") → E (.ref e) { s with heap := h' }) : wpAny (model prog w) A (Builtin.SmallTypes.nextOf (.ref p)) Q E s := by
  cases k with
  | true => exact wpAny_nextOf_list_end hA hp ha hv q
  | false => exact tupleEnd hA hp ha hv q
theorem SI.but {k : Bool} {h h' : Heap} {it a b : Addr} {i : Nat} (x : SI k h it a i) (e : Heap.ExtBut b h h') (n : it ≠ b) : SI k h' it a i := x.at fun o z => e it o n z
theorem SS.but {k : Bool} {h h' : Heap} {a b : Addr} {xs : Array Value} (x : SS k h a xs) (e : Heap.ExtBut b h h') (n : a ≠ b) : SS k h' a xs := x.at fun o z => e a o n z
theorem zipTurn {z TI TO p1 p2 l1 l2 : Addr} {c1 c2 : Bool} {n1 n2 : Nat} {xs ys : Array Value} {v1 v2 u1 u2 : Value} {Q : Option Value → Shared → Prop} (D : ZipApart z TI TO p1 p2 l1 l2)
    (iz : IsZip s.heap z TI TO .none) (iI : IsPair s.heap TI (.ref p1) (.ref p2)) (iO : IsPair s.heap TO u1 u2) (g1 : SI c1 s.heap p1 l1 n1) (g2 : SI c2 s.heap p2 l2 n2) (m1 : SS c1 s.heap l1 xs) (m2 : SS c2 s.heap l2 ys) (w1 : xs[n1]? = some v1) (w2 : ys[n2]? = some v2)
    (q : ∀ h', IsZip h' z TI TO (rawInt s.heap.objs.size) → IsPair h' TO v1 v2 → SI c1 h' p1 l1 (n1 + 1) → SI c2 h' p2 l2 (n2 + 1) → IsPair h' s.heap.objs.size v1 v2 → h'.objs.size = s.heap.objs.size + 1 →
      (∀ b o, b ≠ z → b ≠ TO → b ≠ p1 → b ≠ p2 → s.heap.get? b = some o → h'.get? b = some o) → Q (some (.ref s.heap.objs.size)) { s with heap := h' }) : wpAny (model prog w) A (pyNext (.ref z)) Q E s := by
  have ty : s.TypeIs (.ref z) "zip" := ⟨_, iz, rfl⟩
  unfold pyNext
  refine wpAny_bind (wpAny_attempt (wpAny_callSpecial?_slot (name := Str.ofString "__next__") ty F.slot_zip_next (wpAny_call_entry F.slot_zip_next ty F.entry_zip_next ?_ (F.args_zip_next_1 _))))
  show wpAny _ _ (field (.ref z) 2 >>= _) _ _ _
  refine wpAny_bind (wpAny_field iz rfl (x := .bool false) rfl ?_)
  show wpAny _ _ (field (.ref z) 3 >>= _) _ _ _
  refine wpAny_bind (wpAny_field iz rfl (x := .ref TI) rfl (wpAny_bind (wpAny_seqItems iI rfl ?_)))
  show wpAny _ _ (Builtin.SmallTypes.ownedTupleIsFree (.ref z) >>= _) _ _ _
  refine wpAny_bind ?_; unfold Builtin.SmallTypes.ownedTupleIsFree
  refine wpAny_bind (wpAny_field iz rfl (x := .none) rfl (wpAny_pure ?_)); simp only [if_true]
  refine wpAny_bind (wpAny_rule (wpAny_bind (wpAny_field iz rfl (x := .ref TO) rfl (wpAny_bind (wpAny_setField_rec iz (by simp) fun ha za sa => ?_)))))
  replace za : IsZip ha z TI TO .ellipsis := za
  refine wpAny_bind ?_; simp only [List.zipIdx_cons, List.zipIdx_nil, List.forIn_cons, List.forIn_nil]
  refine wpAny_bind (wpAny_bind (wpAny_onRaise ?_))
  show wpAny _ _ (Builtin.SmallTypes.nextOf (.ref p1) >>= _) _ _ _
  refine wpAny_bind (seqStep (g1.but sa.extBut D.i1z) (m1.but sa.extBut D.l1z) w1 fun hb gb sb => wpAny_pure ?_)
  have oB : IsPair hb TO u1 u2 := sb.extBut _ _ D.TOi1 (sa.extBut _ _ D.TOz iO)
  refine wpAny_bind (wpAny_seqItems oB rfl (wpAny_bind (wpAny_updateSeq_pair oB fun hc oC sc => ?_)))
  replace oC : IsPair hc TO v1 u2 := oC
  refine wpAny_bind (wpAny_letGo (wpAny_pure (wpAny_bind (wpAny_bind (wpAny_onRaise ?_)))))
  show wpAny _ _ (Builtin.SmallTypes.nextOf (.ref p2) >>= _) _ _ _
  refine wpAny_bind (seqStep (((g2.but sa.extBut D.i2z).but sb.extBut D.i12.symm).but sc.extBut D.TOi2.symm) (((m2.but sa.extBut D.l2z).but sb.extBut D.l2i1).but sc.extBut D.l2TO) w2 fun hd gd sd => wpAny_pure ?_)
  have oD : IsPair hd TO v1 u2 := sd.extBut _ _ D.TOi2 oC
  refine wpAny_bind (wpAny_seqItems oD rfl (wpAny_bind (wpAny_updateSeq_pair oD fun he oE se => ?_)))
  replace oE : IsPair he TO v1 v2 := oE
  refine wpAny_bind (wpAny_letGo (wpAny_pure (wpAny_pure (wpAny_bind (wpAny_seqItems oE rfl (wpAny_bind (wpAny_newTuple ?_)))))))
  have zs : he.objs.size = s.heap.objs.size := by rw [se.1, sd.1, sc.1, sb.1, sa.1]
  have zE : IsZip he z TI TO .ellipsis := se.extBut _ _ D.TOz.symm (sd.extBut _ _ D.i2z.symm (sc.extBut _ _ D.TOz.symm (sb.extBut _ _ D.i1z.symm za)))
  have kE : ∀ b o, b ≠ z → b ≠ TO → b ≠ p1 → b ≠ p2 → s.heap.get? b = some o → he.get? b = some o := fun b o b1 b2 b3 b4 e => se.extBut _ _ b2 (sd.extBut _ _ b4 (sc.extBut _ _ b2 (sb.extBut _ _ b3 (sa.extBut _ _ b1 e))))
  have gE1 : SI c1 he p1 l1 (n1 + 1) := ((gb.but sc.extBut D.TOi1.symm).but sd.extBut D.i12).but se.extBut D.TOi1.symm
  have gE2 : SI c2 he p2 l2 (n2 + 1) := gd.but se.extBut D.TOi2.symm
  have ltz : z < he.objs.size := Heap.lt_size zE
  show wpAny _ _ (Builtin.SmallTypes.ownedTupleHandOut (.ref z) (.ref he.objs.size) >>= _) _ _ _
  refine wpAny_bind ?_; unfold Builtin.SmallTypes.ownedTupleHandOut
  refine wpAny_bind (wpAny_setField_rec (Heap.get?_push_of_some _ zE) (by simp) fun hf zf sf => ?_)
  replace zf : IsZip hf z TI TO (rawInt he.objs.size) := zf
  refine wpAny_setField_rec zf (by simp) fun hg zg sg => ?_
  replace zg : IsZip hg z TI TO (rawInt he.objs.size) := zg
  have lift : ∀ b o, b ≠ z → he.get? b = some o → hg.get? b = some o := fun b o b1 e => sg.extBut _ _ b1 (sf.extBut _ _ b1 (Heap.get?_push_of_some _ e))
  have tG : IsPair hg he.objs.size v1 v2 := sg.extBut _ _ (Nat.ne_of_gt ltz) (sf.extBut _ _ (Nat.ne_of_gt ltz) (Heap.get?_push_size _ rfl))
  have zz : hg.objs.size = he.objs.size + 1 := by rw [sg.1, sf.1, Heap.size_push]
  rw [zs] at zg tG zz
  refine wpAny_pure ⟨_, rfl, wpAny_pure ?_⟩
  show Q (some (.ref he.objs.size)) _
  rw [zs]
  exact q hg zg (lift _ _ D.TOz oE) (gE1.at fun o e => lift _ o D.i1z e) (gE2.at fun o e => lift _ o D.i2z e) tG zz fun b o b1 b2 b3 b4 e => lift b o b1 (kE b o b1 b2 b3 b4 e)
theorem zipEnd {z TI TO p1 p2 l1 l2 : Addr} {c1 c2 : Bool} {n1 n2 : Nat} {xs ys : Array Value} {u1 u2 : Value} {Q : Option Value → Shared → Prop} (hA : A.handled = none) (D : ZipApart z TI TO p1 p2 l1 l2)
    (iz : IsZip s.heap z TI TO .none) (iI : IsPair s.heap TI (.ref p1) (.ref p2)) (iO : IsPair s.heap TO u1 u2) (g1 : SI c1 s.heap p1 l1 n1) (g2 : SI c2 s.heap p2 l2 n2) (m1 : SS c1 s.heap l1 xs) (m2 : SS c2 s.heap l2 ys) (fin : xs[n1]? = none ∨ ys[n2]? = none)
    (q : ∀ h', (∀ b o, b ≠ z → b ≠ TO → b ≠ p1 → b ≠ p2 → s.heap.get? b = some o → h'.get? b = some o) → Q none { s with heap := h' }) : wpAny (model prog w) A (pyNext (.ref z)) Q E s := by
  have ty : s.TypeIs (.ref z) "zip" := ⟨_, iz, rfl⟩
  unfold pyNext
  have out : ∀ (h' : Heap) (e : Addr), (∀ b o, b ≠ z → b ≠ TO → b ≠ p1 → b ≠ p2 → s.heap.get? b = some o → h'.get? b = some o) → (∃ o, h'.get? e = some o ∧ o.cls = .type "StopIteration") →
      wpAny (model prog w) A (do if ← isInstance (.ref e) (.type "StopIteration") then pure none else throw (.ref e) : Sem (Option Value)) Q E { s with heap := h' } := fun h' e k ⟨o, e1, e2⟩ =>
    wpAny_bind (wpAny_isInstance (T := "StopIteration") (b := true) ⟨o, e1, e2⟩ isSubtype_stop (wpAny_pure (q h' k)))
  refine wpAny_bind (wpAny_attempt (wpAny_callSpecial?_slot (name := Str.ofString "__next__") ty F.slot_zip_next (wpAny_call_entry F.slot_zip_next ty F.entry_zip_next ?_ (F.args_zip_next_1 _))))
  show wpAny _ _ (field (.ref z) 2 >>= _) _ _ _
  refine wpAny_bind (wpAny_field iz rfl (x := .bool false) rfl ?_)
  show wpAny _ _ (field (.ref z) 3 >>= _) _ _ _
  refine wpAny_bind (wpAny_field iz rfl (x := .ref TI) rfl (wpAny_bind (wpAny_seqItems iI rfl ?_)))
  show wpAny _ _ (Builtin.SmallTypes.ownedTupleIsFree (.ref z) >>= _) _ _ _
  refine wpAny_bind ?_; unfold Builtin.SmallTypes.ownedTupleIsFree
  refine wpAny_bind (wpAny_field iz rfl (x := .none) rfl (wpAny_pure ?_)); simp only [if_true]
  refine wpAny_bind (wpAny_rule (wpAny_bind (wpAny_field iz rfl (x := .ref TO) rfl (wpAny_bind (wpAny_setField_rec iz (by simp) fun ha za sa => ?_)))))
  replace za : IsZip ha z TI TO .ellipsis := za
  refine wpAny_bind ?_; simp only [List.zipIdx_cons, List.zipIdx_nil, List.forIn_cons, List.forIn_nil]
  refine wpAny_bind (wpAny_bind (wpAny_onRaise ?_))
  show wpAny _ _ (Builtin.SmallTypes.nextOf (.ref p1) >>= _) _ _ _
  cases w1 : xs[n1]? with
  | none =>
    refine wpAny_bind (seqEnd hA (g1.but sa.extBut D.i1z) (m1.but sa.extBut D.l1z) w1 fun hb e sb zz => ?_)
    obtain ⟨oe, oe1, oe2⟩ := zz
    have zb : IsZip hb z TI TO .ellipsis := sb _ _ D.i1z.symm za
    have nz : e ≠ z := fun y => by subst y; rw [zb] at oe1; cases oe1; simp at oe2
    refine wpAny_setField_rec zb (by simp) fun hc _ sc => out hc e (fun b o b1 _ b3 _ y => sc.extBut _ _ b1 (sb _ _ b3 (sa.extBut _ _ b1 y))) ⟨oe, sc.extBut _ _ nz oe1, oe2⟩
  | some v1 =>
    have w2 : ys[n2]? = none := fin.resolve_left (by rw [w1]; exact fun y => nomatch y)
    refine wpAny_bind (seqStep (g1.but sa.extBut D.i1z) (m1.but sa.extBut D.l1z) w1 fun hb gb sb => wpAny_pure ?_)
    have oB : IsPair hb TO u1 u2 := sb.extBut _ _ D.TOi1 (sa.extBut _ _ D.TOz iO)
    refine wpAny_bind (wpAny_seqItems oB rfl (wpAny_bind (wpAny_updateSeq_pair oB fun hc oC sc => ?_)))
    refine wpAny_bind (wpAny_letGo (wpAny_pure (wpAny_bind (wpAny_bind (wpAny_onRaise ?_)))))
    show wpAny _ _ (Builtin.SmallTypes.nextOf (.ref p2) >>= _) _ _ _
    refine wpAny_bind (seqEnd hA (((g2.but sa.extBut D.i2z).but sb.extBut D.i12.symm).but sc.extBut D.TOi2.symm) (((m2.but sa.extBut D.l2z).but sb.extBut D.l2i1).but sc.extBut D.l2TO) w2 fun hd e sd zz => ?_)
    obtain ⟨oe, oe1, oe2⟩ := zz
    have zd : IsZip hd z TI TO .ellipsis := sd _ _ D.i2z.symm (sc.extBut _ _ D.TOz.symm (sb.extBut _ _ D.i1z.symm za))
    have nz : e ≠ z := fun y => by subst y; rw [zd] at oe1; cases oe1; simp at oe2
    refine wpAny_setField_rec zd (by simp) fun he _ se => out he e (fun b o b1 b2 b3 b4 y => se.extBut _ _ b1 (sd _ _ b4 (sc.extBut _ _ b2 (sb.extBut _ _ b3 (sa.extBut _ _ b1 y))))) ⟨oe, se.extBut _ _ nz oe1, oe2⟩
end
noncomputable abbrev itO (k : Bool) (a : Addr) : Obj := { cls := .type (if k then "list_iterator" else "tuple_iterator"), data := .fields #[.ref a, .int 0 0] }
noncomputable abbrev zA (k1 : Bool) (h : Heap) (l1 : Addr) : Heap := h.push (itO k1 l1)
noncomputable abbrev zB (k1 k2 : Bool) (h : Heap) (l1 l2 : Addr) : Heap := (zA k1 h l1).push (itO k2 l2)
noncomputable abbrev zC (k1 k2 : Bool) (h : Heap) (l1 l2 : Addr) : Heap := (zB k1 k2 h l1 l2).push { cls := .type "tuple", data := .seq #[.ref h.objs.size, .ref (zA k1 h l1).objs.size] }
noncomputable abbrev zD (k1 k2 : Bool) (h : Heap) (l1 l2 : Addr) : Heap := (zC k1 k2 h l1 l2).push { cls := .type "tuple", data := .seq #[.none, .none] }
noncomputable abbrev zE (k1 k2 : Bool) (h : Heap) (l1 l2 : Addr) : Heap := (zD k1 k2 h l1 l2).push { cls := .type "zip", data := .fields #[.none, .bool false, .bool false, .ref (zB k1 k2 h l1 l2).objs.size, .ref (zC k1 k2 h l1 l2).objs.size] }
set_option maxHeartbeats 2000000 in
theorem zipNew (k1 k2 : Bool) (l1 l2 : Addr) (xs ys : Array Value) :
    Meets (Builtin.«zip.__new__» ⟨[.type "zip", .ref l1, .ref l2], []⟩) (fun _ R s => SS k1 s.heap l1 xs ∧ SS k2 s.heap l2 ys ∧ R (.ok (.ret (.ref (zD k1 k2 s.heap l1 l2).objs.size))) { s with heap := zE k1 k2 s.heap l1 l2 }) :=
  .of_wp fun prog w A R s h => by
    obtain ⟨hp, g, d, tk, os⟩ := s
    obtain ⟨ha, hb, h⟩ := h
    have hsub := sub_zip
    cases k1 with
    | true =>
      have a1 : Heap.IsList (Shared.heap ⟨hp, g, d, tk, os⟩) l1 xs := ha
      cases k2 with
      | true =>
        have a2 : Heap.IsList (Shared.heap ⟨hp.push { cls := .type "list_iterator", data := .fields #[.ref l1, .int 0 0] }, g, d, tk, os⟩) l2 ys := Heap.IsList.push hb _
        wp_walk using wpAny_pyIter_list a1, wpAny_pyIter_list a2
        exact ⟨_, rfl, h⟩
      | false =>
        have a2 : Heap.IsTuple (Shared.heap ⟨hp.push { cls := .type "list_iterator", data := .fields #[.ref l1, .int 0 0] }, g, d, tk, os⟩) l2 ys := Heap.IsTuple.push hb _
        wp_walk using wpAny_pyIter_list a1, wpAny_pyIter_tuple a2
        exact ⟨_, rfl, h⟩
    | false =>
      have a1 : Heap.IsTuple (Shared.heap ⟨hp, g, d, tk, os⟩) l1 xs := ha
      cases k2 with
      | true =>
        have a2 : Heap.IsList (Shared.heap ⟨hp.push { cls := .type "tuple_iterator", data := .fields #[.ref l1, .int 0 0] }, g, d, tk, os⟩) l2 ys := Heap.IsList.push hb _
        wp_walk using wpAny_pyIter_tuple a1, wpAny_pyIter_list a2
        exact ⟨_, rfl, h⟩
      | false =>
        have a2 : Heap.IsTuple (Shared.heap ⟨hp.push { cls := .type "tuple_iterator", data := .fields #[.ref l1, .int 0 0] }, g, d, tk, os⟩) l2 ys := Heap.IsTuple.push hb _
        wp_walk using wpAny_pyIter_tuple a1, wpAny_pyIter_tuple a2
        exact ⟨_, rfl, h⟩
section
variable {prog : Program} {w : World} {A : Around} {E : Value → Shared → Prop} {s : Shared}
theorem callZip {k1 k2 : Bool} {l1 l2 : Addr} {xs ys : Array Value} {Q : Value → Shared → Prop} (ha : SS k1 s.heap l1 xs) (hb : SS k2 s.heap l2 ys)
    (q : ∀ h', IsZip h' (s.heap.objs.size + 4) (s.heap.objs.size + 2) (s.heap.objs.size + 3) .none → IsPair h' (s.heap.objs.size + 2) (.ref s.heap.objs.size) (.ref (s.heap.objs.size + 1)) → IsPair h' (s.heap.objs.size + 3) .none .none →
      SI k1 h' s.heap.objs.size l1 0 → SI k2 h' (s.heap.objs.size + 1) l2 0 → h'.objs.size = s.heap.objs.size + 5 → (∀ b o, s.heap.get? b = some o → h'.get? b = some o) → Q (.ref (s.heap.objs.size + 4)) { s with heap := h' }) :
    wpAny (model prog w) A (call (.type "zip") [.ref l1, .ref l2]) Q E s := by
  refine callType_new F.called_zip (by decide) (F.typeCall_zip_2 _ _) (F.newCall_zip_2 _ _) (fun obj => F.args_object_init_3 obj _ _) F.entry_zip_new (zipNew k1 k2 l1 l2 xs ys) ⟨ha, hb, ?_⟩
  have s1 : (zA k1 s.heap l1).objs.size = s.heap.objs.size + 1 := Heap.size_push ..
  have s2 : (zB k1 k2 s.heap l1 l2).objs.size = s.heap.objs.size + 2 := (Heap.size_push ..).trans (by rw [s1])
  have s3 : (zC k1 k2 s.heap l1 l2).objs.size = s.heap.objs.size + 3 := (Heap.size_push ..).trans (by rw [s2])
  have s4 : (zD k1 k2 s.heap l1 l2).objs.size = s.heap.objs.size + 4 := (Heap.size_push ..).trans (by rw [s3])
  have s5 : (zE k1 k2 s.heap l1 l2).objs.size = s.heap.objs.size + 5 := (Heap.size_push ..).trans (by rw [s4])
  have o5 : (zE k1 k2 s.heap l1 l2).get? (zD k1 k2 s.heap l1 l2).objs.size = some _ := Heap.get?_push_size _ rfl
  have up1 : ∀ b o, (zD k1 k2 s.heap l1 l2).get? b = some o → (zE k1 k2 s.heap l1 l2).get? b = some o := fun b o e => Heap.get?_push_of_some _ e
  have o4 : (zE k1 k2 s.heap l1 l2).get? (zC k1 k2 s.heap l1 l2).objs.size = some _ := up1 _ _ (Heap.get?_push_size _ rfl)
  have up2 : ∀ b o, (zC k1 k2 s.heap l1 l2).get? b = some o → (zE k1 k2 s.heap l1 l2).get? b = some o := fun b o e => up1 b o (Heap.get?_push_of_some _ e)
  have o3 : (zE k1 k2 s.heap l1 l2).get? (zB k1 k2 s.heap l1 l2).objs.size = some _ := up2 _ _ (Heap.get?_push_size _ rfl)
  have up3 : ∀ b o, (zB k1 k2 s.heap l1 l2).get? b = some o → (zE k1 k2 s.heap l1 l2).get? b = some o := fun b o e => up2 b o (Heap.get?_push_of_some _ e)
  have o2 : (zE k1 k2 s.heap l1 l2).get? (zA k1 s.heap l1).objs.size = some (itO k2 l2) := up3 _ _ (Heap.get?_push_size _ rfl)
  have up4 : ∀ b o, (zA k1 s.heap l1).get? b = some o → (zE k1 k2 s.heap l1 l2).get? b = some o := fun b o e => up3 b o (Heap.get?_push_of_some _ e)
  have o1 : (zE k1 k2 s.heap l1 l2).get? s.heap.objs.size = some (itO k1 l1) := up4 _ _ (Heap.get?_push_size _ rfl)
  have mk : ∀ (k : Bool) (b a : Addr), (zE k1 k2 s.heap l1 l2).get? b = some (itO k a) → SI k (zE k1 k2 s.heap l1 l2) b a 0 := fun k b a e => by cases k <;> exact ⟨_, e, rfl, rfl⟩
  show _ ∧ _
  rw [s2, s3, s4] at o5
  rw [s1, s2] at o3
  rw [s3] at o4
  rw [s1] at o2
  rw [s4]
  exact ⟨⟨_, o5, rfl⟩, q _ o5 o3 o4 (mk _ _ _ o1) (mk _ _ _ o2) s5 fun b o e => up4 b o (Heap.get?_push_of_some _ e)⟩
end
end L2

namespace L2
open PySem PySem.Spec PyProof.Rows
section
variable {X : Cx} {pins : List (Addr × Obj)} {σ : St} {H : Hp} {s : Shared} {h' : Heap}
theorem Inv.turnedN {t' : Nat} {ch : List Addr} (I : Inv X pins σ H s) (k : ∀ b o, b ∉ ch → s.heap.get? b = some o → h'.get? b = some o) (hf : ∀ b ∈ ch, FpOk X pins H b) : Inv X pins σ H { s with heap := h', toks := t' } := by
  have nit : ∀ b u, H b = some u → b ∉ ch := fun b u e z => by rw [(hf b z).1] at e; cases e
  refine I.step (g' := s.gens) (d' := s.drawn) (ch := ch) (fun b hb => ?_) (fun b o _ _ hc e _ => k b o hc e) (fun b o _ _ hc e _ => ⟨o.slots, k b o hc e⟩) (fun _ _ _ _ n => n)
    (fun b o hc e => ⟨o, k b o hc e⟩) (fun _ _ e => e) (fun _ _ _ e => e) (fun b ps e => ⟨#[], by rw [e]; simp⟩) (fun m hm => ?_) (fun b u e => ?_) I.bare
  · obtain ⟨_, q1, _, q3, q4, q5⟩ := hf b hb
    exact ⟨q3, q1, q4, q5⟩
  · obtain ⟨o, es, ep, ho, r⟩ := hm
    exact ⟨o, es, ep, k _ o (fun z => (hf _ z).2.1 rfl) ho, r⟩
  · refine (I.hok b u e).stay (fun c v hc q => k c v ?_ q) (fun _ q => q) fun _ _ q => q
    rcases hc with z | z
    · rw [z]; exact nit b u e
    · exact nit c _ z
end
noncomputable def SqK (K : PySem.W.Frag) (k : Bool) (H : Hp) (a : Addr) (xs : List V) : Prop := if k = true then SqL K H a xs else SqT K H a xs
theorem Inv.sqk {X : Cx} {pins : List (Addr × Obj)} {σ : St} {H : Hp} {s : Shared} (I : Inv X pins σ H s) {k : Bool} {a : Addr} {xs : List V} (h : SqK X.K k H a xs) : ∃ its : List Value, Vals xs its ∧ SS k s.heap a its.toArray := by
  cases k with
  | true =>
    obtain ⟨its, r, p, _⟩ := I.list (show SqL X.K H a xs from h)
    exact ⟨its, r, p.isList⟩
  | false =>
    obtain ⟨its, r, p, _⟩ := I.tuple (show SqT X.K H a xs from h)
    exact ⟨its, r, p⟩
theorem Inv.sqk_inj {X : Cx} {pins : List (Addr × Obj)} {σ : St} {H : Hp} {s : Shared} (I : Inv X pins σ H s) {k : Bool} {a : Addr} {xs ys : List V} (h : SqK X.K k H a xs) (h2 : SqK X.K k H a ys) : xs = ys := by
  cases k with
  | true => exact I.list_inj (show SqL X.K H a xs from h) (show SqL X.K H a ys from h2)
  | false => exact I.tuple_inj (show SqT X.K H a xs from h) (show SqT X.K H a ys from h2)
noncomputable def Itz (K : PySem.W.Frag) (k1 k2 : Bool) (l1 l2 : Addr) : It :=
  ⟨fun i H => ∃ xs ys x y, SqK K k1 H l1 xs ∧ SqK K k2 H l2 ys ∧ xs[i]? = some x ∧ ys[i]? = some y,
   fun i H v H' => ∃ T x y, H T = none ∧ v = .ref T ∧ H' = upd H T (.tup [x, y]) ∧ (∀ xs, SqK K k1 H l1 xs → xs[i]? = some x) ∧ ∀ ys, SqK K k2 H l2 ys → ys[i]? = some y,
   fun i H => ∃ xs ys, SqK K k1 H l1 xs ∧ SqK K k2 H l2 ys ∧ (xs.length ≤ i ∨ ys.length ≤ i)⟩
noncomputable def ZipSt (k1 k2 : Bool) (z TI TO p1 p2 l1 l2 : Addr) (i : Nat) (h : Heap) : Prop := IsZip h z TI TO .none ∧ IsPair h TI (.ref p1) (.ref p2) ∧ (∃ a b, IsPair h TO a b) ∧ SI k1 h p1 l1 i ∧ SI k2 h p2 l2 i
theorem turn_zip {P : Program} {w : World} {K : PySem.W.Frag} {elts : List Expr} {kx : Nat} {tp : Pos} {k1 k2 : Bool} {z TI TO p1 p2 l1 l2 : Addr} (D : ZipApart z TI TO p1 p2 l1 l2) :
    Turn P w K (.Tuple elts kx tp) (Itz K k1 k2 l1 l2) [z, TI, TO, p1, p2] z (ZipSt k1 k2 z TI TO p1 p2 l1 l2) where
  mem := by simp
  obj := fun i h ⟨iz, iI, ⟨a, b, iO⟩, g1, g2⟩ c hc => by
    simp only [List.mem_cons, List.not_mem_nil, or_false] at hc
    rcases hc with rfl | rfl | rfl | rfl | rfl
    · exact ⟨_, iz, fun v e => by cases e⟩
    · exact ⟨_, iI, fun v e => by cases e⟩
    · exact ⟨_, iO, fun v e => by cases e⟩
    · exact g1.obj
    · exact g2.obj
  keep := fun i h h' ⟨iz, iI, ⟨a, b, iO⟩, g1, g2⟩ k => ⟨k z (by simp) _ iz, k TI (by simp) _ iI, ⟨a, b, k TO (by simp) _ iO⟩, g1.at fun o e => k p1 (by simp) o e, g2.at fun o e => k p2 (by simp) o e⟩
  item := by
    intro X hP hw hK hc i pins s σ H E I hf st hg
    subst hP hw hK
    obtain ⟨iz, iI, ⟨a, b, iO⟩, g1, g2⟩ := st
    obtain ⟨xs, ys, x, y, q1, q2, hx, hy⟩ := hg
    obtain ⟨is1, r1, m1⟩ := I.sqk q1
    obtain ⟨is2, r2, m2⟩ := I.sqk q2
    obtain ⟨u1, hu1, ru1⟩ := r1.get hx
    obtain ⟨u2, hu2, ru2⟩ := r2.get hy
    refine zipTurn D iz iI iO g1 g2 m1 m2 (v1 := u1) (v2 := u2) (by simpa using hu1) (by simpa using hu2) fun h' a1 a2 a3 a4 a5 a6 kk => ?_
    refine ⟨_, rfl, ?_⟩
    refine wpAny_letOwnedTupleGo_zip (s := { s with heap := h' }) a1 fun h2 b1 b2 => ?_
    have lt : ∀ {c o}, s.heap.get? c = some o → c ≠ s.heap.objs.size := fun e => Nat.ne_of_lt (Heap.lt_size e)
    have nz : s.heap.objs.size ≠ z := Ne.symm (lt iz)
    have I1 : Inv X pins σ (upd H s.heap.objs.size (.tup [x, y])) { s with heap := s.heap.push { cls := .type "tuple", data := .seq #[u1, u2] }, toks := s.toks } :=
      I.laid (o := .tup [x, y]) (fun b ob q => Heap.get?_push_of_some _ q) (Nat.le_refl _) ⟨(show 2 ≤ sizeLine by decide), [u1, u2], .cons ru1 (.cons ru2 .nil), IsTup.new _ _⟩
    have nfp : ∀ c ∈ [z, TI, TO, p1, p2], c ≠ s.heap.objs.size := fun c hc => by
      simp only [List.mem_cons, List.not_mem_nil, or_false] at hc
      rcases hc with rfl | rfl | rfl | rfl | rfl
      · exact lt iz
      · exact lt iI
      · exact lt iO
      · obtain ⟨o, e, _⟩ := g1.obj; exact lt e
      · obtain ⟨o, e, _⟩ := g2.obj; exact lt e
    have hf' : ∀ c ∈ [z, TI, TO, p1, p2], FpOk X pins (upd H s.heap.objs.size (.tup [x, y])) c := fun c hc => by
      obtain ⟨f0, f1⟩ := hf c hc
      exact ⟨by rw [upd_ne (nfp c hc)]; exact f0, f1⟩
    have I2 : Inv X pins σ (upd H s.heap.objs.size (.tup [x, y])) { s with heap := h2, toks := s.toks } := by
      refine Inv.turnedN (s := { s with heap := s.heap.push { cls := .type "tuple", data := .seq #[u1, u2] }, toks := s.toks }) (t' := s.toks) (h' := h2) (ch := [z, TI, TO, p1, p2]) I1 (fun c o hcn e => ?_) hf'
      simp only [List.mem_cons, List.not_mem_nil, or_false, not_or] at hcn
      obtain ⟨n1, n2, n3, n4, n5⟩ := hcn
      refine b2.extBut c o n1 ?_
      by_cases hcs : c = s.heap.objs.size
      · subst hcs
        have e' : (s.heap.push { cls := .type "tuple", data := .seq #[u1, u2] }).get? s.heap.objs.size = some o := e
        rw [Heap.get?_push_size _ rfl] at e'
        cases e'
        exact a5
      · have e' : (s.heap.push { cls := .type "tuple", data := .seq #[u1, u2] }).get? c = some o := e
        have hlt : c < s.heap.objs.size := by
          have := Heap.lt_size e'
          rw [Heap.size_push] at this
          exact Nat.lt_of_le_of_ne (Nat.le_of_lt_succ this) hcs
        have hold : s.heap.get? c = some o := by
          have : ∃ o', s.heap.get? c = some o' := by
            cases q : s.heap.get? c with
            | some o' => exact ⟨o', rfl⟩
            | none => exact absurd e' (by rw [Heap.get?_push_ne _ _ _ hcs]; rw [q]; exact fun z => nomatch z)
          obtain ⟨o', ho'⟩ := this
          have := Heap.get?_push_of_some { cls := .type "tuple", data := .seq #[u1, u2] } ho'
          rw [e'] at this
          cases this; exact ho'
        exact kk c o n1 n3 n4 n5 hold
    refine ⟨.ref s.heap.objs.size, _, I2, rfl, ⟨_, x, y, I.hok.fresh (Nat.le_refl _), rfl, rfl, fun zs hz => by rw [I.sqk_inj hz q1]; exact hx, fun zs hz => by rw [I.sqk_inj hz q2]; exact hy⟩, ?_, fun c hc => (hf' c hc).1⟩
    have lift : ∀ c o, c ≠ z → h'.get? c = some o → h2.get? c = some o := fun c o n e => b2.extBut c o n e
    exact ⟨b1, lift _ _ D.TIz (kk _ _ D.TIz D.TITO D.TIi1 D.TIi2 iI), ⟨_, _, lift _ _ D.TOz a2⟩, a3.at fun o e => lift _ o D.i1z e, a4.at fun o e => lift _ o D.i2z e⟩
  done := by
    intro X hP hw hK hc i pins s σ H E I hf st hg
    subst hP hw hK
    obtain ⟨iz, iI, ⟨a, b, iO⟩, g1, g2⟩ := st
    obtain ⟨xs, ys, q1, q2, hx⟩ := hg
    obtain ⟨is1, r1, m1⟩ := I.sqk q1
    obtain ⟨is2, r2, m2⟩ := I.sqk q2
    have e1 := r1.length
    have e2 := r2.length
    refine zipEnd (I.ok.hd hc) D iz iI iO g1 g2 m1 m2 (hx.elim (fun h => .inl (by simp; omega)) fun h => .inr (by simp; omega)) fun h' kk => ⟨rfl, ?_⟩
    refine I.turnedN (t' := s.toks) (ch := [z, TI, TO, p1, p2]) (fun c o hcn e => ?_) hf
    simp only [List.mem_cons, List.not_mem_nil, or_false, not_or] at hcn
    obtain ⟨n1, n2, n3, n4, n5⟩ := hcn
    exact kk c o n1 n3 n4 n5 e
  self := fun _ _ _ _ _ st h => wpAny_pyIter_zip st.1 h
noncomputable def iZip (K : PySem.W.Frag) (ta : TA) : TI := fun σ H R => ta σ H fun vs H1 => ∃ k1 k2 l1 l2, vs = [.ref l1, .ref l2] ∧ (∃ xs, SqK K k1 H1 l1 xs) ∧ (∃ ys, SqK K k2 H1 l2 ys) ∧ R (Itz K k1 k2 l1 l2) H1
theorem pi_zip {X : Cx} {elts : List Expr} {kx : Nat} {tp : Pos} {a b : Expr} {ta : TA} {p pos : Pos} (hg : Gl X "zip") (hm : X.mg "zip" = none) (ha : PA X [a, b] ta)
    (hs : starEach [a, b] X.env = [(false, eval a X.env), (false, eval b X.env)] := by rfl) (hs2 : starEach [b] X.env = [(false, eval b X.env)] := by rfl) : PI X (.Tuple elts kx tp) (.Call (.Name "zip" p) [a, b] [] pos) (iZip X.K ta) := by
  intro pins s σ H R I h
  refine Call_ (ld_blt I hg hm PyProof.Rows.boot_zip (PyProof.Rows.callWith_type1 (thn (ha pos pins s σ H _ I h) fun us s1 ⟨vs, H1, I1, r1, q1⟩ => ?_) (by rw [hs, hs2]) (by rw [hs2]; rfl)))
  obtain ⟨k1, k2, l1, l2, e, ⟨xs, q2⟩, ⟨ys, q3⟩, q⟩ := q1
  subst e
  cases r1 with
  | cons r rr =>
    cases rr with
    | cons r' rr =>
      cases rr
      cases r
      cases r'
      obtain ⟨is1, _, m1⟩ := I1.sqk q2
      obtain ⟨is2, _, m2⟩ := I1.sqk q3
      have lt1 : l1 < s1.heap.objs.size := by obtain ⟨o, e⟩ := m1.obj; exact Heap.lt_size e
      have lt2 : l2 < s1.heap.objs.size := by obtain ⟨o, e⟩ := m2.obj; exact Heap.lt_size e
      refine callZip m1 m2 fun h' a1 a2 a3 a4 a5 a6 kk => ?_
      refine wpAny_pyIter_zip (s := { s1 with heap := h' }) a1 ?_
      have D : ZipApart (s1.heap.objs.size + 4) (s1.heap.objs.size + 2) (s1.heap.objs.size + 3) s1.heap.objs.size (s1.heap.objs.size + 1) l1 l2 := PyProof.Rows.zipApart_new lt1 lt2
      refine ⟨s1.heap.objs.size + 4, _, _, _, H1, rfl, I1.kept (t' := s1.toks) kk, turn_zip D, ⟨a1, a2, ⟨_, _, a3⟩, a4, a5⟩, fun c hc => ?_, q⟩
      have hge : s1.heap.objs.size ≤ c := by
        simp only [List.mem_cons, List.not_mem_nil, or_false] at hc
        rcases hc with rfl | rfl | rfl | rfl | rfl
        · exact Nat.le_add_right _ _
        · exact Nat.le_add_right _ _
        · exact Nat.le_add_right _ _
        · exact Nat.le_refl _
        · exact Nat.le_add_right _ _
      exact I1.fpOk hge (I1.hok.fresh hge)
end L2

namespace L2
open PySem PySem.Spec PyProof.Rows
section
variable {X : Cx} {pins : List (Addr × Obj)} {σ : St} {H : Hp} {s : Shared} {p : Addr}
theorem Inv.swap {a b : HO} (I : Inv X pins σ H s) (hp : H p = some a) (ha : (∀ x, a ≠ .own x) ∧ ∀ xs, a ≠ .tup xs) (h1 : ∀ xs, X.H₀ p ≠ some (.tup xs)) (h2 : ∀ o u, X.H₀ p ≠ some (.frz o u)) (h3 : ∀ ps, X.H₀ p ≠ some (.tbl ps))
    (new : ObjOk X.prog X.w H s.heap p b) : Inv X pins σ (upd H p b) s := by
  have ne : ∀ {c : Addr}, H c = none → c ≠ p := fun {c} q z => by subst z; rw [hp] at q; cases q
  have st : ∀ {c : Addr} {o : HO}, ObjOk X.prog X.w H s.heap c o → ObjOk X.prog X.w (upd H p b) s.heap c o := fun {c o} x =>
    x.stay (fun _ _ _ q => q) (fun d q => by
      have : d ≠ p := by intro z; subst z; rw [hp] at q; cases q; exact ha.1 _ rfl
      rw [upd_ne this]; exact q) fun d xs q => by
      have : d ≠ p := by intro z; subst z; rw [hp] at q; cases q; exact ha.2 _ rfl
      rw [upd_ne this]; exact q
  refine ⟨I.ok, I.os, I.bare, ⟨I.base.keep, I.base.slot, fun c o e n x => ?_, I.base.there, fun c xs q => ?_, fun c o u q => ?_, fun c ps q => ?_⟩, I.loc, I.cell, ?_, fun x c e => ?_, fun q hq => ?_, fun c o q => ?_, I.len⟩
  · have := I.base.free c o e n x
    rw [upd_ne (ne this)]; exact this
  · have : c ≠ p := by intro z; subst z; exact h1 xs q
    rw [upd_ne this]; exact I.base.tups c xs q
  · have : c ≠ p := by intro z; subst z; exact h2 o u q
    rw [upd_ne this]; exact I.base.frzs c o u q
  · have : c ≠ p := by intro z; subst z; exact h3 ps q
    rw [upd_ne this]; exact I.base.tbls c ps q
  · rw [upd_ne (ne I.free)]; exact I.free
  · rw [upd_ne (ne (I.freeC x c e))]; exact I.freeC x c e
  · obtain ⟨a1, a2, a3, a4, a5⟩ := I.pin q hq
    exact ⟨a1, by rw [upd_ne (ne a2)]; exact a2, a3, a4, a5⟩
  · by_cases z : c = p
    · subst z; rw [upd_same] at q; cases q; exact st new
    · rw [upd_ne z] at q; exact st (I.hok c o q)
theorem Inv.freeze {xs : List V} (I : Inv X pins σ H s) (hp : H p = some (.lst xs)) : ∃ o, Inv X pins σ (upd H p (.frz o (.lst xs))) s := by
  have k := I.hok p _ hp
  obtain ⟨z, its, n, r, e⟩ := id k
  refine ⟨_, I.swap hp ⟨fun _ q => (nomatch q), fun _ q => (nomatch q)⟩ (fun ys q => ?_) (fun o u q => ?_) (fun ps q => ?_) ⟨e, k⟩⟩
  · rw [I.base.tups p ys q] at hp; cases hp
  · rw [I.base.frzs p o u q] at hp; cases hp
  · obtain ⟨more, q⟩ := I.base.tbls p ps q; rw [q] at hp; cases hp
structure Loose (X : Cx) (p : Addr) : Prop where
  t : ∀ xs, X.H₀ p ≠ some (.tup xs)
  f : ∀ o u, X.H₀ p ≠ some (.frz o u)
  b : ∀ ps, X.H₀ p ≠ some (.tbl ps)
theorem Inv.loose {xs : List V} (I : Inv X pins σ H s) (hp : H p = some (.lst xs)) : Loose X p :=
  ⟨fun ys q => (by rw [I.base.tups p ys q] at hp; cases hp), fun o u q => (by rw [I.base.frzs p o u q] at hp; cases hp), fun ps q => (by obtain ⟨more, q⟩ := I.base.tbls p ps q; rw [q] at hp; cases hp)⟩
noncomputable def tFrz (t : TE) : TE := fun σ H Q => t σ H fun v H1 => ∃ p xs, v = .ref p ∧ H1 p = some (.lst xs) ∧ ∀ o, Q v (upd H1 p (.frz o (.lst xs)))
theorem pe_frz {x : Expr} {t : TE} (h : PE X x t) : PE X x (tFrz t) := fun pins s σ H Q I q =>
  wpAny_mono (h pins s σ H _ I q) (fun u s1 zz => by
    obtain ⟨v, H1, I1, r, p, xs, e, hp, q1⟩ := zz
    obtain ⟨o, I2⟩ := I1.freeze hp
    exact ⟨v, _, I2, r, q1 o⟩) fun _ _ z => z
noncomputable def hidO (p : Addr) (xs : List V) : HO := .ext fun h => xs.length ≤ sizeLine ∧ ∃ (its : List Value) (n : Nat), Vals xs its ∧ h.get? p = some { cls := .type "list", data := .seq its.toArray n }
theorem Inv.hide {xs : List V} (I : Inv X pins σ H s) (hp : H p = some (.lst xs)) : Inv X pins σ (upd H p (hidO p xs)) s := by
  have k := I.hok p _ hp
  have l := I.loose hp
  obtain ⟨z, its, n, r, e⟩ := id k
  exact I.swap hp ⟨fun _ q => (nomatch q), fun _ q => (nomatch q)⟩ l.t l.f l.b ⟨⟨z, its, n, r, e⟩, ⟨_, e⟩, fun h1 h2 ⟨z, its, n, r, e⟩ k => ⟨z, its, n, r, k _ e⟩⟩
theorem Inv.show' {xs : List V} (I : Inv X pins σ H s) (l : Loose X p) (hp : H p = some (hidO p xs)) : Inv X pins σ (upd H p (.lst xs)) s := by
  obtain ⟨k, _, _⟩ := I.hok p _ hp
  exact I.swap hp ⟨fun _ q => (nomatch q), fun _ q => (nomatch q)⟩ l.t l.f l.b k
noncomputable def tHide (p : Addr) (t : TE) : TE := fun σ H Q => ∃ xs, H p = some (.lst xs) ∧ t σ (upd H p (hidO p xs)) fun v H1 => H1 p = some (hidO p xs) ∧ Q v (upd H1 p (.lst xs))
theorem pe_hide {x : Expr} {t : TE} (h : PE X x t) : PE X x fun σ H Q => ∃ p, tHide p t σ H Q := fun pins s σ H Q I ⟨p, xs, hp, q⟩ =>
  wpAny_mono (h pins s σ _ _ (I.hide hp) q) (fun u s1 ⟨v, H1, I2, r, hp1, q1⟩ => ⟨v, _, I2.show' (I.loose hp) hp1, r, q1⟩) fun _ _ z => z
noncomputable def tHideT (p : Addr) (t : TT) : TT := fun σ H Q => ∃ xs, H p = some (.lst xs) ∧ t σ (upd H p (hidO p xs)) fun v H1 => H1 p = some (hidO p xs) ∧ Q v (upd H1 p (.lst xs))
theorem pifs_hide {ifs : List Expr} {t : TT} (h : PIfs X ifs t) : PIfs X ifs fun σ H Q => ∃ p, tHideT p t σ H Q := fun pins s σ H Q I ⟨p, xs, hp, q⟩ =>
  wpAny_mono (h pins s σ _ _ (I.hide hp) q) (fun u s1 ⟨H1, I2, hp1, q1⟩ => ⟨_, I2.show' (I.loose hp) hp1, q1⟩) fun _ _ z => z
noncomputable def tHideG (p : Addr) (g : TG) : TG := fun v σ H Q => ∃ xs, H p = some (.lst xs) ∧ g v σ (upd H p (hidO p xs)) fun σ1 H1 => H1 p = some (hidO p xs) ∧ Q σ1 (upd H1 p (.lst xs))
theorem pg_hide {tg : Expr} {g : TG} (h : PG X tg g) : PG X tg fun v σ H Q => ∃ p, tHideG p g v σ H Q := fun pins s σ H v u Q I r ⟨p, xs, hp, q⟩ =>
  wpAny_mono (h pins s σ _ v u _ (I.hide hp) r q) (fun u s1 ⟨σ1, H1, I2, hp1, q1⟩ => ⟨σ1, _, I2.show' (I.loose hp) hp1, q1⟩) fun _ _ z => z
end
section
variable {X : Cx} {pos : Pos}
end
end L2

namespace L2
open PySem PySem.Spec PyProof.Rows
section
variable {X : Cx} {e : Expr} {te : TE} {st : Expr} {ts : TO} {pos p2 : Pos}
end
end L2

namespace L2
open PySem PySem.Spec PyProof.Rows
theorem lri_nolen : typeLookup (.type "list_reverseiterator") "__len__" = pure none := by rw [typeLookup_type, builtinLookup_eq_fast]; kernel_rfl
theorem lri_ishint : typeLookup (.type "list_reverseiterator") "__length_hint__" = pure (some (.builtin "list_reverseiterator.__length_hint__")) := by rw [typeLookup_type, builtinLookup_eq_fast]; kernel_rfl
section
variable {prog : Program} {w : World} {A : Around} {E : Value → Shared → Prop} {s : Shared}
theorem rev_hint {it l : Addr} {i : Int} {Q : Bool → Shared → Prop} (hit : s.heap.IsRevIter it l i) (h : Q false s) : wpAny (model prog w) A (Builtin.List.listLengthHint (.ref it)) Q E s := by
  have hT := hit.typeIs
  unfold Builtin.List.listLengthHint
  refine wpAny_bind (wpAny_specialOf hT lri_nolen ?_)
  show wpAny _ A (specialOf (Value.ref it) (Str.ofString "__length_hint__") >>= _) Q E s
  refine wpAny_bind (wpAny_specialOf hT lri_ishint ?_)
  generalize hv : ("list_reverseiterator.__length_hint__" : String) = nm
  wp_delta
  rw [show splitId nm = some ("list_reverseiterator", "__length_hint__") by subst hv; decide +kernel]
  subst hv
  refine wpAny_bind (wpAny_isInstance (T := "list_reverseiterator") (b := true) hT (by rw [isSubtype_type]; kernel_rfl) ?_)
  refine wpAny_ite_split (fun z => absurd z (by decide)) (fun _ => ?_)
  refine wpAny_ite_split (fun _ => ?_) (fun z => absurd (by decide +kernel) z)
  refine wpAny_ite_split (fun z => absurd z (by decide)) (fun _ => ?_)
  exact wpAny_pure h
noncomputable abbrev RevAt (items : Array Value) : Nat → Value → Prop := fun j x => items[items.size - 1 - j]? = some x
noncomputable abbrev Fin2 (prog : Program) (w : World) (A : Around) (R : Result → Shared → Prop) : Fin → Shared → Prop := fun z s' => match z with | .done f => R (.ok f) s' | .again c' => c'.quiet = true ∧ codeAny (model prog w) A c' R s'
end
section
variable {X : Cx}
noncomputable def revφ (p a : Addr) (n : Nat) : Heap → Prop := fun h => h.get? p = some (revObj a ((n : Int) - 1))
noncomputable def dropH (H : Hp) (a : Addr) : Hp := fun b => if b = a then none else H b
theorem dropH_ne {H : Hp} {a b : Addr} (h : b ≠ a) : dropH H a b = H b := if_neg h
theorem dropH_same {H : Hp} {a : Addr} : dropH H a a = none := if_pos rfl
theorem cr_reversed : CallR X (.type "reversed") (fun xs H Q => ∃ a ys, xs = [.ref a] ∧ SqL X.K H a ys ∧ ∀ p, H p = none → p ≠ a → X.s₀.heap.objs.size ≤ p → Q (.ref p) (upd H p (.ext (revφ p a ys.length)))) := by
  intro pins s σ H xs us Q I rv h
  obtain ⟨a, ys, rfl, sq, q⟩ := h
  obtain ⟨u, rfl, ru⟩ := rv.one
  cases ru
  obtain ⟨its, r, ht, hz⟩ := I.list sq
  have hl := r.length
  obtain ⟨o, ho, _⟩ := id ht.isList
  refine call_reversed_list ht.isList ⟨.ref s.heap.objs.size, _, I.laid (t' := s.toks) (o := .ext (revφ s.heap.objs.size a ys.length)) (fun b u e => Heap.get?_push_of_some _ e) (Nat.le_refl _) ?_, rfl, q _ I.fresh (Nat.ne_of_gt (Heap.lt_size ho)) I.sz⟩
  have e : (s.heap.push (revObj a ((its.toArray.size : Int) - 1))).get? s.heap.objs.size = some (revObj a ((ys.length : Int) - 1)) := by
    rw [Heap.get?_push_size _ rfl, hl]; rfl
  exact ⟨e, ⟨_, e⟩, fun h1 h2 z k => k _ z⟩
theorem rev_items {items : Array Value} {acc : Array Value} (h : ItemsOf (RevAt items) acc items.size) : acc.toList = items.toList.reverse := by
  obtain ⟨h1, h2⟩ := h
  apply List.ext_getElem
  · rw [List.length_reverse, Array.length_toList, Array.length_toList, h1]
  · intro j g1 g2
    rw [Array.length_toList] at g1
    have e := h2 j acc[j] (Array.getElem?_eq_getElem g1)
    have e2 : items.size - 1 - j < items.size := by omega
    have e3 : items[items.size - 1 - j]? = some (items[items.size - 1 - j]'e2) := Array.getElem?_eq_getElem e2
    have e4 : items[items.size - 1 - j]'e2 = acc[j] := Option.some.inj (e3.symm.trans e)
    rw [List.getElem_reverse, Array.getElem_toList, Array.getElem_toList, ← e4]
    congr 1
end
section
variable {X : Cx}
end
section
variable {prog : Program} {w : World} {A : Around} {E : Value → Shared → Prop} {s : Shared}
end
section
variable {prog : Program} {w : World} {A : Around} {E : Value → Shared → Prop} {s : Shared}
end
section
variable {X : Cx}
end
end L2

namespace L2
open PySem PySem.Spec PyProof.Rows
section
variable {prog : Program} {w : World} {A : Around} {E : Value → Shared → Prop} {s : Shared}
end
end L2
namespace L2
open PySem PySem.Spec PyProof.Rows
section
variable {X : Cx}
end
end L2

namespace L2
open PySem PySem.Spec PyProof.Rows
section
variable {prog : Program} {w : World} {A : Around} {E : Value → Shared → Prop} {s : Shared}
end
section
variable {X : Cx} {pos : Pos}
end
end L2

namespace L2
open PySem PySem.Spec PyProof.Rows
section
variable {X : Cx}
end
end L2

namespace L2
open PySem PySem.Spec PyProof.Rows
section
variable {prog : Program} {w : World} {A : Around} {E : Value → Shared → Prop} {s : Shared}
end
end L2

namespace L2
open PySem
section
variable {prog : Program} {w : World} {A : Around} {E : Value → Shared → Prop} {s : Shared}
end
section
variable {prog : Program} {w : World} {A : Around} {E : Value → Shared → Prop} {s : Shared}
end
end L2
namespace L2
open PySem PySem.Spec PyProof.Rows
end L2

namespace L2
open PySem
theorem PE.imp {X : Cx} {x : Expr} {t t' : TE} (h : PE X x t) (i : ∀ σ H Q, t' σ H Q → t σ H Q) : PE X x t' := fun pins s σ H Q I q => h pins s σ H Q I (i σ H Q q)
theorem PT.imp {X : Cx} {x : Expr} {t t' : TT} (h : PT X x t) (i : ∀ σ H Q, t' σ H Q → t σ H Q) : PT X x t' := fun pins s σ H Q I q => h pins s σ H Q I (i σ H Q q)
theorem PW.imp {X : Cx} {x : Expr} {t t' : TT} (h : PW X x t) (i : ∀ σ H Q, t' σ H Q → t σ H Q) : PW X x t' := fun wh pins s σ H Q I q => h wh pins s σ H Q I (i σ H Q q)
theorem PA.imp {X : Cx} {x : List Expr} {t t' : TA} (h : PA X x t) (i : ∀ σ H Q, t' σ H Q → t σ H Q) : PA X x t' := fun pos pins s σ H Q I q => h pos pins s σ H Q I (i σ H Q q)
theorem PS.imp {X : Cx} {x : Stmt} {t t' : TS} (h : PS X x t) (i : ∀ E σ H, t' E σ H → t E σ H) : PS X x t' := fun pins s σ H D I q => h pins s σ H D I (i D σ H q)
theorem PSs.imp {X : Cx} {x : List Stmt} {t t' : TS} (h : PSs X x t) (i : ∀ E σ H, t' E σ H → t E σ H) : PSs X x t' := fun pins s σ H D I q => h pins s σ H D I (i D σ H q)
theorem OpR.imp {X : Cx} {f : Value → Value → Sem Value} {r r' : R2} (h : OpR X f r) (i : ∀ x y H Q, r' x y H Q → r x y H Q) : OpR X f r' := fun pins s σ H x y v u Q I rx ry q => h pins s σ H x y v u Q I rx ry (i x y H Q q)
theorem IxR.imp {X : Cx} {r r' : R2} (h : IxR X r) (i : ∀ x y H Q, r' x y H Q → r x y H Q) : IxR X r' := fun va sl pins s σ H x y v u Q I rx ry q => h va sl pins s σ H x y v u Q I rx ry (i x y H Q q)
theorem PG.imp {X : Cx} {x : Expr} {t t' : TG} (h : PG X x t) (i : ∀ v σ H Q, t' v σ H Q → t v σ H Q) : PG X x t' := fun pins s σ H v u Q I r q => h pins s σ H v u Q I r (i v σ H Q q)
theorem PGs.imp {X : Cx} {x : List Expr} {t t' : TGs} (h : PGs X x t) (i : ∀ v σ H Q, t' v σ H Q → t v σ H Q) : PGs X x t' := fun pins s σ H v u Q I r q => h pins s σ H v u Q I r (i v σ H Q q)
end L2
namespace DL
open PySem PySem.Spec L2
open PyProof.Rows hiding St


inductive D where
  | non | bl (b : Bool) | int (i : Int) | str (x : Str) | ref (a : Addr) | tup (ds : List D) | vl (ds : List D) | ty (n : String) | dic | exc (c : Str)

noncomputable def KL (K : PySem.W.Frag) (a : Addr) (xs : List V) : Prop := ∀ H : Hp, SqL K H a xs

mutual
inductive Has (K : PySem.W.Frag) (H : Hp) : V → D → Prop
  | non : Has K H .non .non
  | bl (b : Bool) : Has K H (.bl b) (.bl b)
  | int (i : Int) : Has K H (.int i) (.int i)
  | str (x : Str) : Has K H (.str x) (.str x)
  | ref (a : Addr) : Has K H (.ref a) (.ref a)
  | ty (n : String) : Has K H (.ty n) (.ty n)
  | tup {a : Addr} {xs : List V} {ds : List D} : SqT K H a xs → HasL K H xs ds → Has K H (.ref a) (.tup ds)
  | vl {a : Addr} {xs : List V} {ds : List D} : ((∃ o, H a = some (.frz o (.lst xs))) ∨ KL K a xs) → HasL K H xs ds → Has K H (.ref a) (.vl ds)
  | dic {a : Addr} : (∃ o : Obj, H a = some (.frz o (.own 0)) ∧ o.cls = .type "dict") → Has K H (.ref a) .dic
  | exc {a : Addr} {c : Str} : (∃ (o : Obj) (C : Addr), H a = some (.frz o (.own 0)) ∧ o.cls = .ref C ∧ PySem.W.nsIn K mainGlobals c = some (some (.ref C))) → Has K H (.ref a) (.exc c)
inductive HasL (K : PySem.W.Frag) (H : Hp) : List V → List D → Prop
  | nil : HasL K H [] []
  | cons {v : V} {d : D} {vs : List V} {ds : List D} : Has K H v d → HasL K H vs ds → HasL K H (v :: vs) (d :: ds)
end

structure KT0 (H H' : Hp) : Prop where
  tp : ∀ a xs, Rd H a (.tup xs) → Rd H' a (.tup xs)
  fz : ∀ a o u, H a = some (.frz o u) → H' a = some (.frz o u)
structure KT (H H' : Hp) : Prop extends KT0 H H' where
  ex : ∀ a φ, H a = some (.ext φ) → H' a = some (.ext φ)
theorem KT.refl (H : Hp) : KT H H := ⟨⟨fun _ _ h => h, fun _ _ _ h => h⟩, fun _ _ h => h⟩
theorem KT.trans {H H1 H2 : Hp} (a : KT H H1) (b : KT H1 H2) : KT H H2 := ⟨⟨fun p xs h => b.tp p xs (a.tp p xs h), fun p o xs h => b.fz p o xs (a.fz p o xs h)⟩, fun p φ h => b.ex p φ (a.ex p φ h)⟩
theorem KT0.sq {K : PySem.W.Frag} {H H' : Hp} (k : KT0 H H') {a : Addr} {xs : List V} (h : SqT K H a xs) : SqT K H' a xs := h.elim (fun z => .inl (k.tp a xs z)) .inr
theorem KT.sq {K : PySem.W.Frag} {H H' : Hp} (k : KT H H') {a : Addr} {xs : List V} (h : SqT K H a xs) : SqT K H' a xs := k.toKT0.sq h
theorem KT0.at {H : Hp} {p : Addr} {o : HO} (h1 : ∀ xs, ¬ Rd H p (.tup xs)) (h2 : ∀ q u, H p ≠ some (.frz q u)) : KT0 H (upd H p o) where
  tp := fun a xs r => by
    have hn : a ≠ p := by intro e; subst e; exact h1 xs r
    rcases r with r | ⟨q, r⟩
    · exact .inl (by rw [upd_ne hn]; exact r)
    · exact .inr ⟨q, by rw [upd_ne hn]; exact r⟩
  fz := fun a q xs r => by
    have hn : a ≠ p := by intro e; subst e; exact h2 q xs r
    rw [upd_ne hn]; exact r
theorem KT.at {H : Hp} {p : Addr} {o : HO} (h1 : ∀ xs, ¬ Rd H p (.tup xs)) (h2 : ∀ q u, H p ≠ some (.frz q u)) (h3 : ∀ φ, H p ≠ some (.ext φ)) : KT H (upd H p o) := ⟨KT0.at h1 h2, fun a φ r => by
    have hn : a ≠ p := by intro e; subst e; exact h3 φ r
    rw [upd_ne hn]; exact r⟩
theorem KT.alloc {H : Hp} {p : Addr} {o : HO} (h : H p = none) : KT H (upd H p o) := KT.at (fun xs r => by rcases r with r | ⟨_, r⟩ <;> (rw [h] at r; cases r)) (fun q xs r => by rw [h] at r; cases r) fun φ r => by rw [h] at r; cases r
theorem KT.any {H : Hp} {p : Addr} {xs : List V} {o : HO} (h : H p = some (.lst xs)) : KT H (upd H p o) := KT.at (fun xs r => by rcases r with r | ⟨_, r⟩ <;> (rw [h] at r; cases r)) (fun q xs r => by rw [h] at r; cases r) fun φ r => by rw [h] at r; cases r
theorem KT.write {H : Hp} {p : Addr} {xs ys : List V} (h : H p = some (.lst xs)) : KT H (upd H p (.lst ys)) := KT.any h
theorem KT0.ext {H : Hp} {p : Addr} {φ : Heap → Prop} {o : HO} (h : H p = some (.ext φ)) : KT0 H (upd H p o) := KT0.at (fun xs r => by rcases r with r | ⟨_, r⟩ <;> (rw [h] at r; cases r)) fun q xs r => by rw [h] at r; cases r
theorem KT.new {H H' : Hp} {p : Addr} {o : HO} (k : KT H H') (h : H p = none) : KT H (upd H' p o) where
  tp := fun a xs r => by
    have hn : a ≠ p := by intro e; subst e; rcases r with r | ⟨_, r⟩ <;> (rw [h] at r; cases r)
    rcases k.tp a xs r with r | ⟨q, r⟩
    · exact .inl (by rw [upd_ne hn]; exact r)
    · exact .inr ⟨q, by rw [upd_ne hn]; exact r⟩
  fz := fun a q xs r => by
    have hn : a ≠ p := by intro e; subst e; rw [h] at r; cases r
    rw [upd_ne hn]; exact k.fz a q xs r
  ex := fun a φ r => by
    have hn : a ≠ p := by intro e; subst e; rw [h] at r; cases r
    rw [upd_ne hn]; exact k.ex a φ r

mutual
theorem Has.mono0 {K : PySem.W.Frag} {H H' : Hp} (k : KT0 H H') : ∀ {v : V} {d : D}, Has K H v d → Has K H' v d
  | _, _, .non => .non
  | _, _, .bl b => .bl b
  | _, _, .int i => .int i
  | _, _, .str x => .str x
  | _, _, .ref a => .ref a
  | _, _, .ty n => .ty n
  | _, _, .tup s l => .tup (k.sq s) (HasL.mono0 k l)
  | _, _, .vl h l => .vl (h.elim (fun ⟨o, e⟩ => .inl ⟨o, k.fz _ _ _ e⟩) .inr) (HasL.mono0 k l)
  | _, _, .dic h => .dic (let ⟨o, e, c⟩ := h; ⟨o, k.fz _ _ _ e, c⟩)
  | _, _, .exc h => .exc (let ⟨o, C, e, c⟩ := h; ⟨o, C, k.fz _ _ _ e, c⟩)
theorem HasL.mono0 {K : PySem.W.Frag} {H H' : Hp} (k : KT0 H H') : ∀ {v : List V} {d : List D}, HasL K H v d → HasL K H' v d
  | _, _, .nil => .nil
  | _, _, .cons a b => .cons (Has.mono0 k a) (HasL.mono0 k b)
end
theorem Has.mono {K : PySem.W.Frag} {H H' : Hp} (k : KT H H') {v : V} {d : D} (h : Has K H v d) : Has K H' v d := h.mono0 k.toKT0
theorem HasL.mono {K : PySem.W.Frag} {H H' : Hp} (k : KT H H') {v : List V} {d : List D} (h : HasL K H v d) : HasL K H' v d := h.mono0 k.toKT0
section
variable {K : PySem.W.Frag} {H H' : Hp}
theorem HasL.length : ∀ {vs : List V} {ds : List D}, HasL K H vs ds → vs.length = ds.length
  | _, _, .nil => rfl
  | _, _, .cons _ b => congrArg Nat.succ (HasL.length b)
theorem HasL.get : ∀ {vs : List V} {ds : List D} {i : Nat} {d : D}, HasL K H vs ds → ds[i]? = some d → ∃ v, vs[i]? = some v ∧ Has K H v d
  | _, _, _, _, .nil, e => by simp at e
  | _, _, 0, _, .cons a _, e => by simp at e; subst e; exact ⟨_, rfl, a⟩
  | _, _, i + 1, d, .cons _ b, e => by
    obtain ⟨v, h1, h2⟩ := HasL.get (i := i) (d := d) b (by simpa using e)
    exact ⟨v, by simpa using h1, h2⟩
theorem HasL.getV : ∀ {vs : List V} {ds : List D} {i : Nat} {v : V}, HasL K H vs ds → vs[i]? = some v → ∃ d, ds[i]? = some d ∧ Has K H v d
  | _, _, _, _, .nil, e => by simp at e
  | _, _, 0, _, .cons a _, e => by simp at e; subst e; exact ⟨_, rfl, a⟩
  | _, _, i + 1, d, .cons _ b, e => by
    obtain ⟨v, h1, h2⟩ := HasL.getV (i := i) (v := d) b (by simpa using e)
    exact ⟨v, by simpa using h1, h2⟩
theorem HasL.set {v : V} {d : D} (r : Has K H v d) : ∀ {vs : List V} {ds : List D} (i : Nat), HasL K H vs ds → HasL K H (vs.set i v) (ds.set i d)
  | _, _, _, .nil => .nil
  | _, _, 0, .cons _ t => .cons r t
  | _, _, i + 1, .cons q t => .cons q (HasL.set r i t)
theorem HasL.append : ∀ {xs ys : List V} {us ws : List D}, HasL K H xs us → HasL K H ys ws → HasL K H (xs ++ ys) (us ++ ws)
  | _, _, _, _, .nil, s => s
  | _, _, _, _, .cons r t, s => .cons r (HasL.append t s)
theorem HasL.take : ∀ {xs : List V} {us : List D} (n : Nat), HasL K H xs us → HasL K H (xs.take n) (us.take n)
  | _, _, 0, _ => .nil
  | _, _, _ + 1, .nil => .nil
  | _, _, n + 1, .cons r t => .cons r (HasL.take n t)
theorem HasL.drop : ∀ {xs : List V} {us : List D} (n : Nat), HasL K H xs us → HasL K H (xs.drop n) (us.drop n)
  | _, _, 0, r => r
  | _, _, _ + 1, .nil => .nil
  | _, _, n + 1, .cons _ t => HasL.drop n t
theorem HasL.ints : ∀ (ns : List Int), HasL K H (ns.map V.int) (ns.map D.int)
  | [] => .nil
  | n :: r => .cons (.int n) (HasL.ints r)
end


inductive MO where
  | lst (ds : List D)
noncomputable abbrev Mem := Addr → Option MO
noncomputable def updM (M : Mem) (a : Addr) (o : MO) : Mem := fun b => if b = a then some o else M b
theorem updM_same {M : Mem} {a : Addr} {o : MO} : updM M a o a = some o := by unfold updM; rw [if_pos rfl]
theorem updM_ne {M : Mem} {a b : Addr} {o : MO} (h : b ≠ a) : updM M a o b = M b := by unfold updM; rw [if_neg h]
theorem updM_upd {M : Mem} {a : Addr} {o u : MO} : updM (updM M a o) a u = updM M a u := by
  funext b; unfold updM; by_cases h : b = a <;> simp [h]
noncomputable def MOk (K : PySem.W.Frag) (H : Hp) (a : Addr) : MO → Prop
  | .lst ds => ∃ xs, H a = some (.lst xs) ∧ HasL K H xs ds
noncomputable def AbsM (K : PySem.W.Frag) (H : Hp) (M : Mem) : Prop := ∀ a o, M a = some o → MOk K H a o
section
variable {K : PySem.W.Frag} {H H' : Hp} {M : Mem}
theorem AbsM.fresh (h : AbsM K H M) {p : Addr} (e : H p = none) : M p = none := by
  cases q : M p with
  | none => rfl
  | some o =>
    cases o with
    | lst ds => obtain ⟨xs, z, _⟩ := h p _ q; rw [e] at z; cases z
theorem AbsM.alloc (h : AbsM K H M) {p : Addr} {u : HO} (e : H p = none) : AbsM K (upd H p u) M := fun a o m => by
  have k : KT H (upd H p u) := KT.alloc e
  cases o with
  | lst ds =>
    obtain ⟨xs, z, l⟩ := h a _ m
    have hn : a ≠ p := ne_of_none z e
    exact ⟨xs, by rw [upd_ne hn]; exact z, l.mono k⟩
theorem AbsM.new (h : AbsM K H M) {p : Addr} {xs : List V} {ds : List D} (e : H p = none) (l : HasL K H xs ds) : AbsM K (upd H p (.lst xs)) (updM M p (.lst ds)) := fun a o m => by
  by_cases q : a = p
  · subst q
    rw [updM_same] at m; cases m
    exact ⟨xs, upd_same, l.mono (KT.alloc e)⟩
  · rw [updM_ne q] at m
    exact h.alloc e a o m
theorem AbsM.write (h : AbsM K H M) {p : Addr} {xs ys : List V} {ds : List D} (e : H p = some (.lst xs)) (l : HasL K H ys ds) : AbsM K (upd H p (.lst ys)) (updM M p (.lst ds)) := fun a o m => by
  have k : KT H (upd H p (.lst ys)) := KT.write e
  by_cases q : a = p
  · subst q
    rw [updM_same] at m; cases m
    exact ⟨ys, upd_same, l.mono k⟩
  · rw [updM_ne q] at m
    cases o with
    | lst es =>
      obtain ⟨zs, z, l⟩ := h a _ m
      exact ⟨zs, by rw [upd_ne q]; exact z, l.mono k⟩
theorem AbsM.lst (h : AbsM K H M) {a : Addr} {ds : List D} (m : M a = some (.lst ds)) : ∃ xs, H a = some (.lst xs) ∧ HasL K H xs ds := h a _ m
end


noncomputable abbrev Ev := List (Option D)
structure EnvOk (K : PySem.W.Frag) (H : Hp) (σ : St) (e : Ev) : Prop where
  len : σ.length = e.length
  has : ∀ (i : Nat) (d : D), e[i]? = some (some d) → ∃ v, σ[i]? = some (some v) ∧ Has K H v d
section
variable {K : PySem.W.Frag} {H H' : Hp} {σ : St} {e : Ev}
theorem EnvOk.mono (k : KT H H') (h : EnvOk K H σ e) : EnvOk K H' σ e := ⟨h.len, fun i d z => let ⟨v, a, b⟩ := h.has i d z; ⟨v, a, b.mono k⟩⟩
theorem EnvOk.set (h : EnvOk K H σ e) {v : V} {d : D} (r : Has K H v d) (i : Nat) : EnvOk K H (σ.set i (some v)) (e.set i (some d)) := by
  refine ⟨by simp [h.len], fun j x z => ?_⟩
  rw [List.getElem?_set] at z ⊢
  by_cases q : i = j
  · subst q
    rw [if_pos rfl] at z ⊢
    by_cases l : i < e.length
    · rw [if_pos l] at z
      rw [if_pos (by rw [h.len]; exact l)]
      cases z
      exact ⟨v, rfl, r⟩
    · rw [if_neg l] at z; cases z
  · rw [if_neg q] at z ⊢
    exact h.has j x z
end
noncomputable def dstart (N : List Str) (ds : List D) : Ev := ds.map some ++ List.replicate (N.length - ds.length) none
theorem EnvOk.start0 {K : PySem.W.Frag} {H : Hp} {N : List Str} {vs : List V} {ds : List D} (h : HasL K H vs ds) : EnvOk K H (L2.start N vs) (dstart N ds) := by
  have hl := h.length
  refine ⟨by simp [L2.start, dstart, hl], fun i d z => ?_⟩
  unfold dstart at z
  unfold L2.start
  rw [List.getElem?_append] at z ⊢
  simp only [List.length_map] at z ⊢
  rw [hl]
  by_cases q : i < ds.length
  · rw [if_pos q] at z ⊢
    rw [List.getElem?_map] at z ⊢
    cases e : ds[i]? with
    | none => rw [e] at z; cases z
    | some x =>
      rw [e] at z
      have z' : x = d := by simpa using z
      subst z'
      obtain ⟨v, a, b⟩ := h.get e
      exact ⟨v, by rw [a]; rfl, b⟩
  · rw [if_neg q] at z
    rw [List.getElem?_replicate] at z
    split at z <;> cases z


noncomputable abbrev DK := D → Mem → Prop
noncomputable abbrev DTE := Ev → Mem → DK → Prop
noncomputable abbrev DTT := Ev → Mem → (Bool → Mem → Prop) → Prop
noncomputable abbrev DTA := Ev → Mem → (List D → Mem → Prop) → Prop
structure DEnds where
  nx : Ev → Mem → Prop
  rt : DK
  bk : Ev → Mem → Prop := fun _ _ => False
  ct : Ev → Mem → Prop := fun _ _ => False
noncomputable abbrev DTS := DEnds → Ev → Mem → Prop
noncomputable def FitV (K : PySem.W.Frag) (H : Hp) (R : DK) (Q : VK) : Prop := ∀ d M', R d M' → ∀ v H', KT H H' → AbsM K H' M' → Has K H' v d → Q v H'
noncomputable def FitB (K : PySem.W.Frag) (H : Hp) (R : Bool → Mem → Prop) (Q : Bool → Hp → Prop) : Prop := ∀ b M', R b M' → ∀ H', KT H H' → AbsM K H' M' → Q b H'
noncomputable def FitL (K : PySem.W.Frag) (H : Hp) (R : List D → Mem → Prop) (Q : List V → Hp → Prop) : Prop := ∀ ds M', R ds M' → ∀ vs H', KT H H' → AbsM K H' M' → HasL K H' vs ds → Q vs H'
noncomputable def FitN (K : PySem.W.Frag) (H : Hp) (R : Ev → Mem → Prop) (Q : St → Hp → Prop) : Prop := ∀ e M', R e M' → ∀ σ H', KT H H' → AbsM K H' M' → EnvOk K H' σ e → Q σ H'
structure Fit (K : PySem.W.Frag) (H : Hp) (F : DEnds) (E : Ends) : Prop where
  nx : FitN K H F.nx E.nx
  rt : FitV K H F.rt E.rt
  bk : FitN K H F.bk E.bk
  ct : FitN K H F.ct E.ct
section
variable {K : PySem.W.Frag} {H H' : Hp}
theorem FitV.mono {R : DK} {Q : VK} (h : FitV K H R Q) (k : KT H H') : FitV K H' R Q := fun d M r v H2 k2 a b => h d M r v H2 (k.trans k2) a b
theorem FitB.mono {R : Bool → Mem → Prop} {Q : Bool → Hp → Prop} (h : FitB K H R Q) (k : KT H H') : FitB K H' R Q := fun d M r H2 k2 a => h d M r H2 (k.trans k2) a
theorem FitL.mono {R : List D → Mem → Prop} {Q : List V → Hp → Prop} (h : FitL K H R Q) (k : KT H H') : FitL K H' R Q := fun d M r v H2 k2 a b => h d M r v H2 (k.trans k2) a b
theorem FitN.mono {R : Ev → Mem → Prop} {Q : St → Hp → Prop} (h : FitN K H R Q) (k : KT H H') : FitN K H' R Q := fun d M r v H2 k2 a b => h d M r v H2 (k.trans k2) a b
theorem Fit.mono {F : DEnds} {E : Ends} (h : Fit K H F E) (k : KT H H') : Fit K H' F E := ⟨h.nx.mono k, h.rt.mono k, h.bk.mono k, h.ct.mono k⟩
end
noncomputable def up (K : PySem.W.Frag) (t : DTE) : TE := fun σ H Q => ∃ e M R, EnvOk K H σ e ∧ AbsM K H M ∧ t e M R ∧ FitV K H R Q
noncomputable def upT (K : PySem.W.Frag) (t : DTT) : TT := fun σ H Q => ∃ e M R, EnvOk K H σ e ∧ AbsM K H M ∧ t e M R ∧ FitB K H R Q
noncomputable def upA (K : PySem.W.Frag) (t : DTA) : TA := fun σ H Q => ∃ e M R, EnvOk K H σ e ∧ AbsM K H M ∧ t e M R ∧ FitL K H R Q
noncomputable def upS (K : PySem.W.Frag) (t : DTS) : TS := fun E σ H => ∃ e M F, EnvOk K H σ e ∧ AbsM K H M ∧ t F e M ∧ Fit K H F E
noncomputable abbrev DPE (X : Cx) (x : Expr) (t : DTE) : Prop := PE X x (up X.K t)
noncomputable abbrev DPT (X : Cx) (x : Expr) (t : DTT) : Prop := PT X x (upT X.K t)
noncomputable abbrev DPW (X : Cx) (x : Expr) (t : DTT) : Prop := PW X x (upT X.K t)
noncomputable abbrev DPA (X : Cx) (x : List Expr) (t : DTA) : Prop := PA X x (upA X.K t)
noncomputable abbrev DPS (X : Cx) (x : Stmt) (t : DTS) : Prop := PS X x (upS X.K t)
noncomputable abbrev DPSs (X : Cx) (x : List Stmt) (t : DTS) : Prop := PSs X x (upS X.K t)
structure JE (X : Cx) (x : Expr) (t : DTE) : Prop where
  out : DPE X x t
structure JT (X : Cx) (x : Expr) (t : DTT) : Prop where
  out : DPT X x t
structure JW (X : Cx) (x : Expr) (t : DTT) : Prop where
  out : DPW X x t
structure JA (X : Cx) (x : List Expr) (t : DTA) : Prop where
  out : DPA X x t
structure JS (X : Cx) (x : Stmt) (t : DTS) : Prop where
  out : DPS X x t
structure JSs (X : Cx) (x : List Stmt) (t : DTS) : Prop where
  out : DPSs X x t

section
variable {X : Cx} {a b c : Expr} {ta tb tc : DTE} {pos : Pos}

noncomputable def dVar (i : Nat) : DTE := fun e M R => ∃ d, e[i]? = some (some d) ∧ R d M
noncomputable def dC (d : D) : DTE := fun _ M R => R d M
theorem jd_var (i : Nat) {x : Str} {pos : Pos} (hN : X.N[i]? = some x := by rfl) (hv : Vis X.env.scope x := by first | exact Or.inl rfl | exact Or.inr (Or.inl rfl) | exact Or.inr (Or.inr rfl)) (hd : (x == ("__debug__" : Str)) = false := by decide)
    (hcd : (x == ("__classdict__" : Str)) = false := by decide) : JE X (.Name x pos) (dVar i) := ⟨(pe_var hN hv hd hcd).imp (by
    rintro σ H Q ⟨e, M, R, ok, am, ⟨d, z, r⟩, f⟩
    obtain ⟨v, h1, h2⟩ := ok.has i d z
    exact ⟨v, h1, f d M r v H (KT.refl H) am h2⟩)⟩
theorem d_const {v : V} {d : D} (h : PE X a (tC v)) (r : ∀ H, Has X.K H v d) : DPE X a (dC d) :=
  h.imp (by rintro σ H Q ⟨e, M, R, ok, am, z, f⟩; exact f d M z v H (KT.refl H) am (r H))
theorem jd_int {i j pos} : JE X (.Constant (.int i) j pos) (dC (.int i)) := ⟨d_const pe_int fun _ => .int i⟩
theorem jd_bl {b j pos} : JE X (.Constant (.bool b) j pos) (dC (.bl b)) := ⟨d_const pe_bl fun _ => .bl b⟩
theorem jd_non {j pos} : JE X (.Constant .none j pos) (dC .non) := ⟨d_const pe_non fun _ => .non⟩
theorem jd_str {x j pos} : JE X (.Constant (.str x) j pos) (dC (.str x)) := ⟨d_const pe_str fun _ => .str x⟩
noncomputable def HasK (K : PySem.W.Frag) (v : V) (d : D) : Prop := ∀ H, Has K H v d
theorem d_glob {x : Str} {v : V} {d : D} {u : Value} {pos : Pos} (hg : Gl X x) (hm : X.mg x = some u) (r : RelV v u) (hk : HasK X.K v d) (hd : (x == ("__debug__" : Str)) = false := by decide) : DPE X (.Name x pos) (dC d) :=
  d_const (pe_glob hg hm r hd) hk

noncomputable abbrev DR2 := D → D → Mem → DK → Prop
noncomputable def upR (K : PySem.W.Frag) (g : DR2) : R2 := fun x y H Q => ∃ dx dy M R, Has K H x dx ∧ Has K H y dy ∧ AbsM K H M ∧ g dx dy M R ∧ FitV K H R Q
noncomputable def DOp (X : Cx) (f : Value → Value → Sem Value) (g : DR2) : Prop := OpR X f (upR X.K g)
noncomputable def dOp (g : DR2) (ta tb : DTE) : DTE := fun e M R => ta e M fun x M1 => tb e M1 fun y M2 => g x y M2 R
theorem two_up {ta tb : DTE} {g : DR2} {σ : St} {H : Hp} {Q : VK} (h : up X.K (dOp g ta tb) σ H Q) : tOp (upR X.K g) (up X.K ta) (up X.K tb) σ H Q := by
  obtain ⟨e, M, R, ok, am, t, f⟩ := h
  refine ⟨e, M, _, ok, am, t, fun x M1 h1 v H1 k1 a1 r1 => ?_⟩
  refine ⟨e, M1, _, ok.mono k1, a1, h1, fun y M2 h2 u H2 k2 a2 r2 => ?_⟩
  exact ⟨x, y, M2, R, r1.mono k2, r2, a2, h2, f.mono (k1.trans k2)⟩
theorem jd_op {op : Operator} {g : DR2} (ho : DOp X (binaryOp op) g) (ha : JE X a ta) (hb : JE X b tb) : JE X (.BinOp a op b pos) (dOp g ta tb) := ⟨have ha := ha.out; have hb := hb.out; (pe_op ho ha hb).imp fun _ _ _ h => two_up h⟩
theorem jd_cmp {op : CmpOp} {g : DR2} (ho : DOp X (compareOp op) g) (ha : JE X a ta) (hb : JE X b tb) (hm : behindInMarks op b = false) : JE X (.Compare a [op] [b] pos) (dOp g ta tb) := ⟨have ha := ha.out; have hb := hb.out; (pe_cmpR ho ha hb hm).imp fun _ _ _ h => two_up h⟩
noncomputable def dTest (t : DTE) : DTT := fun e M R => t e M fun x M' => ∃ k, x = .bl k ∧ R k M'
theorem test_fit {K : PySem.W.Frag} {H : Hp} {R : Bool → Mem → Prop} {Q : Bool → Hp → Prop} (f : FitB K H R Q) : FitV K H (fun x M' => ∃ k, x = .bl k ∧ R k M') (fun x H' => ∃ k, x = .bl k ∧ Q k H') := by
  rintro d M' ⟨k, rfl, r⟩ v H' kt am h
  cases h
  exact ⟨k, rfl, f k M' r H' kt am⟩
theorem jd_tcmp {op : CmpOp} {g : DR2} (ho : DOp X (compareOp op) g) (ha : JE X a ta) (hb : JE X b tb) (hm : behindInMarks op b = false) : JT X (.Compare a [op] [b] pos) (dTest (dOp g ta tb)) := ⟨have ha := ha.out; have hb := hb.out; (pt_cmpR ho ha hb hm).imp (by rintro σ H Q ⟨e, M, R, ok, am, t, f⟩; exact two_up (Q := fun x H' => ∃ k, x = .bl k ∧ Q k H') ⟨e, M, _, ok, am, t, test_fit f⟩)⟩
theorem jd_tval {x : Expr} {t : DTE} (h : JE X x t) (he : ∀ whole, isTrue x X.env whole = (do let v ← whole; standAt x.pos; holding [v] (truthy v)) := by intro _; rfl) : JT X x (dTest t) := ⟨have h := h.out; (pt_val h he).imp (by rintro σ H Q ⟨e, M, R, ok, am, t, f⟩; exact ⟨e, M, _, ok, am, t, test_fit f⟩)⟩
noncomputable def fI (f : Int → Int → D) : D → D → Option D
  | .int i, .int j => some (f i j)
  | _, _ => none
noncomputable def gF (f : D → D → Option D) : DR2 := fun x y M R => ∃ z, f x y = some z ∧ R z M
noncomputable def gI (C : Int → Int → Prop) (f : Int → Int → D) : DR2 := fun x y M R => ∃ i j, x = .int i ∧ y = .int j ∧ C i j ∧ R (f i j) M
theorem fI_some {f : Int → Int → D} {x y z : D} (h : fI f x y = some z) : ∃ i j, x = .int i ∧ y = .int j ∧ z = f i j := by
  cases x with
  | int i =>
    cases y with
    | int j => exact ⟨i, j, rfl, rfl, (Option.some.inj h).symm⟩
    | _ => cases h
  | _ => cases h
theorem dop_I {f : Value → Value → Sem Value} {C : Int → Int → Prop} {g : Int → Int → V} {g' : Int → Int → D} (h : OpR X f (rI C g)) (hg : ∀ i j H, Has X.K H (g i j) (g' i j)) : DOp X f (gI C g') :=
  OpR.imp h (by
    rintro x y H Q ⟨dx, dy, M, R, hx, hy, am, ⟨i, j, e1, e2, hc, r⟩, f⟩
    subst e1; subst e2
    cases hx; cases hy
    exact ⟨i, j, rfl, rfl, hc, f _ M r _ H (KT.refl H) am (hg i j H)⟩)
theorem dop_I0 {f : Value → Value → Sem Value} {g : Int → Int → V} {g' : Int → Int → D} (h : OpR X f (rI0 g)) (hg : ∀ i j H, Has X.K H (g i j) (g' i j)) : DOp X f (gF (fI g')) :=
  OpR.imp h (by
    rintro x y H Q ⟨dx, dy, M, R, hx, hy, am, ⟨z, e, r⟩, f⟩
    obtain ⟨i, j, e1, e2, e3⟩ := fI_some e
    subst e1; subst e2; subst e3
    cases hx; cases hy
    exact ⟨i, j, rfl, rfl, f _ M r _ H (KT.refl H) am (hg i j H)⟩)
theorem o_add : DOp X (binaryOp .Add) (gF (fI fun i j => .int (i + j))) := dop_I0 op_add fun _ _ _ => .int _
theorem o_sub : DOp X (binaryOp .Sub) (gF (fI fun i j => .int (i - j))) := dop_I0 op_sub fun _ _ _ => .int _
theorem o_lt : DOp X (compareOp .Lt) (gF (fI fun i j => .bl (decide (i < j)))) := dop_I0 op_lt fun _ _ _ => .bl _
theorem o_gt : DOp X (compareOp .Gt) (gF (fI fun i j => .bl (decide (j < i)))) := dop_I0 op_gt fun _ _ _ => .bl _
theorem o_ge : DOp X (compareOp .GtE) (gF (fI fun i j => .bl (decide (j ≤ i)))) := dop_I0 op_ge fun _ _ _ => .bl _
theorem o_mod : DOp X (binaryOp .Mod) (gI (fun _ j => 0 < j) fun i j => .int (i % j)) := dop_I op_mod fun _ _ _ => .int _
theorem o_pow : DOp X (binaryOp .Pow) (gI CPow fun i j => .int (i ^ j.toNat)) := dop_I op_pow fun _ _ _ => .int _
noncomputable def gU (f : Int → D) : D → Mem → DK → Prop := fun x M R => ∃ i, x = .int i ∧ R (f i) M
noncomputable def dUn (g : D → Mem → DK → Prop) (ta : DTE) : DTE := fun e M R => ta e M fun x M1 => g x M1 R
theorem jd_neg (ha : JE X a ta) : JE X (.UnaryOp .USub a pos) (dUn (gU fun i => .int (-i)) ta) := ⟨have ha := ha.out; (pe_un un_neg ha).imp (by rintro σ H Q ⟨e, M, R, ok, am, t, f⟩; exact ⟨e, M, _, ok, am, t, fun x M1 ⟨i, z, r⟩ v H1 k1 a1 r1 => by
    subst z; cases r1; exact ⟨i, rfl, f _ M1 r _ H1 k1 a1 (.int _)⟩⟩)⟩
variable {tA tB' : DTT} {rest : List Expr}
noncomputable def dAnd (t u : DTT) : DTT := fun e M R => t e M fun c M1 => if c = true then u e M1 R else R false M1
noncomputable def dOr (t u : DTT) : DTT := fun e M R => t e M fun c M1 => if c = true then R true M1 else u e M1 R
noncomputable def dNot (t : DTT) : DTT := fun e M R => t e M fun c M1 => R (!c) M1
theorem jd_and1 (ha : JT X a tA) : JW X (.BoolOp .And [a] pos) tA := ⟨have ha := ha.out; pw_and1 ha⟩
theorem jd_or1 (ha : JT X a tA) : JW X (.BoolOp .Or [a] pos) tA := ⟨have ha := ha.out; pw_or1 ha⟩
theorem jd_and (ha : JT X a tA) (hb : JW X (.BoolOp .And (b :: rest) pos) tB') : JW X (.BoolOp .And (a :: b :: rest) pos) (dAnd tA tB') := ⟨have ha := ha.out; have hb := hb.out; (pw_and ha hb).imp (by rintro σ H Q ⟨e, M, R, ok, am, t, f⟩; exact ⟨e, M, _, ok, am, t, fun k M1 h1 H1 k1 a1 => by
    cases k with
    | true => exact ⟨e, M1, R, ok.mono k1, a1, h1, f.mono k1⟩
    | false => exact f false M1 h1 H1 k1 a1⟩)⟩
theorem jd_or (ha : JT X a tA) (hb : JW X (.BoolOp .Or (b :: rest) pos) tB') : JW X (.BoolOp .Or (a :: b :: rest) pos) (dOr tA tB') := ⟨have ha := ha.out; have hb := hb.out; (pw_or ha hb).imp (by rintro σ H Q ⟨e, M, R, ok, am, t, f⟩; exact ⟨e, M, _, ok, am, t, fun k M1 h1 H1 k1 a1 => by
    cases k with
    | true => exact f true M1 h1 H1 k1 a1
    | false => exact ⟨e, M1, R, ok.mono k1, a1, h1, f.mono k1⟩⟩)⟩
theorem jd_not (ha : JT X a tA) : JT X (.UnaryOp .Not a pos) (dNot tA) := ⟨have ha := ha.out; (pt_not ha).imp (by rintro σ H Q ⟨e, M, R, ok, am, t, f⟩; exact ⟨e, M, _, ok, am, t, fun k M1 h1 H1 k1 a1 => f (!k) M1 h1 H1 k1 a1⟩)⟩
theorem jd_tw {x : Expr} {t : DTT} (h : JW X x t) : JT X x t := ⟨have h := h.out; PW.pt h⟩
noncomputable def dAndV (ta tb : DTE) : DTE := fun e M R => ta e M fun x M1 => ∃ c, x = .bl c ∧ if c = true then tb e M1 R else R (.bl false) M1
noncomputable def dOrV (ta tb : DTE) : DTE := fun e M R => ta e M fun x M1 => ∃ c, x = .bl c ∧ if c = true then R (.bl true) M1 else tb e M1 R
noncomputable def dNotV (ta : DTE) : DTE := fun e M R => ta e M fun x M1 => ∃ c, x = .bl c ∧ R (.bl (!c)) M1
theorem jd_vone {op} {t : DTE} (h : JE X a t) : JE X (.BoolOp op [a] pos) t := ⟨have h := h.out; pe_one h⟩
theorem jd_vand (ha : JE X a ta) (hb : JE X (.BoolOp .And (b :: rest) pos) tb) : JE X (.BoolOp .And (a :: b :: rest) pos) (dAndV ta tb) := ⟨have ha := ha.out; have hb := hb.out; (pe_and ha hb).imp (by rintro σ H Q ⟨e, M, R, ok, am, t, f⟩; exact ⟨e, M, _, ok, am, t, fun x M1 ⟨k, z, h1⟩ v H1 k1 a1 r1 => by
    subst z; cases r1
    refine ⟨k, rfl, ?_⟩
    cases k with
    | true => exact ⟨e, M1, R, ok.mono k1, a1, h1, f.mono k1⟩
    | false => exact f _ M1 h1 _ H1 k1 a1 (.bl _)⟩)⟩
theorem jd_vor (ha : JE X a ta) (hb : JE X (.BoolOp .Or (b :: rest) pos) tb) : JE X (.BoolOp .Or (a :: b :: rest) pos) (dOrV ta tb) := ⟨have ha := ha.out; have hb := hb.out; (pe_or ha hb).imp (by rintro σ H Q ⟨e, M, R, ok, am, t, f⟩; exact ⟨e, M, _, ok, am, t, fun x M1 ⟨k, z, h1⟩ v H1 k1 a1 r1 => by
    subst z; cases r1
    refine ⟨k, rfl, ?_⟩
    cases k with
    | true => exact f _ M1 h1 _ H1 k1 a1 (.bl _)
    | false => exact ⟨e, M1, R, ok.mono k1, a1, h1, f.mono k1⟩⟩)⟩
theorem jd_vnot (ha : JE X a ta) : JE X (.UnaryOp .Not a pos) (dNotV ta) := ⟨have ha := ha.out; (pe_not ha).imp (by rintro σ H Q ⟨e, M, R, ok, am, t, f⟩; exact ⟨e, M, _, ok, am, t, fun x M1 ⟨k, z, h1⟩ v H1 k1 a1 r1 => by
    subst z; cases r1
    exact ⟨k, rfl, f _ M1 h1 _ H1 k1 a1 (.bl _)⟩⟩)⟩
noncomputable def dIf (t : DTT) (ta tb : DTE) : DTE := fun e M R => t e M fun c M1 => if c = true then ta e M1 R else tb e M1 R
theorem jd_ifExp (hc : JT X c tA) (ha : JE X a ta) (hb : JE X b tb) : JE X (.IfExp c a b pos) (dIf tA ta tb) := ⟨have hc := hc.out; have ha := ha.out; have hb := hb.out; (pe_ifExp hc ha hb).imp (by rintro σ H Q ⟨e, M, R, ok, am, t, f⟩; exact ⟨e, M, _, ok, am, t, fun k M1 h1 H1 k1 a1 => by
    cases k with
    | true => exact ⟨e, M1, R, ok.mono k1, a1, h1, f.mono k1⟩
    | false => exact ⟨e, M1, R, ok.mono k1, a1, h1, f.mono k1⟩⟩)⟩
noncomputable def dNil : DTA := fun _ M R => R [] M
noncomputable def dCons (ta : DTE) (tr : DTA) : DTA := fun e M R => ta e M fun x M1 => tr e M1 fun xs M2 => R (x :: xs) M2
variable {es : List Expr} {tr : DTA}
theorem jda_nil  : JA X [] dNil := ⟨pa_nil.imp (by rintro σ H Q ⟨e, M, R, ok, am, t, f⟩; exact f [] M t [] H (KT.refl H) am .nil)⟩
theorem jda_cons (ha : JE X a ta) (hr : JA X es tr) (hs : starEach (a :: es) X.env = (false, eval a X.env) :: starEach es X.env := by rfl) : JA X (a :: es) (dCons ta tr) := ⟨have ha := ha.out; have hr := hr.out; (pa_cons ha hr hs).imp (by rintro σ H Q ⟨e, M, R, ok, am, t, f⟩; exact ⟨e, M, _, ok, am, t, fun x M1 h1 v H1 k1 a1 r1 =>
    ⟨e, M1, _, ok.mono k1, a1, h1, fun xs M2 h2 vs H2 k2 a2 r2 => f _ M2 h2 _ H2 (k1.trans k2) a2 (.cons (r1.mono k2) r2)⟩⟩)⟩
noncomputable def dTup (t : DTA) : DTE := fun e M R => t e M fun ds M1 => ds.length ≤ sizeLine ∧ R (.tup ds) M1
noncomputable def dLst (t : DTA) : DTE := fun e M R => t e M fun ds M1 => ds.length ≤ sizeLine ∧ ∀ p, M1 p = none → R (.ref p) (updM M1 p (.lst ds))
theorem jd_tup {x1} (h : JA X es tr) : JE X (.Tuple es x1 pos) (dTup tr) := ⟨have h := h.out; (pe_tup h).imp (by rintro σ H Q ⟨e, M, R, ok, am, t, f⟩; exact ⟨e, M, _, ok, am, t, fun ds M1 ⟨hz, h1⟩ vs H1 k1 a1 r1 => by
    refine ⟨by rw [r1.length]; exact hz, fun p hp => ?_⟩
    have k2 : KT H1 (upd H1 p (.tup vs)) := KT.alloc hp
    exact f _ M1 h1 _ _ (k1.trans k2) (a1.alloc hp) (.tup (SqT.of upd_same) (r1.mono k2))⟩)⟩
theorem jd_lst (h : JA X es tr) : JE X (.List es pos) (dLst tr) := ⟨have h := h.out; (pe_lst h).imp (by rintro σ H Q ⟨e, M, R, ok, am, t, f⟩; exact ⟨e, M, _, ok, am, t, fun ds M1 ⟨hz, h1⟩ vs H1 k1 a1 r1 => by
    refine ⟨by rw [r1.length]; exact hz, fun p hp => ?_⟩
    have k2 : KT H1 (upd H1 p (.lst vs)) := KT.alloc hp
    exact f _ _ (h1 p (a1.fresh hp)) _ _ (k1.trans k2) (a1.new hp r1) (.ref p)⟩)⟩
theorem HasL.at {K : PySem.W.Frag} {H : Hp} {vs : List V} {ds : List D} (h : HasL K H vs ds) {i : Int} {z : D} (e : atI ds i = some z) : ∃ v, atI vs i = some v ∧ Has K H v z := by
  unfold atI at e ⊢
  rw [h.length]
  cases q : ixN ds.length i with
  | none => rw [q] at e; cases e
  | some j =>
    rw [q] at e
    exact h.get e
noncomputable def DIx (X : Cx) (g : DR2) : Prop := IxR X (upR X.K g)
theorem jd_ix {g : DR2} (hr : DIx X g) (ha : JE X a ta) (hb : JE X b tb) (hs : PlainIx b) : JE X (.Subscript a b pos) (dOp g ta tb) := ⟨have ha := ha.out; have hb := hb.out; (pe_ix hr ha hb hs).imp fun _ _ _ h => two_up h⟩
noncomputable abbrev DXK := Value → Mem → Prop
noncomputable abbrev DSp := List D → Mem → DK → DXK → Prop
noncomputable def FitX (K : PySem.W.Frag) (H : Hp) (Y : DXK) (E : XK) : Prop := ∀ c M', Y c M' → ∀ o H', KT H H' → AbsM K H' M' → E c o H'
noncomputable def upSp (K : PySem.W.Frag) (sp : DSp) : Sp := fun vs H Q E => ∃ ds M R Y, HasL K H vs ds ∧ AbsM K H M ∧ sp ds M R Y ∧ FitV K H R Q ∧ FitX K H Y E
noncomputable def dCall (sp : DSp) (dds : List D) (Y : DXK) (t : DTA) : DTE := fun e M R => t e M fun ds M1 => sp (ds ++ dds) M1 R Y
end
section
variable {X : Cx} {CX : CXT} {k : Nat} {f C : Addr} {fd : FuncData} {ps : List Str} {sp : DSp} {dvs : List V} {dds : List D} {ds : List Value} {E : XK} {Y : DXK} {x m : Str} {p pos apos : Pos} {e o : Expr} {es : List Expr} {t : DTA}
theorem d_call (F : FnOk X.prog X.w X.K X.mg X.base CX k f fd ps (upSp X.K sp)) (hr : Room k X.A) (hg : Gl X x) (hm : X.mg x = some (.ref f)) (hk : PySem.W.keepIn X.K (.ref f) = true) (hb : Binds X.K fd ps ds) (hd : Vals dvs ds) (hdd : ∀ H, HasL X.K H dvs dds) (hx : Passes CX X E) (hY : ∀ H, FitX X.K H Y E)
    (ha : DPA X (e :: es) t) (hdb : (x == ("__debug__" : Str)) = false := by decide) (he : starEach (e :: es) X.env = (false, eval e X.env) :: starEach es X.env := by rfl) (hpl : (backTo pos (starEach es X.env)).any (·.1) = false := by rfl) :
    DPE X (.Call (.Name x p) (e :: es) [] pos) (dCall sp dds Y t) :=
  (pe_call F hr hg hm hk hb hd hx ha hdb he hpl).imp (by rintro σ H Q ⟨e, M, R, ok, am, t, f⟩; exact ⟨e, M, _, ok, am, t, fun xs M1 h1 vs H1 k1 a1 r1 =>
    ⟨xs ++ dds, M1, R, Y, r1.append (hdd H1), a1, h1, f.mono k1, hY H1⟩⟩)
end


section
variable {X : Cx} {st : Stmt} {rest : List Stmt} {t u : DTS} {e : Expr} {te : DTE} {pos : Pos}
noncomputable def dNext : DTS := fun F e M => F.nx e M
noncomputable def dSeq (t u : DTS) : DTS := fun F e M => t { F with nx := u F } e M
theorem jds_nil  : JSs X [] dNext := ⟨pss_nil.imp (by rintro E σ H ⟨e, M, F, ok, am, t, f⟩; exact f.nx e M t σ H (KT.refl H) am ok)⟩
theorem jds_cons (h1 : JS X st t) (h2 : JSs X rest u) : JSs X (st :: rest) (dSeq t u) := ⟨have h1 := h1.out; have h2 := h2.out; (pss_cons h1 h2).imp (by rintro E σ H ⟨e, M, F, ok, am, t, f⟩; exact ⟨e, M, { F with nx := u F }, ok, am, t, ⟨fun e' M' h σ' H' k a o => ⟨e', M', F, o, a, h, f.mono k⟩, f.rt, f.bk, f.ct⟩⟩)⟩
theorem jds_one (h1 : JS X st t) : JSs X [st] t := ⟨have h1 := h1.out; pss_one h1⟩
noncomputable def dDrop (te : DTE) : DTS := fun F e M => te e M fun _ M1 => F.nx e M1
theorem jds_expr (he : JE X e te) (hs : swapsWith e none pos.line X.env = pure false := by rfl) : JS X (.Expr e pos) (dDrop te) := ⟨have he := he.out; (ps_expr he hs).imp (by rintro E σ H ⟨e, M, F, ok, am, t, f⟩; exact ⟨e, M, _, ok, am, t, fun d M1 h1 v H1 k1 a1 r1 => f.nx e M1 h1 σ H1 k1 a1 (ok.mono k1)⟩)⟩
noncomputable def dRet (te : DTE) : DTS := fun F e M => te e M F.rt
theorem jds_ret (he : JE X e te) : JS X (.Return (some e) pos) (dRet te) := ⟨have he := he.out; (ps_ret he).imp (by rintro E σ H ⟨e, M, F, ok, am, t, f⟩; exact ⟨e, M, _, ok, am, t, f.rt⟩)⟩
noncomputable def dIfS (c : DTT) (t u : DTS) : DTS := fun F e M => c e M fun b M1 => if b = true then t F e M1 else u F e M1
theorem jds_if {c : Expr} {a b : List Stmt} {tc : DTT} (hc : JT X c tc) (ha : JSs X a t) (hb : JSs X b u) : JS X (.If c a b pos) (dIfS tc t u) := ⟨have hc := hc.out; have ha := ha.out; have hb := hb.out; (ps_if hc ha hb).imp (by rintro E σ H ⟨e, M, F, ok, am, t, f⟩; exact ⟨e, M, _, ok, am, t, fun k M1 h1 H1 k1 a1 => by
    cases k with
    | true => exact ⟨e, M1, F, ok.mono k1, a1, h1, f.mono k1⟩
    | false => exact ⟨e, M1, F, ok.mono k1, a1, h1, f.mono k1⟩⟩)⟩
noncomputable def dNever : DTS := fun _ _ _ => False
theorem jds_never  : JS X st dNever := ⟨ps_never.imp (by rintro E σ H ⟨_, _, _, _, _, t, _⟩; exact t)⟩
theorem jdss_never {sts : List Stmt} : JSs X sts dNever := ⟨pss_never.imp (by rintro E σ H ⟨_, _, _, _, _, t, _⟩; exact t)⟩
noncomputable abbrev DTG := D → Ev → Mem → (Ev → Mem → Prop) → Prop
noncomputable abbrev DTGs := List D → Ev → Mem → (Ev → Mem → Prop) → Prop
noncomputable def upG (K : PySem.W.Frag) (g : DTG) : TG := fun v σ H Q => ∃ d e M R, Has K H v d ∧ EnvOk K H σ e ∧ AbsM K H M ∧ g d e M R ∧ FitN K H R Q
noncomputable def upGs (K : PySem.W.Frag) (g : DTGs) : TGs := fun vs σ H Q => ∃ ds e M R, HasL K H vs ds ∧ EnvOk K H σ e ∧ AbsM K H M ∧ g ds e M R ∧ FitN K H R Q
noncomputable abbrev DPG (X : Cx) (x : Expr) (g : DTG) : Prop := PG X x (upG X.K g)
noncomputable abbrev DPGs (X : Cx) (x : List Expr) (g : DTGs) : Prop := PGs X x (upGs X.K g)
structure JG (X : Cx) (x : Expr) (g : DTG) : Prop where
  out : DPG X x g
structure JGs (X : Cx) (x : List Expr) (g : DTGs) : Prop where
  out : DPGs X x g
noncomputable def dgName (i : Nat) : DTG := fun d e M R => R (e.set i (some d)) M
theorem jdg_name {i : Nat} {x : Str} (hN : X.N.Nodup) (hi : X.N[i]? = some x) (hx : Loc X.env.scope x) (hf : X.fn x = true ∨ X.env.scope.names.lookup x = some .local := by first | exact .inl rfl | exact .inr rfl | assumption) : JG X (.Name x pos) (dgName i) := ⟨PG.imp (pg_name hN hi hx hf) (by rintro v σ H Q ⟨d, e, M, R, r, ok, am, g, f⟩; exact f _ M g _ H (KT.refl H) am (ok.set r i))⟩
noncomputable def dgNil : DTGs := fun ds e M R => ds = [] ∧ R e M
noncomputable def dgCons (t : DTG) (u : DTGs) : DTGs := fun ds e M R => ∃ d r, ds = d :: r ∧ t d e M fun e' M' => u r e' M' R
theorem jdgs_nil  : JGs X [] dgNil := ⟨PGs.imp pgs_nil (by
  rintro v σ H Q ⟨ds, e, M, R, r, ok, am, ⟨z, g⟩, f⟩
  subst z; cases r; exact ⟨rfl, f e M g σ H (KT.refl H) am ok⟩)⟩
end
end DL

namespace DL
open PySem PySem.Spec L2
open PyProof.Rows hiding St
section
variable {X : Cx} {st : Stmt} {rest : List Stmt} {t u : DTS} {e : Expr} {te : DTE} {pos : Pos}
theorem jdgs_cons {x : Expr} {xs : List Expr} {t : DTG} {u : DTGs} (h1 : JG X x t) (h2 : JGs X xs u)
    (hs : (assignEach (x :: xs) X.env).map (·.2) = assign x X.env :: (assignEach xs X.env).map (·.2) := by rfl) : JGs X (x :: xs) (dgCons t u) := ⟨have h1 := h1.out; have h2 := h2.out; PGs.imp (pgs_cons h1 h2 hs) (by
    rintro vs σ H Q ⟨ds, e, M, R, r, ok, am, ⟨d, dr, z, g⟩, f⟩
    subst z
    cases r with
    | cons r rr => exact ⟨_, _, rfl, d, e, M, _, r, ok, am, g, fun e1 M1 h1 σ1 H1 k1 a1 ok1 => ⟨dr, e1, M1, R, rr.mono k1, ok1, a1, h1, f.mono k1⟩⟩)⟩
noncomputable def dgTup (n : Nat) (t : DTGs) : DTG := fun d e M R => ∃ ds, d = .tup ds ∧ ds.length = n ∧ t ds e M R
theorem jdg_tup {xs : List Expr} {k : Nat} {t : DTGs} {n : Nat} (hc : X.calm = true) (h : JGs X xs t)
    (hn : (assignEach xs X.env).length = n := by rfl) (hst : (assignEach xs X.env).findIdx? (·.1) = none := by rfl) : JG X (.Tuple xs k pos) (dgTup n t) := ⟨have h := h.out; PG.imp (pg_tup hc h hn hst) (by
    rintro v σ H Q ⟨d, e, M, R, r, ok, am, ⟨ds, z, hl, g⟩, f⟩
    subst z
    cases r with
    | tup s l => exact ⟨_, _, rfl, s, by rw [l.length]; exact hl, ds, e, M, R, l, ok, am, g, f⟩)⟩
noncomputable abbrev DTSet := D → D → D → Mem → (Mem → Prop) → Prop
noncomputable def gSetL : DTSet := fun o i v M R => ∃ p ds k j, o = .ref p ∧ i = .int k ∧ M p = some (.lst ds) ∧ ixN ds.length k = some j ∧ R (updM M p (.lst (ds.set j v)))
noncomputable def dgSub (to ti : DTE) (t : DTSet) : DTG := fun d e M R => to e M fun o M1 => ti e M1 fun i M2 => t o i d M2 fun M3 => R e M3
theorem jdg_sub {o i : Expr} {to ti : DTE} (ho : JE X o to) (hi : JE X i ti)
    (ha : ∀ v, assign (.Subscript o i pos) X.env v = (do
      let ov ← holding [v] (eval o X.env)
      let iv ← holding [v, ov] (eval i X.env)
      standAt pos
      holding [v, ov, iv] (setItem ov iv v)
      release [v, ov, iv] []) := by intro _; rfl) : JG X (.Subscript o i pos) (dgSub to ti gSetL) := ⟨have ho := ho.out; have hi := hi.out; PG.imp (pg_sub ho hi set_list ha) fun v σ H Q ⟨d, e, M, R, r, ok, am, g, f⟩ =>
    ⟨e, M, _, ok, am, g, fun x M1 h1 vo H1 k1 a1 r1 => ⟨e, M1, _, ok.mono k1, a1, h1, fun y M2 ⟨p, ds, k, j, e1, e2, e3, e4, h2⟩ vi H2 k2 a2 r2 => by
      subst e1; subst e2
      cases r1; cases r2
      obtain ⟨xs, hx, l⟩ := a2.lst e3
      have kt : KT H H2 := k1.trans k2
      have kw : KT H2 (upd H2 p (.lst (xs.set j v))) := KT.write hx
      exact ⟨p, xs, k, j, rfl, rfl, hx, by rw [l.length]; exact e4, f e _ h2 σ _ (kt.trans kw) (a2.write hx (l.set (r.mono kt) j)) ((ok.mono kt).mono kw)⟩⟩⟩⟩
noncomputable def dAsg (te : DTE) (g : DTG) : DTS := fun F e M => te e M fun x M1 => g x e M1 F.nx
theorem jds_asg {tg x : Expr} {tx : DTE} {g : DTG} (he : JE X x tx) (hg : JG X tg g) (hs : swapsWithSole [tg] x pos.line X.env = pure false := by rfl) (hw : swappedStores [tg] x X.env = pure none := by rfl)
    (h1 : (assignEach [tg] X.env).map (·.2) = [assign tg X.env] := by rfl) : JS X (.Assign [tg] x pos) (dAsg tx g) := ⟨have he := he.out; have hg := hg.out; (ps_asg he hg hs hw h1).imp (by rintro E σ H ⟨e, M, F, ok, am, t, f⟩; exact ⟨e, M, _, ok, am, t, fun d M1 h1 v H1 k1 a1 r1 => ⟨d, e, M1, F.nx, r1, ok.mono k1, a1, h1, f.nx.mono k1⟩⟩)⟩
theorem jds_set {i : Nat} {x : Str} {tx : DTE} {pos' : Pos} (hN : X.N.Nodup) (hi : X.N[i]? = some x) (hx : Loc X.env.scope x) (he : JE X e tx) (hs : swapsWith e (some (.Name x pos')) pos.line X.env = pure false := by rfl) (hf : X.fn x = true ∨ X.env.scope.names.lookup x = some .local := by first | exact .inl rfl | exact .inr rfl | assumption) : JS X (.Assign [.Name x pos'] e pos) (dAsg tx (dgName i)) := ⟨have he := he.out; (ps_set hN hi hx he hs hf).imp (by rintro E σ H ⟨e, M, F, ok, am, t, f⟩; exact ⟨e, M, _, ok, am, t, fun d M1 h1 v H1 k1 a1 r1 => f.nx _ M1 h1 _ H1 k1 a1 ((ok.mono k1).set r1 i)⟩)⟩
noncomputable def dPar (i j : Nat) (ta : DTA) : DTS := fun F e M => ta e M fun ds M1 => ∃ x y, ds = [x, y] ∧ F.nx ((e.set i (some x)).set j (some y)) M1
theorem jds_par {i j : Nat} {x y : Str} {a b : Expr} {ta : DTA} {px py pt : Pos} {kt k2 pt2} (hc : X.calm = true) (hN : X.N.Nodup) (hi : X.N[i]? = some x) (hj : X.N[j]? = some y) (hij : i ≠ j)
    (hx : X.env.scope.names.lookup x = some .local) (hy : X.env.scope.names.lookup y = some .local) (ha : JA X [a, b] ta)
    (hw : swappedStores [.Tuple [.Name x px, .Name y py] kt pt] (.Tuple [a, b] k2 pt2) X.env = pure (some [x, y]) := by rfl)
    (hs : swapsWithSole [.Tuple [.Name x px, .Name y py] kt pt] (.Tuple [a, b] k2 pt2) pos.line X.env = pure false := by rfl) : JS X (.Assign [.Tuple [.Name x px, .Name y py] kt pt] (.Tuple [a, b] k2 pt2) pos) (dPar i j ta) := ⟨have ha := ha.out; (ps_par hc hN hi hj hij hx hy ha hw hs).imp (by rintro E σ H ⟨e, M, F, ok, am, t, f⟩; exact ⟨e, M, _, ok, am, t, fun ds M1 ⟨x, y, z, h1⟩ vs H1 k1 a1 r1 => by
    subst z
    cases r1 with
    | cons r1 rr =>
      cases rr with
      | cons r2 rr =>
        cases rr
        exact ⟨_, _, rfl, f.nx _ M1 h1 _ H1 k1 a1 (((ok.mono k1).set r1 i).set r2 j)⟩⟩)⟩
noncomputable def dWhile (c : DTT) (tb : DTS) : DTS := fun F e M => ∃ W : Nat → Ev → Mem → Prop, (∃ m, W m e M) ∧ ∀ m e M, W m e M →
  c e M fun b M1 => if b = true then tb { F with nx := fun e' M' => ∃ m', m' < m ∧ W m' e' M', ct := fun e' M' => ∃ m', m' < m ∧ W m' e' M', bk := F.nx } e M1 else F.nx e M1
theorem jds_while {c : Expr} {body : List Stmt} {tc : DTT} {tb : DTS} (hp : PassesOwn (model X.prog X.w) X.A X.env X.xe) (hc : JT X c tc) (hb : JSs X body tb) : JS X (.While c body [] pos) (dWhile tc tb) := ⟨have hc := hc.out; have hb := hb.out; (ps_while hp hc hb).imp (by
    rintro E σ H ⟨e, M, F, ok, am, ⟨W, ⟨m0, w0⟩, turn⟩, f⟩
    refine ⟨fun m σ' H' => ∃ e' M', KT H H' ∧ EnvOk X.K H' σ' e' ∧ AbsM X.K H' M' ∧ W m e' M', ⟨m0, e, M, KT.refl H, ok, am, w0⟩, ?_⟩
    rintro m σ1 H1 ⟨e1, M1, k1, ok1, a1, w1⟩
    refine ⟨e1, M1, _, ok1, a1, turn m e1 M1 w1, fun b M2 h2 H2 k2 a2 => ?_⟩
    cases b with
    | false => exact f.nx e1 M2 h2 σ1 H2 (k1.trans k2) a2 (ok1.mono k2)
    | true =>
      refine ⟨fun σ' H' => ∃ m', m' < m ∧ ∃ e' M', KT H H' ∧ EnvOk X.K H' σ' e' ∧ AbsM X.K H' M' ∧ W m' e' M', fun σ' H' h => h, e1, M2, _, ok1.mono k2, a2, h2, ?_⟩
      have kk := k1.trans k2
      exact ⟨fun e' M' ⟨m', l, w⟩ σ' H' k' a' o' => ⟨m', l, e', M', kk.trans k', o', a', w⟩, f.rt.mono kk, f.nx.mono kk, fun e' M' ⟨m', l, w⟩ σ' H' k' a' o' => ⟨m', l, e', M', kk.trans k', o', a', w⟩⟩)⟩
noncomputable abbrev DTI := Ev → Mem → (List D → (Mem → Prop) → Mem → Prop) → Prop
noncomputable def dFor (ti : DTI) (g : DTG) (tb : DTS) : DTS := fun F e M => ti e M fun ds stay M1 => ∃ W : Nat → Ev → Mem → Prop, W 0 e M1 ∧ (∀ i e M, i ≤ ds.length → W i e M → stay M) ∧
  (∀ (i : Nat) (d : D) e M, ds[i]? = some d → W i e M → g d e M fun e2 M2 => tb { F with nx := W (i + 1), ct := W (i + 1), bk := F.nx } e2 M2) ∧ ∀ e M, W ds.length e M → F.nx e M
noncomputable def rangeD (lo : Int) (n : Nat) : List D := (List.range n).map fun (i : Nat) => D.int (lo + (i : Int))
theorem rangeD_length (lo : Int) (n : Nat) : (rangeD lo n).length = n := by simp [rangeD]
theorem rangeD_get {lo : Int} {n i : Nat} (h : i < n) : (rangeD lo n)[i]? = some (D.int (lo + (i : Int))) := by simp [rangeD, h]
noncomputable def diRng (ta : DTA) : DTI := fun e M R => ta e M fun ds M1 => ∃ j : Int, ds = [.int j] ∧ -(2 ^ 62) ≤ j ∧ j < 2 ^ 62 ∧ R (rangeD 0 j.toNat) (fun _ => True) M1
theorem for_turn {K : PySem.W.Frag} {H H1 H2 : Hp} {F : DEnds} {E : Ends} {W : Nat → Ev → Mem → Prop} {g : DTG} {tb : DTS} {i : Nat} {x : V} {d : D} {σ2 : St} {e2 : Ev} {M2 : Mem} (f : Fit K H F E) (k1 : KT H H1) (k2 : KT H1 H2) (ok2 : EnvOk K H2 σ2 e2) (a2 : AbsM K H2 M2) (r : Has K H2 x d)
    (h : g d e2 M2 fun e3 M3 => tb { F with nx := W (i + 1), ct := W (i + 1), bk := F.nx } e3 M3) :
    upG K g x σ2 H2 fun σ3 H3 => upS K tb { E with nx := fun σ' H' => ∃ e' M', KT H1 H' ∧ EnvOk K H' σ' e' ∧ AbsM K H' M' ∧ W (i + 1) e' M', ct := fun σ' H' => ∃ e' M', KT H1 H' ∧ EnvOk K H' σ' e' ∧ AbsM K H' M' ∧ W (i + 1) e' M', bk := E.nx } σ3 H3 := by
  refine ⟨d, e2, M2, _, r, ok2, a2, h, fun e3 M3 h3 σ3 H3 k3 a3 ok3 => ⟨e3, M3, _, ok3, a3, h3, ?_⟩⟩
  have kk : KT H H3 := k1.trans (k2.trans k3)
  exact ⟨fun e' M' w σ' H' k' a' o' => ⟨e', M', k2.trans (k3.trans k'), o', a', w⟩, f.rt.mono kk, f.nx.mono kk, fun e' M' w σ' H' k' a' o' => ⟨e', M', k2.trans (k3.trans k'), o', a', w⟩⟩
variable {tg iter : Expr} {body : List Stmt} {ti : DTE} {ta : DTA} {g : DTG} {tb : DTS}
theorem Has.il {K : PySem.W.Frag} {H : Hp} {v : V} {ds : List D} (h : Has K H v (.vl ds)) : ∃ a xs, v = .ref a ∧ SqL K H a xs ∧ HasL K H xs ds := by
  cases h with
  | vl h l => exact ⟨_, _, rfl, h.elim (fun ⟨o, e⟩ => .inl (.inr ⟨o, e⟩)) (fun k => k H), l⟩
end


section
variable {P : Program} {w : World} {K : PySem.W.Frag} {mg : Str → Option Value} {base : Heap}
end


section
variable {X : Cx} {x : Str} {p pos : Pos} {e : Expr} {es : List Expr} {t : DTA} {id T : String}
noncomputable abbrev DRC := List D → Mem → DK → Prop
noncomputable def upC (K : PySem.W.Frag) (g : DRC) : List V → Hp → VK → Prop := fun xs H Q => ∃ ds M R, HasL K H xs ds ∧ AbsM K H M ∧ g ds M R ∧ FitV K H R Q
noncomputable def DCall (X : Cx) (f : Value) (g : DRC) : Prop := CallR X f (upC X.K g)
noncomputable def dCB (g : DRC) (t : DTA) : DTE := fun e M R => t e M fun ds M1 => g ds M1 R
theorem cb_up {g : DRC} {σ : St} {H : Hp} {Q : VK} (h : up X.K (dCB g t) σ H Q) : tCB (upC X.K g) (upA X.K t) σ H Q := by
  obtain ⟨e, M, R, ok, am, t, f⟩ := h
  exact ⟨e, M, _, ok, am, t, fun ds M1 h1 vs H1 k1 a1 r1 => ⟨ds, M1, R, r1, a1, h1, f.mono k1⟩⟩
theorem CallR.imp {f : Value} {r r' : List V → Hp → VK → Prop} (h : CallR X f r) (i : ∀ xs H Q, r' xs H Q → r xs H Q) : CallR X f r' := fun pins s σ H xs us Q I rv q => h pins s σ H xs us Q I rv (i xs H Q q)
theorem HasL.one {K : PySem.W.Frag} {H : Hp} {vs : List V} {d : D} (h : HasL K H vs [d]) : ∃ v, vs = [v] ∧ Has K H v d := by
  cases h with
  | cons r rr => cases rr; exact ⟨_, rfl, r⟩
theorem HasL.two {K : PySem.W.Frag} {H : Hp} {vs : List V} {d d' : D} (h : HasL K H vs [d, d']) : ∃ v v', vs = [v, v'] ∧ Has K H v d ∧ Has K H v' d' := by
  cases h with
  | cons r rr => cases rr with | cons r2 rr => cases rr; exact ⟨_, _, rfl, r, r2⟩
noncomputable def gAbs : DRC := fun ds M R => ∃ i : Int, ds = [.int i] ∧ R (.int (i.natAbs : Int)) M
theorem c_abs : DCall X (.builtin "abs") gAbs := CallR.imp call_abs (by
  rintro xs H Q ⟨ds, M, R, hl, am, ⟨i, z, r⟩, f⟩
  subst z
  obtain ⟨v, rfl, h⟩ := hl.one
  cases h
  have e : (if i < 0 then -i else i) = (i.natAbs : Int) := by split <;> omega
  exact ⟨i, rfl, by rw [e]; exact f _ M r _ H (KT.refl H) am (.int _)⟩)
noncomputable def gMax : DRC := fun ds M R => ∃ i j : Int, ds = [.int i, .int j] ∧ R (.int (max i j)) M
theorem c_max (hc : X.calm = true) : DCall X (.builtin "max") gMax := CallR.imp (call_max2 hc) (by
  rintro xs H Q ⟨ds, M, R, hl, am, ⟨i, j, z, r⟩, f⟩
  subst z
  obtain ⟨v, v', rfl, h, h'⟩ := hl.two
  cases h; cases h'
  have e : (if j > i then j else i) = max i j := by
    rw [Int.max_def]; split <;> split <;> omega
  exact ⟨i, j, rfl, by rw [e]; exact f _ M r _ H (KT.refl H) am (.int _)⟩)
noncomputable def lenD (M : Mem) : D → Option Nat
  | .tup ds => some ds.length
  | .ref p => match M p with
    | some (.lst ds) => some ds.length
    | _ => none
  | .vl ds => some ds.length
  | _ => none
noncomputable def gLen : DRC := fun ds M R => ∃ d n, ds = [d] ∧ lenD M d = some n ∧ R (.int (n : Int)) M
theorem c_len : DCall X (.builtin "len") gLen := CallR.imp call_len_seq (by
  rintro xs H Q ⟨ds, M, R, hl, am, ⟨d, n, z, hn, r⟩, f⟩
  subst z
  obtain ⟨v, rfl, h⟩ := hl.one
  cases d with
  | tup es =>
    cases h with
    | tup s l =>
      cases hn
      exact ⟨_, _, rfl, .inr s, by rw [l.length]; exact f _ M r _ H (KT.refl H) am (.int _)⟩
  | ref p =>
    cases h
    unfold lenD at hn
    cases q : M p with
    | none => simp [q] at hn
    | some o =>
      cases o with
      | lst es =>
        simp only [q] at hn
        cases hn
        obtain ⟨ys, hy, l⟩ := am.lst q
        exact ⟨p, ys, rfl, .inl (SqL.of hy), by rw [l.length]; exact f _ M r _ H (KT.refl H) am (.int _)⟩
  | vl es =>
    cases hn
    obtain ⟨a, xs, rfl, sq, l⟩ := h.il
    exact ⟨a, _, rfl, .inl sq, by rw [l.length]; exact f _ M r _ H (KT.refl H) am (.int _)⟩
  | _ => cases hn)
noncomputable def gIntOf : DRC := fun ds M R => (∃ i : Int, ds = [.int i] ∧ R (.int i) M) ∨ ∃ k : Bool, ds = [.bl k] ∧ R (.int (if k then 1 else 0)) M
theorem c_int : DCall X (.type "int") gIntOf := CallR.imp call_int1 (by
  rintro xs H Q ⟨ds, M, R, hl, am, z, f⟩
  rcases z with ⟨i, z, r⟩ | ⟨k, z, r⟩
  · subst z
    obtain ⟨v, rfl, h⟩ := hl.one
    cases h
    exact .inl ⟨i, rfl, f _ M r _ H (KT.refl H) am (.int _)⟩
  · subst z
    obtain ⟨v, rfl, h⟩ := hl.one
    cases h
    exact .inr ⟨k, rfl, f _ M r _ H (KT.refl H) am (.int _)⟩)
end
end DL

namespace DL
open PySem PySem.Spec L2
open PyProof.Rows hiding St
theorem bt_abs : bootBuiltins "abs" = some (.builtin "abs") := by decide +kernel
theorem bt_max : bootBuiltins "max" = some (.builtin "max") := by decide +kernel
theorem bt_len : bootBuiltins "len" = some (.builtin "len") := by decide +kernel
theorem bt_isinstance : bootBuiltins "isinstance" = some (.builtin "isinstance") := by decide +kernel
theorem bt_int : bootBuiltins "int" = some (.type "int") := by decide +kernel
theorem bt_bool : bootBuiltins "bool" = some (.type "bool") := by decide +kernel
theorem bt_tuple : bootBuiltins "tuple" = some (.type "tuple") := by decide +kernel
theorem bt_list : bootBuiltins "list" = some (.type "list") := by decide +kernel
theorem bt_reversed : bootBuiltins "reversed" = some (.type "reversed") := by decide +kernel
theorem bt_str : bootBuiltins "str" = some (.type "str") := by decide +kernel
section
variable {X : Cx} {a b c : Expr} {ta tb tc : DTE} {pos : Pos}

theorem op_mulB : OpR X (binaryOp .Mult) (rI IntMulOk fun i j => .int (i * j)) := opI fun _ _ _ _ _ _ _ hc q => mul_int q hc
noncomputable def CFd (i j : Int) : Prop := j ≠ 0 ∧ j.natAbs.log2 < 9000
theorem op_fdiv9 : OpR X (binaryOp .FloorDiv) (rI CFd fun i j => .int (i.fdiv j)) := opI fun _ _ _ _ _ _ _ hc q => floordiv_int hc.1 q (.inl (PyProof.noPylong_of_log2 hc.2))
theorem o_mul : DOp X (binaryOp .Mult) (gI IntMulOk fun i j => .int (i * j)) := dop_I op_mulB fun _ _ _ => .int _
theorem o_fdiv : DOp X (binaryOp .FloorDiv) (gI CFd fun i j => .int (i.fdiv j)) := dop_I op_fdiv9 fun _ _ _ => .int _

noncomputable def ixD (M : Mem) : D → D → Option D
  | .tup ds, .int i => atI ds i
  | .ref p, .int i => match M p with
    | some (.lst ds) => atI ds i
    | _ => none
  | .vl ds, .int i => atI ds i
  | _, _ => none
noncomputable def gIx : DR2 := fun x y M R => ∃ z, ixD M x y = some z ∧ R z M
theorem IxR.or' {r r' : R2} (h : IxR X r) (h' : IxR X r') {g : R2} (i : ∀ x y H Q, g x y H Q → r x y H Q ∨ r' x y H Q) : IxR X g := IxR.imp (IxR.or h h') i
theorem i_any : DIx X gIx := IxR.or' ix_tup ix_list (by
  rintro x y H Q ⟨dx, dy, M, R, hx, hy, am, ⟨z, e, r⟩, f⟩
  cases dy with
  | int i =>
    cases hy
    cases dx with
    | tup ds =>
      cases hx with
      | tup s l =>
        obtain ⟨v, h1, h2⟩ := l.at (show atI ds i = some z from e)
        exact .inl ⟨_, _, i, v, rfl, rfl, s, h1, f z M r v H (KT.refl H) am h2⟩
    | ref p =>
      cases hx
      unfold ixD at e
      cases q : M p with
      | none => simp [q] at e
      | some o =>
        cases o with
        | lst ds =>
          simp only [q] at e
          obtain ⟨xs, h1, h2⟩ := am.lst q
          obtain ⟨v, h3, h4⟩ := h2.at e
          exact .inr ⟨_, _, i, v, rfl, rfl, SqL.of h1, h3, f z M r v H (KT.refl H) am h4⟩
    | vl ds =>
      obtain ⟨a, xs, rfl, sq, l⟩ := hx.il
      obtain ⟨v, h1, h2⟩ := l.at (show atI ds i = some z from e)
      exact .inr ⟨_, _, i, v, rfl, rfl, sq, h1, f z M r v H (KT.refl H) am h2⟩
    | _ => simp [ixD] at e
  | _ => cases dx <;> simp [ixD] at e)
theorem ixD_lst {M : Mem} {p : Addr} {ds : List D} {i : Int} {z : D} (m : M p = some (.lst ds)) (h : atI ds i = some z) : ixD M (.ref p) (.int i) = some z := by
  unfold ixD; simp only [m]; exact h

noncomputable def isD : D → D → Option Bool
  | .bl a, .bl b => some (a == b)
  | .non, .non => some true
  | .bl _, .non => some false
  | .int _, .non => some false
  | .str _, .non => some false
  | .ref _, .non => some false
  | .tup _, .non => some false
  | .vl _, .non => some false
  | .exc _, .non => some false
  | _, _ => none
theorem isD_shape {x y : D} {b : Bool} (h : isD x y = some b) : (∃ p q, x = .bl p ∧ y = .bl q ∧ b = (p == q)) ∨ (y = .non ∧ ((x = .non ∧ b = true) ∨ (x ≠ .non ∧ b = false))) := by
  cases x <;> cases y <;> simp [isD] at h <;> simp [h]
theorem isD_val {K : PySem.W.Frag} {H : Hp} {v : V} {x : D} (h : Has K H v x) (n : x ≠ .non) : v ≠ .non := by
  intro e; subst e; cases h; exact n rfl
noncomputable def gIs (neg : Bool) : DR2 := fun x y M R => ∃ b, isD x y = some b ∧ R (.bl (neg.xor b)) M
theorem o_is : DOp X (compareOp .Is) (gIs false) := by
  intro pins s σ H x y v u Q I rx ry h
  obtain ⟨dx, dy, M, R, hx, hy, am, ⟨b, e, r⟩, f⟩ := h
  have fin : EP X pins σ Q (.bool b) s := ⟨.bl b, H, I, rfl, by have := f _ M r (.bl b) H (KT.refl H) am (by simpa using Has.bl (K := X.K) (H := H) b); exact this⟩
  rcases isD_shape e with ⟨p, q, rfl, rfl, rfl⟩ | ⟨rfl, hx'⟩
  · cases hx; cases hy; cases rx; cases ry
    exact is_bool fin
  · cases hy; cases ry
    refine is_none_gen ?_
    rw [RelV.none_iff rx]
    rcases hx' with ⟨rfl, rfl⟩ | ⟨n, rfl⟩
    · cases hx; exact fin
    · rw [decide_eq_false (isD_val hx n)]; exact fin
mutual
inductive PyR (M : Mem) : D → PyData → Prop
  | non : PyR M .non .none
  | bl (b : Bool) : PyR M (.bl b) (.bool b)
  | int (i : Int) : PyR M (.int i) (.int i)
  | str (x : Str) : PyR M (.str x) (.str x)
  | tup {ds : List D} {ps : List PyData} : PyRL M ds ps → PyR M (.tup ds) (.tuple ps)
  | lst {p : Addr} {ds : List D} {ps : List PyData} : M p = some (.lst ds) → PyRL M ds ps → PyR M (.ref p) (.list ps)
  | vl {ds : List D} {ps : List PyData} : PyRL M ds ps → PyR M (.vl ds) (.list ps)
inductive PyRL (M : Mem) : List D → List PyData → Prop
  | nil : PyRL M [] []
  | cons {d : D} {p : PyData} {ds : List D} {ps : List PyData} : PyR M d p → PyRL M ds ps → PyRL M (d :: ds) (p :: ps)
end
mutual
theorem reads_of {pins : List (Addr × Obj)} {s : Shared} {σ : St} {H : Hp} {M : Mem} (I : Inv X pins σ H s) (am : AbsM X.K H M) : ∀ {d : D} {p : PyData}, PyR M d p → ∀ {v : V} {u : Value}, Has X.K H v d → RelV v u → ∃ as, Reads s.heap u p as
  | _, _, .non, _, _, h, r => by cases h; cases r; exact ⟨_, .none⟩
  | _, _, .bl b, _, _, h, r => by cases h; cases r; exact ⟨_, .bool b⟩
  | _, _, .int i, _, _, h, r => by cases h; obtain ⟨t, rfl⟩ := r; exact ⟨_, .int i t⟩
  | _, _, .str x, _, _, h, r => by cases h; obtain ⟨t, rfl⟩ := r; exact ⟨_, .str x t⟩
  | _, _, .tup l, _, _, h, r => by
    cases h with
    | tup s' hl =>
      cases r
      obtain ⟨its, rv, ⟨o, e, hc, n, hd⟩, _⟩ := I.tuple s'
      obtain ⟨as, ra⟩ := readsL_of I am l hl rv
      exact ⟨as, .tuple e hc hd (by simpa using ra)⟩
  | _, _, .lst m l, _, _, h, r => by
    cases h
    cases r
    obtain ⟨xs, hx, hl⟩ := am.lst m
    obtain ⟨its, rv, ⟨o, n, e, hc, _, hd⟩, _⟩ := I.list (SqL.of hx)
    obtain ⟨as, ra⟩ := readsL_of I am l hl rv
    exact ⟨_, .list e hc hd (by simpa using ra)⟩
  | _, _, .vl l, _, _, h, r => by
    obtain ⟨a, xs, rfl, sq, hl⟩ := h.il
    cases r
    obtain ⟨its, rv, ⟨o, n, e, hc, _, hd⟩, _⟩ := I.list sq
    obtain ⟨as, ra⟩ := readsL_of I am l hl rv
    exact ⟨_, .list e hc hd (by simpa using ra)⟩
theorem readsL_of {pins : List (Addr × Obj)} {s : Shared} {σ : St} {H : Hp} {M : Mem} (I : Inv X pins σ H s) (am : AbsM X.K H M) : ∀ {ds : List D} {ps : List PyData}, PyRL M ds ps → ∀ {vs : List V} {us : List Value}, HasL X.K H vs ds → Vals vs us → ∃ as, ReadsAll s.heap us ps as
  | _, _, .nil, _, _, h, r => by cases h; cases r; exact ⟨_, .nil⟩
  | _, _, .cons a l, _, _, h, r => by
    cases h with
    | cons h hl =>
      cases r with
      | cons r rl =>
        obtain ⟨as, q⟩ := reads_of I am a h r
        obtain ⟨bs, q2⟩ := readsL_of I am l hl rl
        exact ⟨_, .cons q q2⟩
end
noncomputable def gEq (neg : Bool) : DR2 := fun x y M R => ∃ px py, PyR M x px ∧ PyR M y py ∧ SeqAt.shaped px = true ∧ SeqAt.shaped py = true ∧ R (.bl (neg.xor (PyData.eqv px py))) M
theorem o_eq (hu : X.A.units + 64 < cLine) : DOp X (compareOp .Eq) (gEq false) := by
  intro pins s σ H x y v u Q I rx ry h
  obtain ⟨dx, dy, M, R, hx, hy, am, ⟨px, py, p1, p2, s1, s2, r⟩, f⟩ := h
  obtain ⟨as, r1⟩ := reads_of I am p1 hx rx
  obtain ⟨bs, r2⟩ := reads_of I am p2 hy ry
  exact eq_dataH r1 r2 s1 s2 hu ⟨.bl _, H, I, rfl, by have := f _ M r _ H (KT.refl H) am (.bl _); simpa using this⟩
theorem o_ne (hu : X.A.units + 64 < cLine) : DOp X (compareOp .NotEq) (gEq true) := by
  intro pins s σ H x y v u Q I rx ry h
  obtain ⟨dx, dy, M, R, hx, hy, am, ⟨px, py, p1, p2, s1, s2, r⟩, f⟩ := h
  obtain ⟨as, r1⟩ := reads_of I am p1 hx rx
  obtain ⟨bs, r2⟩ := reads_of I am p2 hy ry
  exact ne_dataH r1 r2 s1 s2 hu ⟨.bl _, H, I, rfl, by have := f _ M r _ H (KT.refl H) am (.bl _); simpa using this⟩

mutual
noncomputable def pyD : D → PyData
  | .int i => .int i
  | .str x => .str x
  | .bl b => .bool b
  | .tup ds => .tuple (pyDL ds)
  | .vl ds => .list (pyDL ds)
  | _ => .none
noncomputable def pyDL : List D → List PyData
  | [] => []
  | d :: r => pyD d :: pyDL r
end
mutual
/-- ints, None, plain texts and tuples of such, k deep -/
noncomputable def cl : Nat → D → Bool
  | _, .int _ => true
  | _, .non => true
  | _, .str x => PyData.canLay0 (.str x)
  | k + 1, .tup ds => clL k ds
  | k + 1, .vl ds => clL k ds
  | _, _ => false
noncomputable def clL : Nat → List D → Bool
  | _, [] => true
  | k, d :: r => cl k d && clL k r
end
mutual
theorem cl_py {M : Mem} : ∀ {k : Nat} {d : D}, cl k d = true → PyR M d (pyD d) ∧ (pyD d).canLay0 = true ∧ (pyD d).depth ≤ k
  | _, .int i, _ => ⟨.int i, rfl, Nat.zero_le _⟩
  | _, .non, _ => ⟨.non, rfl, Nat.zero_le _⟩
  | 0, .tup ds, h => by simp [cl] at h
  | k + 1, .tup ds, h => by
    obtain ⟨a, b, c⟩ := clL_py (M := M) (k := k) (ds := ds) (by simpa [cl] using h)
    exact ⟨.tup a, by simpa [pyD, PyData.canLay0] using b, by simp only [pyD, PyData.depth]; omega⟩
  | _, .str x, h => ⟨.str x, by simpa [cl, pyD] using h, Nat.zero_le _⟩
  | _, .bl _, h => by simp [cl] at h
  | _, .ref _, h => by simp [cl] at h
  | 0, .vl ds, h => by simp [cl] at h
  | k + 1, .vl ds, h => by
    obtain ⟨a, b, c⟩ := clL_py (M := M) (k := k) (ds := ds) (by simpa [cl] using h)
    exact ⟨.vl a, by simpa [pyD, PyData.canLay0] using b, by simp only [pyD, PyData.depth]; omega⟩
  | _, .ty _, h => by simp [cl] at h
theorem clL_py {M : Mem} : ∀ {k : Nat} {ds : List D}, clL k ds = true → PyRL M ds (pyDL ds) ∧ PyData.canLayAll0 (pyDL ds) = true ∧ PyData.depthAll (pyDL ds) ≤ k
  | _, [], _ => ⟨.nil, rfl, Nat.zero_le _⟩
  | k, d :: r, h => by
    have h' : cl k d = true ∧ clL k r = true := by simpa [clL] using h
    obtain ⟨a, b, c⟩ := cl_py (M := M) h'.1
    obtain ⟨a2, b2, c2⟩ := clL_py (M := M) h'.2
    exact ⟨.cons a a2, by simp [pyDL, PyData.canLayAll0, b, b2], by simp only [pyDL, PyData.depthAll]; omega⟩
end
mutual
theorem cl_eqv : ∀ {k j : Nat} {x y : D}, cl k x = true → cl j y = true → (PyData.eqv (pyD x) (pyD y) = true ↔ x = y)
  | _, _, .int i, .int j, _, _ => by simp [pyD, PyData.eqv]
  | _, _, .int i, .non, _, _ => by simp [pyD, PyData.eqv]
  | _, _, .non, .int i, _, _ => by simp [pyD, PyData.eqv]
  | _, _, .non, .non, _, _ => by simp [pyD, PyData.eqv]
  | _, _, .int i, .tup ds, _, _ => by simp [pyD, PyData.eqv]
  | _, _, .non, .tup ds, _, _ => by simp [pyD, PyData.eqv]
  | _, _, .tup ds, .int i, _, _ => by simp [pyD, PyData.eqv]
  | _, _, .tup ds, .non, _, _ => by simp [pyD, PyData.eqv]
  | k + 1, j + 1, .tup ds, .tup es, h, h' => by
    have := clL_eqv (k := k) (j := j) (xs := ds) (ys := es) (by simpa [cl] using h) (by simpa [cl] using h')
    simp only [pyD, PyData.eqv, D.tup.injEq]
    exact this
  | 0, _, .tup ds, .tup es, h, _ => by simp [cl] at h
  | _, 0, .tup ds, .tup es, _, h => by simp [cl] at h
  | _, _, .str x, .str y, _, _ => by simp [pyD, PyData.eqv]
  | _, _, .str x, .int i, _, _ => by simp [pyD, PyData.eqv]
  | _, _, .str x, .non, _, _ => by simp [pyD, PyData.eqv]
  | _, _, .str x, .tup ds, _, _ => by simp [pyD, PyData.eqv]
  | _, _, .int i, .str x, _, _ => by simp [pyD, PyData.eqv]
  | _, _, .non, .str x, _, _ => by simp [pyD, PyData.eqv]
  | _, _, .tup ds, .str x, _, _ => by simp [pyD, PyData.eqv]
  | k + 1, j + 1, .vl ds, .vl es, h, h' => by
    have := clL_eqv (k := k) (j := j) (xs := ds) (ys := es) (by simpa [cl] using h) (by simpa [cl] using h')
    simp only [pyD, PyData.eqv, D.vl.injEq]
    exact this
  | 0, _, .vl ds, .vl es, h, _ => by simp [cl] at h
  | _, 0, .vl ds, .vl es, _, h => by simp [cl] at h
  | _, _, .vl ds, .int i, _, _ => by simp [pyD, PyData.eqv]
  | _, _, .vl ds, .non, _, _ => by simp [pyD, PyData.eqv]
  | _, _, .vl ds, .str x, _, _ => by simp [pyD, PyData.eqv]
  | _, _, .vl ds, .tup es, _, _ => by simp [pyD, PyData.eqv]
  | _, _, .int i, .vl ds, _, _ => by simp [pyD, PyData.eqv]
  | _, _, .non, .vl ds, _, _ => by simp [pyD, PyData.eqv]
  | _, _, .str x, .vl ds, _, _ => by simp [pyD, PyData.eqv]
  | _, _, .tup es, .vl ds, _, _ => by simp [pyD, PyData.eqv]
  | _, _, .bl _, _, h, _ => by simp [cl] at h
  | _, _, .ref _, _, h, _ => by simp [cl] at h
  | _, _, .ty _, _, h, _ => by simp [cl] at h
  | _, _, _, .bl _, _, h => by simp [cl] at h
  | _, _, _, .ref _, _, h => by simp [cl] at h
  | _, _, _, .ty _, _, h => by simp [cl] at h
theorem clL_eqv : ∀ {k j : Nat} {xs ys : List D}, clL k xs = true → clL j ys = true → (PyData.eqvAll (pyDL xs) (pyDL ys) = true ↔ xs = ys)
  | _, _, [], [], _, _ => by simp [pyDL, PyData.eqvAll]
  | _, _, [], _ :: _, _, _ => by simp [pyDL, PyData.eqvAll]
  | _, _, _ :: _, [], _, _ => by simp [pyDL, PyData.eqvAll]
  | k, j, x :: xs, y :: ys, h, h' => by
    have h1 : cl k x = true ∧ clL k xs = true := by simpa [clL] using h
    have h2 : cl j y = true ∧ clL j ys = true := by simpa [clL] using h'
    have e1 := cl_eqv h1.1 h2.1
    have e2 := clL_eqv h1.2 h2.2
    simp only [pyDL, PyData.eqvAll, Bool.and_eq_true, e1, e2, List.cons.injEq]
end
open Classical in
/-- == of clean data -/
theorem gEq_cl {neg : Bool} {x y : D} {M : Mem} {R : DK} (h : R (.bl (neg.xor (decide (x = y)))) M) (hx : cl 60 x = true := by rfl) (hy : cl 60 y = true := by rfl) : gEq neg x y M R := by
  obtain ⟨a, b, c⟩ := cl_py (M := M) hx
  obtain ⟨a2, b2, c2⟩ := cl_py (M := M) hy
  refine ⟨_, _, a, a2, ?_, ?_, ?_⟩
  · simp only [SeqAt.shaped, b, Bool.true_and]; exact decide_eq_true (by omega)
  · simp only [SeqAt.shaped, b2, Bool.true_and]; exact decide_eq_true (by omega)
  · have e : PyData.eqv (pyD x) (pyD y) = decide (x = y) := by
      have := cl_eqv hx hy
      by_cases q : x = y
      · rw [decide_eq_true q]; exact this.mpr q
      · rw [decide_eq_false q]
        cases z : PyData.eqv (pyD x) (pyD y) with
        | false => rfl
        | true => exact absurd (this.mp z) q
    rw [e]; exact h

noncomputable def tyD (M : Mem) : D → Option String
  | .non => some "NoneType"
  | .bl _ => some "bool"
  | .int _ => some "int"
  | .str _ => some "str"
  | .tup _ => some "tuple"
  | .ref p => match M p with
    | some (.lst _) => some "list"
    | _ => none
  | .vl _ => some "list"
  | .ty _ => none
  | .dic => some "dict"
  | .exc _ => none
noncomputable def subT (t T : String) : Option Bool := if t = T then some true else
  match t, T with
  | "bool", "int" => some true
  | _, _ => if (t ∈ ["NoneType", "bool", "int", "str", "tuple", "list", "dict"]) ∧ (T ∈ ["bool", "int", "str", "tuple", "list"]) then some false else none
noncomputable def SubOk (K : PySem.W.Frag) : Prop := ∀ t T b, subT t T = some b → PySem.W.kitOne K (.type t) (.type T) = some b
theorem jd_ty {x : Str} {n : String} (hg : Gl X x) (hm : X.mg x = none) (hv : bootBuiltins x = some (.type n)) (hn : x ≠ "__name__" := by decide) (hd : (x == ("__debug__" : Str)) = false := by decide) : JE X (.Name x pos) (dC (.ty n)) := ⟨d_const (v := .ty n) (pe_bltn hg hm hv rfl hn hd) fun _ => .ty n⟩
noncomputable def gIsi : DRC := fun ds M R => ∃ d t T b, ds = [d, .ty T] ∧ tyD M d = some t ∧ subT t T = some b ∧ R (.bl b) M
theorem c_isi (hk : SubOk X.K) : DCall X (.builtin "isinstance") gIsi := by
  intro pins s σ H xs us Q I rv h
  obtain ⟨ds, M, R, hl, am, ⟨d, t, T, b, rfl, ht, hb, r⟩, f⟩ := h
  obtain ⟨v, v', rfl, h1, h2⟩ := hl.two
  cases h2
  obtain ⟨u, w', rfl, r1, r2⟩ := vals2 rv
  cases (show w' = Value.type T from r2)
  have e := hk t T b hb
  have fin : ∀ tk, EP X pins σ Q (.bool b) { s with toks := tk } := fun tk => ⟨.bl b, H, I.tok tk, rfl, f _ M r _ H (KT.refl H) am (.bl b)⟩
  cases h1 with
  | non => cases ht; exact isinst_ok I r1 .non e fin
  | bl q => cases ht; exact isinst_ok I r1 (.bl q) e fin
  | int q => cases ht; exact isinst_ok I r1 (.int q) e fin
  | str q => cases ht; exact isinst_ok I r1 (.str q) e fin
  | ty q => cases ht
  | ref p =>
    unfold tyD at ht
    cases q : M p with
    | none => simp [q] at ht
    | some o =>
      cases o with
      | lst es =>
        simp only [q] at ht
        cases ht
        obtain ⟨ys, hy, _⟩ := am.lst q
        exact isinst_ok I r1 (.lst hy) e fin
  | tup s' l =>
    cases ht
    cases (show u = Value.ref _ from r1)
    obtain ⟨its, _, ⟨o, h1, h2, _⟩, _⟩ := I.tuple s'
    exact PySem.W.kia_one PySem.W.kitx_tuple I.kIn ⟨o, h1, h2⟩ e (fun z => nomatch z) fin
  | vl hq hl' =>
    cases ht
    cases (show u = Value.ref _ from r1)
    obtain ⟨_, _, ea, sq, _⟩ := Has.il (.vl hq hl')
    cases ea
    obtain ⟨its, _, ⟨o, n, h1, h2, _⟩, _⟩ := I.list sq
    exact PySem.W.kia_one PySem.W.kitx_list I.kIn ⟨o, h1, h2⟩ e (fun z => nomatch z) fin
  | dic hq =>
    cases ht
    cases (show u = Value.ref _ from r1)
    obtain ⟨o, g1, g2⟩ := hq
    exact PySem.W.kia_one PySem.W.kitx_dict I.kIn ⟨o, (I.hok _ _ g1).1, g2⟩ e (fun z => nomatch z) fin
  | exc hq => cases ht

end
end DL

namespace DL
open PySem PySem.Spec L2
open PyProof.Rows hiding St
section
variable {X : Cx} {a b c : Expr} {ta tb tc : DTE} {pos : Pos}

noncomputable def Y0 : DXK := fun _ _ => False
theorem fit0 {K : PySem.W.Frag} {H : Hp} {E : XK} : FitX K H Y0 E := fun _ _ h => h.elim
structure FunD (K : PySem.W.Frag) (x : Str) (st : Stmt) (f : Addr) (fd : FuncData) : Prop where
  ex : ∃ (oc : Value) (od : Option Addr) (dV kV doc pm : Value) (an : Option Addr) (cdv ct : Value) (osl : Array (Option Value)),
    fd = PySem.W.fnOf x x (defArgs st) (defBody st) (defScope st) dV kV doc pm an cdv ct ∧ K.lookup f = some ⟨oc, od, .func fd, osl⟩ ∧ PySem.W.codeIn K cdv x = true
  kp : PySem.W.keepIn K (.ref f) = true
structure Df (K : PySem.W.Frag) (mg : Str → Option Value) (x : Str) (st : Stmt) (ps : List Str) : Prop where
  ex : ∃ (f : Addr) (fd : FuncData), FunD K x st f fd ∧ mg x = some (.ref f) ∧ Binds K fd ps []
structure DfL (K : PySem.W.Frag) (mg : Str → Option Value) (x : Str) (st : Stmt) (ps : List Str) : Prop where
  ex : ∃ (f : Addr) (fd : FuncData), FunD K x st f fd ∧ mg x = some (.ref f) ∧ ∀ us : List Value, us.length = ps.length → bindArgs fd ⟨us, []⟩ = pure (ps.zip us)
structure Fn (P : Program) (w : World) (K : PySem.W.Frag) (mg : Str → Option Value) (base : Heap) (x : Str) (k : Nat) (ps : List Str) (sp : DSp) : Prop where
  ex : ∃ (f : Addr) (fd : FuncData), FnOk P w K mg base CX0 k f fd ps (upSp K sp) ∧ mg x = some (.ref f) ∧ PySem.W.keepIn K (.ref f) = true ∧ Binds K fd ps []
theorem jd_callF {x : Str} {j : Nat} {ps : List Str} {sp : DSp} {p : Pos} {e : Expr} {es : List Expr} {t : DTA} (G : Fn X.prog X.w X.K X.mg X.base x j ps sp) (hr : Room j X.A) (hg : Gl X x) (ha : JA X (e :: es) t)
    (hdb : (x == ("__debug__" : Str)) = false := by decide) (he : starEach (e :: es) X.env = (false, eval e X.env) :: starEach es X.env := by rfl) (hpl : (backTo pos (starEach es X.env)).any (·.1) = false := by rfl) : JE X (.Call (.Name x p) (e :: es) [] pos) (dCall sp [] Y0 t) := ⟨have ha := ha.out; by
  obtain ⟨f, fd, F, hm, hk, hb⟩ := G.ex
  exact d_call F hr hg hm hk hb .nil (fun _ => .nil) pass0 (fun _ => fit0) ha hdb he hpl⟩
end
section
variable {P : Program} {w : World} {K : PySem.W.Frag} {mg : Str → Option Value} {base : Heap}
theorem fn_ok {x : Str} {st : Stmt} {f : Addr} {fd : FuncData} {N ps : List Str} {k : Nat} {sp : DSp} (F : FunD K x st f fd) (S : FnScope N ps (defScope st)) (len : ∀ ds M R Y, sp ds M R Y → ds.length = ps.length)
    (hbody : ∀ (cdv : Value) (A : Around) (outer : List Env) (s : Shared) (H : Hp) (E : XK) (ds : List D) (M : Mem) (R : DK) (Y : DXK), Room k (A.deeper (envOfC x (defScope st) s.heap.objs.size f cdv)) → sp ds M R Y →
      ∃ t, JSs (cxOf CX0 P w K mg base N x (defScope st) f cdv A outer s H E).nox (defBody st) t ∧ t { nx := fun _ M' => R .non M', rt := R } (dstart N ds) M) : FnOk P w K mg base CX0 (k + 1) f fd ps (upSp K sp) := by
  obtain ⟨oc, od, dV, kV, doc, pm, an, cdv, ct, osl, rfl, lk, hcd⟩ := F.ex
  refine fn_of lk hcd S (fun vs H Q E ⟨ds, M, R, Y, hl, _, hs, _, _⟩ => by rw [hl.length]; exact len ds M R Y hs) fun A outer s H vs Q E hr zz => ?_
  obtain ⟨ds, M, R, Y, hl, am, hs, fv, fx⟩ := zz
  obtain ⟨t, h1, h2⟩ := hbody cdv A outer s H E ds M R Y hr hs
  refine ⟨_, h1.out.nox, dstart N ds, M, _, EnvOk.start0 hl, am, h2, ⟨?_, fv, fun _ _ h => h.elim, fun _ _ h => h.elim⟩⟩
  exact fun e M' h σ' H' kt a o => fv .non M' h .non H' kt a .non
theorem fn_by {x : Str} {st : Stmt} {N ps : List Str} {k : Nat} {sp : DSp} (d : Df K mg x st ps) (S : FnScope N ps (defScope st)) (len : ∀ ds M R Y, sp ds M R Y → ds.length = ps.length)
    (hbody : ∀ (f : Addr) (cdv : Value) (A : Around) (outer : List Env) (s : Shared) (H : Hp) (E : XK) (ds : List D) (M : Mem) (R : DK) (Y : DXK), Room k (A.deeper (envOfC x (defScope st) s.heap.objs.size f cdv)) → sp ds M R Y →
      ∃ t, JSs (cxOf CX0 P w K mg base N x (defScope st) f cdv A outer s H E).nox (defBody st) t ∧ t { nx := fun _ M' => R .non M', rt := R } (dstart N ds) M) : Fn P w K mg base x (k + 1) ps sp := by
  obtain ⟨f, fd, F, hm, hb⟩ := d.ex
  exact ⟨f, fd, fn_ok F S len (hbody f), hm, F.kp, hb⟩
theorem df_mk {x : Str} {st : Stmt} {ps : List Str} {h : Heap} {f : Addr} {oc : Value} {od an : Option Addr} {osl : Array (Option Value)} {dV kV doc pm cdv ct : Value} (X : K.In h) (G : h.Ns mainGlobals mg)
    (n : PySem.W.nsIn K mainGlobals x = some (some (.ref f)))
    (l : K.lookup f = some ⟨oc, od, .func (PySem.W.fnOf x x (defArgs st) (defBody st) (defScope st) dV kV doc pm an cdv ct), osl⟩)
    (c : PySem.W.codeIn K cdv x = true) (k : PySem.W.keepIn K (.ref f) = true)
    (hb : ∀ us : List Value, us.length = ps.length → bindArgs (PySem.W.fnOf x x (defArgs st) (defBody st) (defScope st) dV kV doc pm an cdv ct) ⟨us, []⟩ = pure (ps.zip us)) : Df K mg x st ps :=
  ⟨f, _, ⟨⟨oc, od, dV, kV, doc, pm, an, cdv, ct, osl, rfl, l, c⟩, k⟩, PySem.W.mg_of X G n, .all hb⟩
theorem dfl_mk {x : Str} {st : Stmt} {ps : List Str} {h : Heap} {f : Addr} {oc : Value} {od an : Option Addr} {osl : Array (Option Value)} {dV kV doc pm cdv ct : Value} (X : K.In h) (G : h.Ns mainGlobals mg)
    (n : PySem.W.nsIn K mainGlobals x = some (some (.ref f)))
    (l : K.lookup f = some ⟨oc, od, .func (PySem.W.fnOf x x (defArgs st) (defBody st) (defScope st) dV kV doc pm an cdv ct), osl⟩)
    (c : PySem.W.codeIn K cdv x = true) (k : PySem.W.keepIn K (.ref f) = true)
    (hb : ∀ us : List Value, us.length = ps.length → bindArgs (PySem.W.fnOf x x (defArgs st) (defBody st) (defScope st) dV kV doc pm an cdv ct) ⟨us, []⟩ = pure (ps.zip us)) : DfL K mg x st ps :=
  ⟨f, _, ⟨⟨oc, od, dV, kV, doc, pm, an, cdv, ct, osl, rfl, l, c⟩, k⟩, PySem.W.mg_of X G n, hb⟩
end
section
variable {X : Cx} {x : Str} {p pos : Pos} {e : Expr} {es : List Expr} {t : DTA} {id T : String} {o : Expr} {to : DTE} {a b c : Expr} {ta tb tc : DTE}
theorem jd_blt {g : DRC} (hc : DCall X (.builtin id) g) (hg : Gl X x) (hm : X.mg x = none) (hv : bootBuiltins x = some (.builtin id)) (ha : JA X (e :: es) t)
    (hn : x ≠ "__name__" := by decide) (hdb : (x == ("__debug__" : Str)) = false := by decide) (he : starEach (e :: es) X.env = (false, eval e X.env) :: starEach es X.env := by rfl) (hpl : (backTo pos (starEach es X.env)).any (·.1) = false := by rfl) : JE X (.Call (.Name x p) (e :: es) [] pos) (dCB g t) := ⟨have ha := ha.out; (pe_callB hc hg hm hv ha hn hdb he hpl).imp fun _ _ _ h => cb_up h⟩
theorem jd_blty {g : DRC} (hc : DCall X (.type T) g) (hg : Gl X x) (hm : X.mg x = none) (hv : bootBuiltins x = some (.type T)) (ha : JA X (e :: es) t)
    (hn : x ≠ "__name__" := by decide) (hdb : (x == ("__debug__" : Str)) = false := by decide) (he : starEach (e :: es) X.env = (false, eval e X.env) :: starEach es X.env := by rfl) (hpl : (backTo pos (starEach es X.env)).any (·.1) = false := by rfl) : JE X (.Call (.Name x p) (e :: es) [] pos) (dCB g t) := ⟨have ha := ha.out; (pe_callTy hc hg hm hv ha hn hdb he hpl).imp fun _ _ _ h => cb_up h⟩
theorem op_catS : OpR X (binaryOp .Add) (fun x y H Q => ∃ l b xs zs, x = .ref l ∧ y = .ref b ∧ SqL X.K H l xs ∧ SqL X.K H b zs ∧ xs.length + zs.length ≤ sizeLine ∧ ∀ p, H p = none → Q (.ref p) (upd H p (.lst (xs ++ zs)))) := by
  intro pins s σ H x y v u Q I rx ry h
  obtain ⟨l, b, xs, zs, rfl, rfl, hH, hB, hz, q⟩ := h
  cases rx
  cases ry
  obtain ⟨its, r, pl, z1⟩ := I.list hH
  obtain ⟨its2, r2, pl2, z2⟩ := I.list hB
  have hl := r.length
  have hl2 := r2.length
  obtain ⟨⟨cls, dd, data, sl⟩, ho, hc, n, hd⟩ := pl.isList
  obtain ⟨⟨cls2, dd2, data2, sl2⟩, ho2, hc2, n2, hd2⟩ := pl2.isList
  simp only at hc hd hc2 hd2
  subst hc hd hc2 hd2
  have ea : its.toArray ++ its2.toArray = (its ++ its2).toArray := by simp
  refine concat_meets ⟨_, ho, rfl⟩ ⟨_, ho2, rfl⟩ noFill_list_add seq_list_add PySem.F.slot_list_add PySem.F.entry_list_add (PySem.F.args_list_add_2 _ _) (list_addW l b its.toArray its2.toArray n n2 dd dd2 sl sl2 (by simp only [List.size_toArray]; omega)) ⟨ho, ho2, ?_⟩
  rw [ea]
  exact ⟨.ref _, _, I.lnew (t' := s.toks) (r.append r2) (by rw [List.length_append]; omega), rfl, q _ I.fresh⟩
noncomputable def itemsD (M : Mem) : D → Option (List D)
  | .ref p => match M p with
    | some (.lst ds) => some ds
    | _ => none
  | .vl ds => some ds
  | _ => none
theorem itemsD_has {K : PySem.W.Frag} {H : Hp} {M : Mem} {v : V} {d : D} {ds : List D} (am : AbsM K H M) (h : Has K H v d) (e : itemsD M d = some ds) : ∃ a xs, v = .ref a ∧ SqL K H a xs ∧ HasL K H xs ds := by
  cases h with
  | ref p =>
    unfold itemsD at e
    cases q : M p with
    | none => simp [q] at e
    | some o =>
      cases o with
      | lst es =>
        simp only [q] at e
        cases e
        obtain ⟨xs, hx, l⟩ := am.lst q
        exact ⟨p, xs, rfl, SqL.of hx, l⟩
  | vl hq hl =>
    cases e
    exact Has.il (.vl hq hl)
  | _ => cases e
end
end DL
namespace DL
open PySem PySem.Spec L2
open PyProof.Rows hiding St

end DL

namespace DL
open PySem PySem.Spec L2
open PyProof.Rows hiding St
theorem sl (n : Nat) (h : n ≤ 1000 := by decide) : n ≤ sizeLine := Nat.le_trans h (by decide)
section
variable {X : Cx}
open Classical in
/-- == and != of clean data, of scalars -/
noncomputable def gEqC (neg : Bool) : DR2 := fun x y M R => cl 60 x = true ∧ cl 60 y = true ∧ R (.bl (neg.xor (decide (x = y)))) M
theorem o_eqC (hu : X.A.units + 64 < cLine) : DOp X (compareOp .Eq) (gEqC false) := OpR.imp (o_eq hu) (by rintro _ _ _ _ ⟨dx, dy, M, R, hx, hy, am, ⟨h1, h2, h3⟩, f⟩; exact ⟨dx, dy, M, R, hx, hy, am, gEq_cl h3 h1 h2, f⟩)
theorem o_neC (hu : X.A.units + 64 < cLine) : DOp X (compareOp .NotEq) (gEqC true) := OpR.imp (o_ne hu) (by rintro _ _ _ _ ⟨dx, dy, M, R, hx, hy, am, ⟨h1, h2, h3⟩, f⟩; exact ⟨dx, dy, M, R, hx, hy, am, gEq_cl h3 h1 h2, f⟩)
theorem o_eqI : DOp X (compareOp .Eq) (gF (fI fun i j => .bl (decide (i = j)))) := OpR.imp op_eq (by
  rintro x y H Q ⟨dx, dy, M, R, hx, hy, am, ⟨z, e, r⟩, f⟩
  obtain ⟨i, j, e1, e2, e3⟩ := fI_some e
  subst e1; subst e2; subst e3
  cases hx; cases hy
  refine ⟨rfl, ?_⟩
  have e : decide (V.int i = V.int j) = decide (i = j) := by simp
  rw [e]
  exact f _ M r _ H (KT.refl H) am (.bl _))
theorem o_neI : DOp X (compareOp .NotEq) (gF (fI fun i j => .bl (!decide (i = j)))) := OpR.imp op_ne (by
  rintro x y H Q ⟨dx, dy, M, R, hx, hy, am, ⟨z, e, r⟩, f⟩
  obtain ⟨i, j, e1, e2, e3⟩ := fI_some e
  subst e1; subst e2; subst e3
  cases hx; cases hy
  refine ⟨rfl, ?_⟩
  have e : decide (V.int i = V.int j) = decide (i = j) := by simp
  rw [e]
  exact f _ M r _ H (KT.refl H) am (.bl _))
noncomputable def gIntB : DRC := fun ds M R => ∃ k : Bool, ds = [.bl k] ∧ R (.int (if k then 1 else 0)) M
theorem c_intB : DCall X (.type "int") gIntB := CallR.imp c_int (by rintro xs H Q ⟨ds, M, R, hl, am, ⟨k, z, r⟩, f⟩; exact ⟨ds, M, R, hl, am, .inr ⟨k, z, r⟩, f⟩)
end
theorem iteD {c : Prop} [Decidable c] {A B : Prop} (h1 : c → A) (h2 : ¬ c → B) : if decide c = true then A else B := by
  by_cases h : c
  · rw [if_pos (decide_eq_true h)]; exact h1 h
  · rw [if_neg (by rw [decide_eq_false h]; exact Bool.false_ne_true)]; exact h2 h
theorem iteND {c : Prop} [Decidable c] {A B : Prop} (h1 : ¬ c → A) (h2 : c → B) : if (!decide c) = true then A else B := by
  by_cases h : c
  · rw [decide_eq_true h]; rw [if_neg (by decide)]; exact h2 h
  · rw [decide_eq_false h]; rw [if_pos (by decide)]; exact h1 h
theorem log_lt {n k : Nat} (h : n < 2 ^ k) (hk : 0 < k) : n.log2 < k := by
  rcases Nat.eq_zero_or_pos n with h0 | h0
  · subst h0; rw [Nat.log2_zero]; exact hk
  · exact (Nat.log2_lt (Nat.pos_iff_ne_zero.mp h0)).mpr h
end DL
namespace DL
open PySem PySem.Spec L2
open PyProof.Rows hiding St
noncomputable def kit0 (t T : String) : Option Bool := if PySem.W.kitMeta T = true then (fastBuiltinMro t).map (·.contains (.type T)) else none
theorem subOk (K : PySem.W.Frag) : SubOk K := by
  intro t T b h
  unfold subT at h
  by_cases e : t = T
  · subst e
    rw [if_pos rfl] at h
    cases h
    unfold PySem.W.kitOne
    rw [if_pos (beq_self_eq_true _)]
  · rw [if_neg e] at h
    have hne : ¬ (Value.type t == Value.type T) = true := fun z => e (by have := eq_of_beq z; injection this)
    unfold PySem.W.kitOne
    rw [if_neg hne]
    show kit0 t T = some b
    split at h
    · cases h; decide +kernel
    · split at h
      · rename_i hh
        obtain ⟨ht, hT⟩ := hh
        simp only [List.mem_cons, List.not_mem_nil, or_false] at ht hT
        cases h
        rcases ht with rfl | rfl | rfl | rfl | rfl | rfl | rfl <;> rcases hT with rfl | rfl | rfl | rfl | rfl <;> first | exact absurd rfl e | decide +kernel | (exfalso; simp_all)
      · cases h
theorem has_script {K : PySem.W.Frag} {H : Hp} {a : Addr} {ns : List Int} (hO : Only H) (hS : SqL K H a (ns.map V.int)) : Has K H (.ref a) (.vl (ns.map D.int)) := by
  rcases hS with (h | ⟨o, h⟩) | h
  · rcases hO a with z | ⟨o, xs, z⟩
    · rw [z] at h; cases h
    · rw [z] at h; cases h
  · exact .vl (.inl ⟨o, h⟩) (HasL.ints ns)
  · exact .vl (.inr fun _ => .inr h) (HasL.ints ns)
theorem law_sp {K : PySem.W.Frag} {H : Hp} {a : Addr} {ns : List Int} {sp : DSp} (hO : Only H) (hS : SqL K H a (ns.map V.int)) (h : sp [.vl (ns.map D.int)] (fun _ => none) (fun d _ => d = .bl true) Y0) :
    upSp K sp [.ref a] H (fun v _ => v = .bl true) (fun _ _ _ => False) :=
  ⟨[.vl (ns.map D.int)], fun _ => none, fun d _ => d = .bl true, Y0, .cons (has_script hO hS) .nil, fun _ _ z => (by cases z), h, fun d M' e v H' _ _ hv => by subst e; cases hv; rfl, fun _ _ z => z.elim⟩
end DL

namespace DL
open PySem PySem.Spec L2
open PyProof.Rows hiding St
section
variable {X : Cx} {o e : Expr} {es : List Expr} {to : DTE} {t : DTA} {name : Str} {apos cpos : Pos} {id : String}

noncomputable abbrev DRM := D → List D → Mem → DK → Prop
noncomputable def upM (K : PySem.W.Frag) (g : DRM) : V → List V → Hp → VK → Prop := fun x xs H Q => ∃ dx ds M R, Has K H x dx ∧ HasL K H xs ds ∧ AbsM K H M ∧ g dx ds M R ∧ FitV K H R Q
noncomputable def DMt (X : Cx) (id : String) (g : DRM) : Prop := MtR X id (upM X.K g)
theorem MtR.imp {r r' : V → List V → Hp → VK → Prop} (h : MtR X id r) (i : ∀ x xs H Q, r' x xs H Q → r x xs H Q) : MtR X id r' := fun pins s σ H x xs v us Q I rx rv q => h pins s σ H x xs v us Q I rx rv (i x xs H Q q)
noncomputable def dLM (g : DRM) (to : DTE) (t : DTA) : DTE := fun e M R => to e M fun x M1 => (∃ l ds, x = .ref l ∧ M1 l = some (.lst ds)) ∧ t e M1 fun xs M2 => g x xs M2 R
theorem jd_lm {g : DRM} (slot : Slot "list" name id) (hty : typeOf (.builtin id) = pure (.type "method_descriptor")) (hm : DMt X id g) (ho : JE X o to) (ha : JA X (e :: es) t)
    (hbase : attributeBase o name X.env (eval o X.env) = eval o X.env := by rfl)
    (hfew : ((backTo cpos (starEach (e :: es) X.env)).all (fun x => !x.1) && (backToKw cpos (keywordEach [] X.env)).all (fun x => x.1.isSome)
      && decide ((e :: es).length + ([] : List Keyword).length + (if ([] : List Keyword).isEmpty then 0 else 1) < 30)) = true := by rfl)
    (hline : (apos.endLine == cpos.line) = true := by rfl) (hs : starEach (e :: es) X.env = (false, eval e X.env) :: starEach es X.env := by rfl) (hplain : (backTo cpos (starEach es X.env)).any (·.1) = false := by rfl) : JE X (.Call (.Attribute o name apos) (e :: es) [] cpos) (dLM g to t) := ⟨have ho := ho.out; have ha := ha.out; (pe_bm PySem.F.plainAttrs_list slot hty hm ho ha hbase hfew hline hs hplain).imp (by rintro σ H Q ⟨e, M, R, ok, am, t, f⟩; exact ⟨e, M, _, ok, am, t, fun x M1 ⟨⟨l, ds, z, hM⟩, h1⟩ v H1 k1 a1 r1 => by
    subst z
    have r1' := r1
    cases r1
    obtain ⟨xs, hx, _⟩ := a1.lst hM
    refine ⟨.inl ⟨rfl, xs, SqL.of hx⟩, e, M1, _, ok.mono k1, a1, h1, fun zs M2 h2 vs H2 k2 a2 r2 => ?_⟩
    exact ⟨_, zs, M2, R, r1'.mono k2, r2, a2, h2, f.mono (k1.trans k2)⟩⟩)⟩
theorem vals_bools : ∀ {bs : List Bool} {us : List Value}, Vals (bs.map V.bl) us → us = bs.map Value.bool
  | [], _, r => by cases r; rfl
  | b :: bs, _, r => by
    cases r with
    | cons r rr =>
      cases (show _ = Value.bool b from r)
      rw [vals_bools rr]; rfl
theorem HasL.bools {K : PySem.W.Frag} {H : Hp} : ∀ {bs : List Bool} {vs : List V}, HasL K H vs (bs.map D.bl) → vs = bs.map V.bl
  | [], _, r => by cases r; rfl
  | b :: bs, _, r => by
    cases r with
    | cons r rr => cases r; rw [HasL.bools rr]; rfl
noncomputable def fB (f : Bool → Bool → D) : D → D → Option D
  | .bl i, .bl j => some (f i j)
  | _, _ => none
theorem fB_some {f : Bool → Bool → D} {x y z : D} (h : fB f x y = some z) : ∃ i j, x = .bl i ∧ y = .bl j ∧ z = f i j := by
  cases x with
  | bl i =>
    cases y with
    | bl j => exact ⟨i, j, rfl, rfl, (Option.some.inj h).symm⟩
    | _ => cases h
  | _ => cases h
theorem o_neB : DOp X (compareOp .NotEq) (gF (fB fun i j => .bl (!(i == j)))) := OpR.imp op_ne (by
  rintro x y H Q ⟨dx, dy, M, R, hx, hy, am, ⟨z, e, r⟩, f⟩
  obtain ⟨i, j, e1, e2, e3⟩ := fB_some e
  subst e1; subst e2; subst e3
  cases hx; cases hy
  exact ⟨rfl, by rw [dec_bl]; exact f _ M r _ H (KT.refl H) am (.bl _)⟩)
end
end DL

namespace DL
open PySem PySem.Spec L2
open PyProof.Rows hiding St

section
variable {X : Cx}

end
end DL

namespace DL
open PySem PySem.Spec L2
open PyProof.Rows hiding St

section
variable {X : Cx} {st : Stmt} {rest : List Stmt} {t u : DTS}
end
section
variable {X : Cx}
theorem range_all (bs : List Bool) : (List.range bs.length).all (fun i => bs.getD i true) = bs.all id := by
  have : (List.range bs.length).map (fun i => bs.getD i true) = bs := by
    apply List.ext_getElem (by simp)
    intro i h1 h2
    simp [List.getD_eq_getElem?_getD, h2]
  conv => rhs; rw [← this]
  rw [List.all_map]; rfl
theorem range_any (bs : List Bool) : (List.range bs.length).any (fun i => bs.getD i true) = bs.any id := by
  have : (List.range bs.length).map (fun i => bs.getD i true) = bs := by
    apply List.ext_getElem (by simp)
    intro i h1 h2
    simp [List.getD_eq_getElem?_getD, h2]
  conv => rhs; rw [← this]
  rw [List.any_map]; rfl
theorem truth_bools {prog : Program} {w : World} {A : Around} (bs : List Bool) : TruthOf prog w A (fun i v => (bs.map Value.bool).toArray[i]? = some v) (fun i => bs.getD i true) := by
  intro i v s Q E h q
  have h' : (bs.map Value.bool)[i]? = some v := by simpa using h
  rw [List.getElem?_map] at h'
  cases e : bs[i]? with
  | none => rw [e] at h'; cases h'
  | some b =>
    rw [e] at h'
    cases h'
    have q' : Q b s := by simpa [List.getD_eq_getElem?_getD, e] using q
    exact wpAny_truthy_bool q'
theorem call_allB (hc : X.calm = true) : CallR X (.builtin "all") (fun xs H Q => ∃ (l : Addr) (bs : List Bool), xs = [.ref l] ∧ SqL X.K H l (bs.map V.bl) ∧ Q (.bl (bs.all id)) H) := by
  intro pins s σ H xs us Q I r h
  obtain ⟨l, bs, rfl, hS, q⟩ := h
  obtain ⟨u, rfl, ru⟩ := vals1 r
  cases ru
  obtain ⟨its, rv, p, _⟩ := I.list hS
  have hb := vals_bools rv
  subst hb
  have hl : s.heap.IsList l (bs.map Value.bool).toArray := p.isList
  have hne : l ≠ s.heap.objs.size := by
    obtain ⟨o, e, _⟩ := id hl
    exact Nat.ne_of_lt (Heap.lt_size e)
  refine call_all_walk (wpAny_pyIter_list hl ?_)
  refine ⟨s.heap.objs.size, _, _, _, _, _, fun i => bs.getD i true, rfl, Walks.list (A := X.A.in1) (I.ok.hd hc) s.heap.objs.size l hne (bs.map Value.bool).toArray, ⟨⟨_, Heap.get?_push_size _ rfl, rfl, rfl⟩, hl.at fun o e => Heap.get?_push_of_some _ e⟩, truth_bools bs, fun h' tk kk => ?_⟩
  have e : (List.range (bs.map Value.bool).toArray.size).all (fun i => bs.getD i true) = bs.all id := by
    rw [show (bs.map Value.bool).toArray.size = bs.length by simp]; exact range_all bs
  rw [e]
  exact ⟨.bl (bs.all id), H, I.kept fun b o z => kk b o (by simp; exact Nat.ne_of_lt (Heap.lt_size z)) (Heap.get?_push_of_some _ z), rfl, q⟩
theorem call_anyB (hc : X.calm = true) : CallR X (.builtin "any") (fun xs H Q => ∃ (l : Addr) (bs : List Bool), xs = [.ref l] ∧ SqL X.K H l (bs.map V.bl) ∧ Q (.bl (bs.any id)) H) := by
  intro pins s σ H xs us Q I r h
  obtain ⟨l, bs, rfl, hS, q⟩ := h
  obtain ⟨u, rfl, ru⟩ := vals1 r
  cases ru
  obtain ⟨its, rv, p, _⟩ := I.list hS
  have hb := vals_bools rv
  subst hb
  have hl : s.heap.IsList l (bs.map Value.bool).toArray := p.isList
  have hne : l ≠ s.heap.objs.size := by
    obtain ⟨o, e, _⟩ := id hl
    exact Nat.ne_of_lt (Heap.lt_size e)
  refine call_any_walk (wpAny_pyIter_list hl ?_)
  refine ⟨s.heap.objs.size, _, _, _, _, _, fun i => bs.getD i true, rfl, Walks.list (A := X.A.in1) (I.ok.hd hc) s.heap.objs.size l hne (bs.map Value.bool).toArray, ⟨⟨_, Heap.get?_push_size _ rfl, rfl, rfl⟩, hl.at fun o e => Heap.get?_push_of_some _ e⟩, truth_bools bs, fun h' tk kk => ?_⟩
  have e : (List.range (bs.map Value.bool).toArray.size).any (fun i => bs.getD i true) = bs.any id := by
    rw [show (bs.map Value.bool).toArray.size = bs.length by simp]; exact range_any bs
  rw [e]
  exact ⟨.bl (bs.any id), H, I.kept fun b o z => kk b o (by simp; exact Nat.ne_of_lt (Heap.lt_size z)) (Heap.get?_push_of_some _ z), rfl, q⟩
noncomputable def gAll : DRC := fun ds M R => ∃ (d : D) (bs : List Bool), ds = [d] ∧ itemsD M d = some (bs.map D.bl) ∧ R (.bl (bs.all id)) M
noncomputable def gAny : DRC := fun ds M R => ∃ (d : D) (bs : List Bool), ds = [d] ∧ itemsD M d = some (bs.map D.bl) ∧ R (.bl (bs.any id)) M
theorem c_all (hc : X.calm = true) : DCall X (.builtin "all") gAll := CallR.imp (call_allB hc) (by
  rintro xs H Q ⟨ds, M, R, hl, am, ⟨d, bs, z, hM, r⟩, f⟩
  subst z
  obtain ⟨v, rfl, hv⟩ := hl.one
  obtain ⟨a, vs, rfl, s, l⟩ := itemsD_has am hv hM
  rw [l.bools] at s
  exact ⟨a, bs, rfl, s, f _ M r _ H (KT.refl H) am (.bl _)⟩)
theorem c_any (hc : X.calm = true) : DCall X (.builtin "any") gAny := CallR.imp (call_anyB hc) (by
  rintro xs H Q ⟨ds, M, R, hl, am, ⟨d, bs, z, hM, r⟩, f⟩
  subst z
  obtain ⟨v, rfl, hv⟩ := hl.one
  obtain ⟨a, vs, rfl, s, l⟩ := itemsD_has am hv hM
  rw [l.bools] at s
  exact ⟨a, bs, rfl, s, f _ M r _ H (KT.refl H) am (.bl _)⟩)
end
theorem bt_all : bootBuiltins "all" = some (.builtin "all") := by decide +kernel
theorem bt_any : bootBuiltins "any" = some (.builtin "any") := by decide +kernel
structure GlD (K : PySem.W.Frag) (mg : Str → Option Value) (x : Str) (d : D) : Prop where
  ex : ∃ (v : V) (u : Value), mg x = some u ∧ RelV v u ∧ HasK K v d
theorem jd_globD {X : Cx} {x : Str} {d : D} {pos : Pos} (hg : Gl X x) (g : GlD X.K X.mg x d) (hd : (x == ("__debug__" : Str)) = false := by decide) : JE X (.Name x pos) (dC d) := ⟨by
  obtain ⟨v, u, h1, h2, h3⟩ := g.ex
  exact d_glob hg h1 h2 h3 hd⟩
noncomputable def fS (f : Str → Str → D) : D → D → Option D
  | .str i, .str j => some (f i j)
  | _, _ => none
theorem fS_some {f : Str → Str → D} {x y z : D} (h : fS f x y = some z) : ∃ i j, x = .str i ∧ y = .str j ∧ z = f i j := by
  cases x with
  | str i =>
    cases y with
    | str j => exact ⟨i, j, rfl, rfl, (Option.some.inj h).symm⟩
    | _ => cases h
  | _ => cases h
section
variable {X : Cx}
theorem o_eqS : DOp X (compareOp .Eq) (gF (fS fun i j => .bl (decide (i = j)))) := OpR.imp op_eq (by
  rintro x y H Q ⟨dx, dy, M, R, hx, hy, am, ⟨z, e, r⟩, f⟩
  obtain ⟨i, j, e1, e2, e3⟩ := fS_some e
  subst e1; subst e2; subst e3
  cases hx; cases hy
  refine ⟨rfl, ?_⟩
  have e : decide (V.str i = V.str j) = decide (i = j) := by simp
  rw [e]
  exact f _ M r _ H (KT.refl H) am (.bl _))
theorem o_neS : DOp X (compareOp .NotEq) (gF (fS fun i j => .bl (!decide (i = j)))) := OpR.imp op_ne (by
  rintro x y H Q ⟨dx, dy, M, R, hx, hy, am, ⟨z, e, r⟩, f⟩
  obtain ⟨i, j, e1, e2, e3⟩ := fS_some e
  subst e1; subst e2; subst e3
  cases hx; cases hy
  refine ⟨rfl, ?_⟩
  have e : decide (V.str i = V.str j) = decide (i = j) := by simp
  rw [e]
  exact f _ M r _ H (KT.refl H) am (.bl _))
end
end DL

namespace DL
open PySem PySem.Spec L2
open PyProof.Rows hiding St

structure Walk (K : PySem.W.Frag) (H1 : Hp) (J : It) (ds : List D) (stay : Mem → Prop) : Prop where
  go : ∀ i H' M', i < ds.length → KT H1 H' → AbsM K H' M' → stay M' → J.go i H'
  yld : ∀ i H' M' x H'', i < ds.length → KT H1 H' → AbsM K H' M' → stay M' → J.yld i H' x H'' → ∃ d, ds[i]? = some d ∧ KT H' H'' ∧ AbsM K H'' M' ∧ Has K H'' x d
  stop : ∀ i H' M', ds.length ≤ i → KT H1 H' → AbsM K H' M' → stay M' → J.stop i H'
  up : ∀ M' p o, stay M' → M' p = none → stay (updM M' p o)
noncomputable def upI (K : PySem.W.Frag) (ti : DTI) : TI := fun σ H R => ∃ e M R', EnvOk K H σ e ∧ AbsM K H M ∧ ti e M R' ∧ ∀ ds stay M1, R' ds stay M1 → ∀ H1, KT H H1 → AbsM K H1 M1 → ∀ J, Walk K H1 J ds stay → R J H1
noncomputable def DPI (X : Cx) (tg iter : Expr) (ti : DTI) : Prop := PI X tg iter (upI X.K ti)
structure JI (X : Cx) (tg iter : Expr) (ti : DTI) : Prop where
  out : DPI X tg iter ti
theorem PI.imp {X : Cx} {tg iter : Expr} {wi wi' : TI} (h : PI X tg iter wi) (i : ∀ σ H R, wi' σ H R → wi σ H R) : PI X tg iter wi' := fun pins s σ H R I q => h pins s σ H R I (i σ H R q)
section
variable {X : Cx} {tg iter : Expr} {ti : DTE} {ta : DTA}
theorem walk_tup {K : PySem.W.Frag} {H1 : Hp} {a : Addr} {xs : List V} {ds : List D} (s : SqT K H1 a xs) (l : HasL K H1 xs ds) : Walk K H1 (Itt K a) ds (fun _ => True) where
  go := fun i H' M' hi k _ _ => ⟨xs, _, k.sq s, List.getElem?_eq_getElem (by rw [l.length]; exact hi)⟩
  yld := fun i H' M' x H'' hi k am _ zz => by
    obtain ⟨e, y⟩ := zz
    subst e
    obtain ⟨d, hd, r⟩ := l.getV (y xs (k.sq s))
    exact ⟨d, hd, KT.refl _, am, r.mono k⟩
  stop := fun i H' M' hi k _ _ => ⟨xs, k.sq s, by rw [l.length]; exact hi⟩
  up := fun _ _ _ _ _ => trivial
theorem walk_lst {K : PySem.W.Frag} {H1 : Hp} {p : Addr} {ds : List D} : Walk K H1 (Itl K p) ds (fun M' => M' p = some (.lst ds)) where
  go := fun i H' M' hi k am st => by
    obtain ⟨ys, hy, ly⟩ := am.lst st
    exact ⟨ys, _, SqL.of hy, List.getElem?_eq_getElem (by rw [ly.length]; exact hi)⟩
  yld := fun i H' M' x H'' hi k am st zz => by
    obtain ⟨e, y⟩ := zz
    subst e
    obtain ⟨ys, hy, ly⟩ := am.lst st
    obtain ⟨d, hd, r⟩ := ly.getV (y ys (SqL.of hy))
    exact ⟨d, hd, KT.refl _, am, r⟩
  stop := fun i H' M' hi k am st => by
    obtain ⟨ys, hy, ly⟩ := am.lst st
    exact ⟨ys, SqL.of hy, by rw [ly.length]; exact hi⟩
  up := fun M' q o st hq => by rw [updM_ne (by intro e; subst e; rw [hq] at st; cases st)]; exact st
theorem walk_rng {K : PySem.W.Frag} {H1 : Hp} {lo : Int} {n : Nat} : Walk K H1 (Itr lo n) (rangeD lo n) (fun _ => True) where
  go := fun i H' M' hi k am st => by rw [rangeD_length] at hi; exact hi
  yld := fun i H' M' x H'' hi k am st zz => by
    obtain ⟨e, y⟩ := zz
    subst e; subst y
    rw [rangeD_length] at hi
    exact ⟨_, rangeD_get hi, KT.refl _, am, .int _⟩
  stop := fun i H' M' hi k am st => by rw [rangeD_length] at hi; exact hi
  up := fun _ _ _ _ _ => trivial
theorem jpd_rng {a : Expr} {p p2 : Pos} (hr : Gl X "range") (hm : X.mg "range" = none) (ha : JA X [a] ta) (hs0 : starEach [a] X.env = [(false, eval a X.env)] := by rfl) : JI X tg (.Call (.Name "range" p) [a] [] p2) (diRng ta) := ⟨have ha := ha.out; PI.imp (pi_range1 hr hm ha hs0) (by rintro σ H R ⟨e, M, R', ok, am, t, f⟩; exact ⟨e, M, _, ok, am, t, fun ds M1 ⟨j, z, b1, b2, r⟩ vs H1 k1 a1 r1 => by
    subst z
    obtain ⟨v, rfl, hv⟩ := r1.one
    cases hv
    exact ⟨j, rfl, b1, b2, f _ _ M1 r H1 k1 a1 _ walk_rng⟩⟩)⟩
noncomputable def seqD (M : Mem) (x : D) (ds : List D) : Prop := x = .tup ds ∨ (∃ p, x = .ref p ∧ M p = some (.lst ds)) ∨ x = .vl ds
noncomputable def kindD : D → Bool
  | .tup _ => false
  | _ => true
theorem seqD_has {K : PySem.W.Frag} {H : Hp} {M : Mem} {v : V} {x : D} {ds : List D} (h : seqD M x ds) (am : AbsM K H M) (r : Has K H v x) : ∃ a xs, v = .ref a ∧ SqK K (kindD x) H a xs ∧ HasL K H xs ds := by
  rcases h with rfl | ⟨p, rfl, m⟩ | rfl
  rotate_left 2
  · obtain ⟨a, xs, e, sq, l⟩ := r.il
    exact ⟨a, xs, e, sq, l⟩
  · cases r with
    | tup s l => exact ⟨_, _, rfl, s, l⟩
  · cases r
    obtain ⟨xs, hx, l⟩ := am.lst m
    exact ⟨p, xs, rfl, SqL.of hx, l⟩
theorem seqD_up {M : Mem} {x : D} {ds : List D} {q : Addr} {o : MO} (h : seqD M x ds) (hq : M q = none) : seqD (updM M q o) x ds := by
  rcases h with h | ⟨p, e, h⟩ | h
  · exact .inl h
  · exact .inr (.inl ⟨p, e, by rw [updM_ne (by intro e; subst e; rw [hq] at h; cases h)]; exact h⟩)
  · exact .inr (.inr h)
noncomputable def zipD (ds es : List D) : List D := List.zipWith (fun a b => .tup [a, b]) ds es
theorem zipD_length (ds es : List D) : (zipD ds es).length = min ds.length es.length := by simp [zipD]
theorem zipD_get {ds es : List D} {i : Nat} {a b : D} (h1 : ds[i]? = some a) (h2 : es[i]? = some b) : (zipD ds es)[i]? = some (.tup [a, b]) := by
  unfold zipD
  rw [List.getElem?_zipWith, h1, h2]
theorem walk_zip {K : PySem.W.Frag} {H1 : Hp} {x y : D} {l1 l2 : Addr} {ds es : List D} (h1 : Has K H1 (.ref l1) x) (h2 : Has K H1 (.ref l2) y) :
    Walk K H1 (Itz K (kindD x) (kindD y) l1 l2) (zipD ds es) (fun M' => seqD M' x ds ∧ seqD M' y es) where
  go := fun i H' M' hi k am zz => by
    obtain ⟨s1, s2⟩ := zz
    rw [zipD_length] at hi
    obtain ⟨a, xs, e1, q1, m1⟩ := seqD_has s1 am (h1.mono k)
    obtain ⟨b, ys, e2, q2, m2⟩ := seqD_has s2 am (h2.mono k)
    cases e1; cases e2
    exact ⟨xs, ys, _, _, q1, q2, List.getElem?_eq_getElem (by rw [m1.length]; omega), List.getElem?_eq_getElem (by rw [m2.length]; omega)⟩
  yld := fun i H' M' v H'' hi k am ⟨s1, s2⟩ ⟨T, a, b, hT, ev, eH, u1, u2⟩ => by
    subst ev; subst eH
    obtain ⟨a', xs, e1, q1, m1⟩ := seqD_has s1 am (h1.mono k)
    obtain ⟨b', ys, e2, q2, m2⟩ := seqD_has s2 am (h2.mono k)
    cases e1; cases e2
    obtain ⟨d1, g1, r1⟩ := m1.getV (u1 xs q1)
    obtain ⟨d2, g2, r2⟩ := m2.getV (u2 ys q2)
    have kt : KT H' (upd H' T (.tup [a, b])) := KT.alloc hT
    exact ⟨_, zipD_get g1 g2, kt, am.alloc hT, .tup (SqT.of upd_same) (.cons (r1.mono kt) (.cons (r2.mono kt) .nil))⟩
  stop := fun i H' M' hi k am zz => by
    obtain ⟨s1, s2⟩ := zz
    rw [zipD_length] at hi
    obtain ⟨a, xs, e1, q1, m1⟩ := seqD_has s1 am (h1.mono k)
    obtain ⟨b, ys, e2, q2, m2⟩ := seqD_has s2 am (h2.mono k)
    cases e1; cases e2
    refine ⟨xs, ys, q1, q2, ?_⟩
    rw [m1.length, m2.length]
    omega
  up := fun _ _ _ st hq => ⟨seqD_up st.1 hq, seqD_up st.2 hq⟩
noncomputable def diZip (ta : DTA) : DTI := fun e M R => ta e M fun xs M1 => ∃ x y ds es, xs = [x, y] ∧ seqD M1 x ds ∧ seqD M1 y es ∧ R (zipD ds es) (fun M' => seqD M' x ds ∧ seqD M' y es) M1
theorem jpd_zip {elts : List Expr} {kx : Nat} {tp : Pos} {a b : Expr} {p pos : Pos} (hg : Gl X "zip") (hm : X.mg "zip" = none) (ha : JA X [a, b] ta)
    (hs : starEach [a, b] X.env = [(false, eval a X.env), (false, eval b X.env)] := by rfl) (hs2 : starEach [b] X.env = [(false, eval b X.env)] := by rfl) : JI X (.Tuple elts kx tp) (.Call (.Name "zip" p) [a, b] [] pos) (diZip ta) := ⟨have ha := ha.out; PI.imp (pi_zip hg hm ha hs hs2) (by rintro σ H R ⟨e, M, R', ok, am, t, f⟩; exact ⟨e, M, _, ok, am, t, fun xs M1 ⟨x, y, ds, es, z, s1, s2, r⟩ vs H1 k1 a1 r1 => by
    subst z
    obtain ⟨v, v', rfl, hv, hv'⟩ := r1.two
    obtain ⟨a, zs, rfl, q1, m1⟩ := seqD_has s1 a1 hv
    obtain ⟨b, ws, rfl, q2, m2⟩ := seqD_has s2 a1 hv'
    exact ⟨_, _, a, b, rfl, ⟨zs, q1⟩, ⟨ws, q2⟩, f _ _ M1 r H1 k1 a1 _ (walk_zip hv hv')⟩⟩)⟩
end

section
variable {X : Cx} {tg iter : Expr} {body : List Stmt} {ti : DTI} {g : DTG} {tb : DTS} {pos : Pos}
theorem jds_forI (hp : PassesOwn (model X.prog X.w) X.A X.env X.xe) (hc : X.calm = true) (hi : JI X tg iter ti) (hg : JG X tg g) (hb : JSs X body tb)
    (hs : ∀ x, foldedSetIterable iter X.env x = pure x := by intro _; rfl) : JS X (.For tg iter body [] pos) (dFor ti g tb) := ⟨have hi := hi.out; have hg := hg.out; have hb := hb.out; (ps_for hp hc hi hg hb hs).imp (by rintro E σ H ⟨e, M, F, ok, am, t, f⟩; exact ⟨e, M, _, ok, am, t, fun ds stay M1 ⟨W, w0, hst, step, done⟩ H1 k1 a1 J wk => by
    refine ⟨fun i m σ' H' => m = ds.length - i ∧ i ≤ ds.length ∧ ∃ e' M', KT H1 H' ∧ EnvOk X.K H' σ' e' ∧ AbsM X.K H' M' ∧ W i e' M', ⟨ds.length, by simp, Nat.zero_le _, e, M1, KT.refl H1, ok.mono k1, a1, w0⟩, ?_⟩
    rintro i m σ2 H2 ⟨rfl, hi, e2, M2, k2, ok2, a2, w2⟩
    have st := hst i e2 M2 hi w2
    by_cases hlt : i < ds.length
    · refine .inr ⟨wk.go i H2 M2 hlt k2 a2 st, fun σ' H' => ∃ e' M', KT H1 H' ∧ EnvOk X.K H' σ' e' ∧ AbsM X.K H' M' ∧ W (i + 1) e' M', fun σ' H' h => ⟨ds.length - (i + 1), by omega, rfl, hlt, h⟩, fun y H' yl => ?_⟩
      obtain ⟨d, hd, k3, a3, r⟩ := wk.yld i H2 M2 y H' hlt k2 a2 st yl
      exact for_turn f k1 (k2.trans k3) (ok2.mono k3) a3 r (step i d e2 M2 hd w2)
    · have e' : i = ds.length := by omega
      subst e'
      exact .inl ⟨wk.stop _ H2 M2 (Nat.le_refl _) k2 a2 st, f.nx e2 M2 (done e2 M2 w2) σ2 H2 (k1.trans k2) a2 ok2⟩⟩)⟩
end

noncomputable def capE (n : Nat) (caps : List Nat) (e : Ev) : Ev := List.replicate n none ++ caps.map fun i => (e[i]?).getD none
theorem env_cap {K : PySem.W.Frag} {H : Hp} {σ : St} {e : Ev} (n : Nat) (caps : List Nat) (ok : EnvOk K H σ e) : EnvOk K H (capF n caps σ) (capE n caps e) := by
  refine ⟨by simp [capF, capE], fun i d h => ?_⟩
  unfold capE at h
  unfold capF
  rw [List.getElem?_append] at h ⊢
  rw [List.length_replicate] at h ⊢
  by_cases hi : i < n
  · rw [if_pos hi] at h
    rw [List.getElem?_replicate] at h
    split at h <;> cases h
  · rw [if_neg hi] at h ⊢
    rw [List.getElem?_map] at h ⊢
    cases hj : caps[i - n]? with
    | none => rw [hj] at h; cases h
    | some j =>
      rw [hj] at h
      have h' : (e[j]?).getD none = some d := by simpa using h
      have he : e[j]? = some (some d) := by
        cases q : e[j]? with
        | none => rw [q] at h'; cases h'
        | some z => rw [q] at h'; rw [show z = some d by simpa using h']
      obtain ⟨v, h1, h2⟩ := ok.has j d he
      exact ⟨v, by simp [h1], h2⟩
end DL

namespace DL
open PySem PySem.Spec L2
open PyProof.Rows hiding St

noncomputable def subT2 (t T1 T2 : String) : Option Bool := match subT t T1 with
  | some true => some true
  | some false => subT t T2
  | none => none
theorem subT2_kit {K : PySem.W.Frag} (hk : SubOk K) {t T1 T2 : String} {b : Bool} (h : subT2 t T1 T2 = some b) : PySem.W.kitAny K (.type t) [.type T1, .type T2] = some b := by
  unfold subT2 at h
  unfold PySem.W.kitAny
  cases e : subT t T1 with
  | none => rw [e] at h; cases h
  | some c =>
    rw [e] at h
    rw [hk t T1 c e]
    cases c with
    | true => exact h
    | false =>
      dsimp only at h ⊢
      unfold PySem.W.kitAny
      rw [hk t T2 b h]
      cases b <;> rfl
section
variable {X : Cx}
noncomputable def gIsi2 : DRC := fun ds M R => ∃ d t T1 T2 b, ds = [d, .tup [.ty T1, .ty T2]] ∧ tyD M d = some t ∧ subT2 t T1 T2 = some b ∧ R (.bl b) M
theorem c_isi2 (hk : SubOk X.K) : DCall X (.builtin "isinstance") gIsi2 := by
  intro pins s σ H xs us Q I rv h
  obtain ⟨ds, M, R, hl, am, ⟨d, t, T1, T2, b, rfl, ht, hb, r⟩, f⟩ := h
  obtain ⟨v, v', rfl, h1, h2⟩ := hl.two
  cases h2 with
  | tup sT lT =>
    obtain ⟨u, w', rfl, r1, r2⟩ := vals2 rv
    cases (show w' = Value.ref _ from r2)
    obtain ⟨a1, a2, rfl, q1, q2⟩ := lT.two
    cases q1; cases q2
    obtain ⟨its, rT, ⟨o, e1, e2, n, e3⟩, _⟩ := I.tuple sT
    obtain ⟨t1, t2, rfl, w1, w2⟩ := vals2 rT
    cases (show t1 = Value.type T1 from w1)
    cases (show t2 = Value.type T2 from w2)
    obtain ⟨cls, dd, data, sl⟩ := o
    simp only at e2 e3
    subst e2; subst e3
    have e := subT2_kit hk hb
    have fin : ∀ tk, EP X pins σ Q (.bool b) { s with toks := tk } := fun tk => ⟨.bl b, H, I.tok tk, rfl, f _ M r _ H (KT.refl H) am (.bl b)⟩
    cases h1 with
    | non => cases ht; cases (show u = Value.none from r1); exact PySem.W.kia_tup PySem.W.kitx_none I.kIn trivial e1 e (fun z => nomatch z) fin
    | bl q => cases ht; cases (show u = Value.bool q from r1); exact PySem.W.kia_tup PySem.W.kitx_bool I.kIn trivial e1 e (fun z => nomatch z) fin
    | int q => cases ht; obtain ⟨tk, rfl⟩ := r1; exact PySem.W.kia_tup PySem.W.kitx_int I.kIn trivial e1 e (fun z => nomatch z) fin
    | str q => cases ht; obtain ⟨tk, rfl⟩ := r1; exact PySem.W.kia_tup PySem.W.kitx_str I.kIn trivial e1 e (fun z => nomatch z) fin
    | ty q => cases ht
    | ref p =>
      unfold tyD at ht
      cases q : M p with
      | none => simp [q] at ht
      | some o =>
        cases o with
        | lst es =>
          simp only [q] at ht
          cases ht
          obtain ⟨ys, hy, _⟩ := am.lst q
          cases (show u = Value.ref _ from r1)
          obtain ⟨its2, _, ⟨o2, n2, g1, g2, _⟩, _⟩ := I.list (SqL.of (K := X.K) hy)
          exact PySem.W.kia_tup PySem.W.kitx_list I.kIn ⟨o2, g1, g2⟩ e1 e (fun z => nomatch z) fin
    | tup s' l =>
      cases ht
      cases (show u = Value.ref _ from r1)
      obtain ⟨its2, _, ⟨o2, g1, g2, _⟩, _⟩ := I.tuple s'
      exact PySem.W.kia_tup PySem.W.kitx_tuple I.kIn ⟨o2, g1, g2⟩ e1 e (fun z => nomatch z) fin
    | vl hq hl' =>
      cases ht
      cases (show u = Value.ref _ from r1)
      obtain ⟨_, _, ea, sq, _⟩ := Has.il (.vl hq hl')
      cases ea
      obtain ⟨its2, _, ⟨o2, n2, g1, g2, _⟩, _⟩ := I.list sq
      exact PySem.W.kia_tup PySem.W.kitx_list I.kIn ⟨o2, g1, g2⟩ e1 e (fun z => nomatch z) fin
    | dic hq =>
      cases ht
      cases (show u = Value.ref _ from r1)
      obtain ⟨o2, g1, g2⟩ := hq
      exact PySem.W.kia_tup PySem.W.kitx_dict I.kIn ⟨o2, (I.hok _ _ g1).1, g2⟩ e1 e (fun z => nomatch z) fin
    | exc hq => cases ht

noncomputable def iSeq (K : PySem.W.Frag) (tl : TE) : TI := fun σ H R => tl σ H fun x H1 => ∃ (a : Addr) (k : Bool), x = .ref a ∧ (∃ xs, SqK K k H1 a xs) ∧ R (if k = true then Itl K a else Itt K a) H1
theorem pi_seq {tg l : Expr} {tl : TE} (hl : PE X l tl) : PI X tg l (iSeq X.K tl) := by
  intro pins s σ H R I h
  refine thn (hl pins s σ H _ I h) fun v s1 zz => ?_
  obtain ⟨x, H1, I1, r1, q1⟩ := zz
  obtain ⟨a, k, e, ⟨xs, hq⟩, q⟩ := q1
  subst e
  cases r1
  obtain ⟨its, rv, p⟩ := I1.sqk hq
  have nf : ∀ b ∈ [s1.heap.objs.size], FpOk X pins H1 b := fun b hb => by
    have e : b = s1.heap.objs.size := by simpa using hb
    subst e
    exact I1.fpOk (Nat.le_refl _) (I1.hok.fresh (Nat.le_refl _))
  cases k with
  | true => exact wpAny_pyIter_list p ⟨s1.heap.objs.size, [s1.heap.objs.size], _, _, H1, rfl, I1.kept (t' := s1.toks) fun b o e => Heap.get?_push_of_some _ e, turn_list a _, ⟨_, Heap.get?_push_size _ rfl, rfl, rfl⟩, nf, q⟩
  | false => exact wpAny_pyIter_tuple p ⟨s1.heap.objs.size, [s1.heap.objs.size], _, _, H1, rfl, I1.kept (t' := s1.toks) fun b o e => Heap.get?_push_of_some _ e, turn_tuple a _, ⟨_, Heap.get?_push_size _ rfl, rfl, rfl⟩, nf, q⟩
noncomputable def diSeq (ti : DTE) : DTI := fun e M R => ti e M fun x M1 => ∃ ds, seqD M1 x ds ∧ R ds (fun M' => seqD M' x ds) M1
theorem jpd_seq {tg iter : Expr} {ti : DTE} (hi : JE X iter ti) : JI X tg iter (diSeq ti) := ⟨have hi := hi.out; PI.imp (pi_seq hi) (by rintro σ H R ⟨e, M, R', ok, am, t, f⟩; exact ⟨e, M, _, ok, am, t, fun x M1 ⟨ds, sq, r⟩ v H1 k1 a1 r1 => by
  have sq' := sq
  rcases sq with rfl | ⟨p, rfl, hm⟩ | rfl
  rotate_left 2
  · obtain ⟨a, xs, rfl, sq, l⟩ := r1.il
    have wk : Walk X.K H1 (Itl X.K a) ds (fun M' => seqD M' (.vl ds) ds) := ⟨fun i H' M' hi k am _ => by
        obtain ⟨a', ys, e, sq', l'⟩ := (r1.mono k).il
        cases e
        exact ⟨ys, _, sq', List.getElem?_eq_getElem (by rw [l'.length]; exact hi)⟩,
      fun i H' M' x H'' hi k am _ zz => by
        obtain ⟨e, y⟩ := zz
        subst e
        obtain ⟨a', ys, e, sq', l'⟩ := (r1.mono k).il
        cases e
        obtain ⟨d, hd, r⟩ := l'.getV (y ys sq')
        exact ⟨d, hd, KT.refl _, am, r⟩,
      fun i H' M' hi k am _ => by
        obtain ⟨a', ys, e, sq', l'⟩ := (r1.mono k).il
        cases e
        exact ⟨ys, sq', by rw [l'.length]; exact hi⟩, fun _ _ _ st hq => seqD_up st hq⟩
    exact ⟨a, true, rfl, ⟨xs, sq⟩, f ds _ M1 r H1 k1 a1 _ wk⟩
  · cases r1 with
    | tup s l =>
      refine ⟨_, false, rfl, ⟨_, s⟩, f ds _ M1 r H1 k1 a1 _ ?_⟩
      have w := walk_tup (K := X.K) s l
      exact ⟨fun i H' M' a b c _ => w.go i H' M' a b c trivial, fun i H' M' y H2 a b c _ g => w.yld i H' M' y H2 a b c trivial g, fun i H' M' a b c _ => w.stop i H' M' a b c trivial, fun _ _ _ st hq => seqD_up st hq⟩
  · cases r1
    obtain ⟨xs, hx, l⟩ := a1.lst hm
    refine ⟨p, true, rfl, ⟨xs, SqL.of hx⟩, f ds _ M1 r H1 k1 a1 _ ?_⟩
    have w := walk_lst (K := X.K) (H1 := H1) (p := p) (ds := ds)
    have cv : ∀ {M' : Mem}, seqD M' (.ref p) ds → M' p = some (.lst ds) := fun z => by
      rcases z with z | ⟨p', z, h⟩ | z
      · cases z
      · cases z; exact h
      · cases z
    exact ⟨fun i H' M' a b c z => w.go i H' M' a b c (cv z), fun i H' M' y H2 a b c z g => w.yld i H' M' y H2 a b c (cv z) g, fun i H' M' a b c z => w.stop i H' M' a b c (cv z), fun _ _ _ st hq => seqD_up st hq⟩⟩)⟩
end

theorem gl_int {K : PySem.W.Frag} {mg : Str → Option Value} {h : Heap} {x : Str} {i : Int} {t : Tok} (X : K.In h) (G : h.Ns mainGlobals mg) (n : PySem.W.nsIn K mainGlobals x = some (some (.int i t))) : GlD K mg x (.int i) :=
  ⟨.int i, .int i t, PySem.W.mg_of X G n, ⟨t, rfl⟩, fun _ => .int i⟩
theorem lenD_lst {M : Mem} {p : Addr} {ds : List D} (h : M p = some (.lst ds)) : lenD M (.ref p) = some ds.length := by
  unfold lenD; simp only [h]
theorem atI_mem {ds : List D} {r : Int} (h0 : 0 ≤ r) (h1 : r < ds.length) : ∃ d, atI ds r = some d ∧ d ∈ ds := by
  unfold atI ixN
  rw [if_pos h0, if_pos h1]
  have hl : r.toNat < ds.length := by omega
  exact ⟨ds[r.toNat], by simp [hl], List.getElem_mem hl⟩
section
variable {X : Cx}
end
section
variable {X : Cx}
noncomputable def gAppend : DRM := fun x xs M R => ∃ l ds v, x = .ref l ∧ xs = [v] ∧ M l = some (.lst ds) ∧ ds.length < sizeLine ∧ R .non (updM M l (.lst (ds ++ [v])))
theorem dm_append : DMt X "list.append" gAppend := MtR.imp (r := rAppend) mt_append (by
  rintro x xs H Q ⟨dx, ds, M, R, hx, hl, am, ⟨l, es, v, e1, e2, hM, hz, r⟩, f⟩
  subst e1; subst e2
  cases hx
  obtain ⟨w, rfl, hw⟩ := hl.one
  obtain ⟨ys, hy, ly⟩ := am.lst hM
  exact ⟨l, ys, w, rfl, rfl, hy, by rw [ly.length]; exact hz, f _ _ r _ _ (KT.write hy) (am.write hy (ly.append (.cons hw .nil))) .non⟩)
end
end DL

namespace DL
open PySem PySem.Spec L2
open PyProof.Rows hiding St
theorem tyD_lst {M : Mem} {p : Addr} {ds : List D} (h : M p = some (.lst ds)) : tyD M (.ref p) = some "list" := by
  unfold tyD; simp only [h]
section
variable {X : Cx}
end
end DL

namespace DL
open PySem PySem.Spec L2
open PyProof.Rows hiding St

noncomputable abbrev DTO := Ev → Mem → (Option Int → Mem → Prop) → Prop
noncomputable def upO (K : PySem.W.Frag) (t : DTO) : TO := fun σ H Q => ∃ e M R, EnvOk K H σ e ∧ AbsM K H M ∧ t e M R ∧ ∀ o M', R o M' → ∀ H', KT H H' → AbsM K H' M' → Q o H'
noncomputable def DPO (X : Cx) (e : Option Expr) (t : DTO) : Prop := PO X e (upO X.K t)
structure JO (X : Cx) (e : Option Expr) (t : DTO) : Prop where
  out : DPO X e t
noncomputable def dNoPart : DTO := fun _ M R => R none M
noncomputable def dPart (t : DTE) : DTO := fun e M R => t e M fun x M1 => ∃ i, x = .int i ∧ R (some i) M1
theorem PO.imp {X : Cx} {e : Option Expr} {t t' : TO} (h : PO X e t) (i : ∀ σ H Q, t' σ H Q → t σ H Q) : PO X e t' := fun pins s σ H Q I q => h pins s σ H Q I (i σ H Q q)
section
variable {X : Cx} {e : Expr} {te : DTE} {lo hi : Option Expr} {tl th : DTO} {pos p2 : Pos}
theorem jdpo_none  : JO X none dNoPart := ⟨PO.imp po_none (by rintro σ H Q ⟨e, M, R, ok, am, t, f⟩; exact f none M t H (KT.refl H) am)⟩
theorem jdpo_some (h : JE X e te) : JO X (some e) (dPart te) := ⟨have h := h.out; PO.imp (po_some h) (by rintro σ H Q ⟨e, M, R, ok, am, t, f⟩; exact ⟨e, M, _, ok, am, t, fun x M1 ⟨i, z, r⟩ v H1 k1 a1 r1 => by
  subst z; cases r1
  exact ⟨i, rfl, f (some i) M1 r H1 k1 a1⟩⟩)⟩
end
end DL

namespace DL
open PySem PySem.Spec L2
open PyProof.Rows hiding St

section
variable {X : Cx} {ta : DTA}
end
end DL

namespace DL
open PySem PySem.Spec L2
open PyProof.Rows hiding St

noncomputable def delM (M : Mem) (a : Addr) : Mem := fun b => if b = a then none else M b
theorem delM_ne {M : Mem} {a b : Addr} (h : b ≠ a) : delM M a b = M b := by unfold delM; rw [if_neg h]
section
variable {K : PySem.W.Frag} {H : Hp} {M : Mem} {p : Addr}
theorem AbsM.at {o : HO} (h : AbsM K H M) (k : KT0 H (upd H p o)) (hp : M p = none) : AbsM K (upd H p o) M := fun a u m => by
  cases u with
  | lst ds =>
    obtain ⟨xs, z, l⟩ := h a _ m
    have hn : a ≠ p := by intro e; subst e; rw [hp] at m; cases m
    exact ⟨xs, by rw [upd_ne hn]; exact z, l.mono0 k⟩
theorem AbsM.del (h : AbsM K H M) : AbsM K H (delM M p) := fun a u m => by
  by_cases e : a = p
  · subst e; unfold delM at m; rw [if_pos rfl] at m; cases m
  · rw [delM_ne e] at m; exact h a u m
theorem AbsM.none_ext {φ : Heap → Prop} (h : AbsM K H M) (e : H p = some (.ext φ)) : M p = none := by
  cases q : M p with
  | none => rfl
  | some o =>
    cases o with
    | lst ds => obtain ⟨xs, z, _⟩ := h p _ q; rw [e] at z; cases z
end
section
variable {X : Cx} {x : Expr} {t : DTE} {es : List Expr} {tr : DTA} {pos : Pos}
noncomputable def dFgt (t : DTE) : DTE := fun e M R => t e M fun x M1 => ∃ M2 : Mem, (∀ b o, M2 b = some o → M1 b = some o) ∧ R x M2
theorem jd_fgt (h : JE X x t) : JE X x (dFgt t) := ⟨have h := h.out; PE.imp h (by rintro σ H Q ⟨e, M, R, ok, am, t, f⟩; exact ⟨e, M, _, ok, am, t, fun d M1 ⟨M2, hs, r⟩ v H1 k1 a1 r1 => f d M2 r v H1 k1 (fun a o q => a1 a o (hs a o q)) r1⟩)⟩
noncomputable def dLstV (t : DTA) : DTE := fun e M R => t e M fun ds M1 => ds.length ≤ sizeLine ∧ R (.vl ds) M1
theorem frz_new {K : PySem.W.Frag} {H0 H : Hp} {M : Mem} {R : DK} {Q : VK} {vs : List V} {ds : List D} (f : FitV K H0 R Q) (k : KT H0 H) (am : AbsM K H M) (l : HasL K H vs ds) (r : R (.vl ds) M) (p : Addr) (hp : H p = none) :
    ∃ q xs, V.ref p = .ref q ∧ upd H p (.lst vs) q = some (.lst xs) ∧ ∀ o, Q (.ref p) (upd (upd H p (.lst vs)) q (.frz o (.lst xs))) :=
  ⟨p, vs, rfl, upd_same, fun o => by
    rw [upd_upd]
    exact f _ M r _ _ (k.trans (KT.alloc hp)) (am.alloc hp) (.vl (.inl ⟨o, upd_same⟩) (l.mono (KT.alloc hp)))⟩
theorem jd_lstV (h : JA X es tr) : JE X (.List es pos) (dLstV tr) := ⟨have h := h.out; (pe_frz (pe_lst h)).imp (by rintro σ H Q ⟨e, M, R, ok, am, t, f⟩; exact ⟨e, M, _, ok, am, t, fun ds M1 ⟨hz, h1⟩ vs H1 k1 a1 r1 => ⟨by rw [r1.length]; exact hz, fun p hp => frz_new f k1 a1 r1 h1 p hp⟩⟩)⟩
noncomputable def gCatV (x y : D) (M : Mem) (R : DK) : Prop := ∃ xs ys, itemsD M x = some xs ∧ itemsD M y = some ys ∧ xs.length + ys.length ≤ sizeLine ∧ R (.vl (xs ++ ys)) M
noncomputable def dCatV (ta tb : DTE) : DTE := fun e M R => ta e M fun x M1 => tb e M1 fun y M2 => gCatV x y M2 R
theorem jd_catV {a b : Expr} {ta tb : DTE} (ha : JE X a ta) (hb : JE X b tb) : JE X (.BinOp a .Add b pos) (dCatV ta tb) := ⟨have ha := ha.out; have hb := hb.out; (pe_frz (pe_op op_catS ha hb)).imp (by rintro σ H Q ⟨e, M, R, ok, am, t, f⟩; exact ⟨e, M, _, ok, am, t, fun x M1 h1 v H1 k1 a1 r1 => ⟨e, M1, _, ok.mono k1, a1, h1, fun y M2 ⟨xs, ys, e1, e2, hz, r⟩ u H2 k2 a2 r2 => by
    obtain ⟨a, vs, rfl, s1, l1⟩ := itemsD_has a2 (r1.mono k2) e1
    obtain ⟨b, ws, rfl, s2, l2⟩ := itemsD_has a2 r2 e2
    exact ⟨a, b, vs, ws, rfl, rfl, s1, s2, by rw [l1.length, l2.length]; exact hz, fun p hp => frz_new f (k1.trans k2) a2 (l1.append l2) r p hp⟩⟩⟩)⟩
end
section
variable {X : Cx} {e : Expr} {es : List Expr} {t : DTA} {x : Str} {p pos : Pos}
variable {te : DTE} {pos' : Pos}
end
section
variable {X : Cx}

end

noncomputable abbrev DTIfs := Ev → Mem → (Bool → Mem → Prop) → Prop
noncomputable abbrev DPIfs (X : Cx) (ifs : List Expr) (t : DTIfs) : Prop := PIfs X ifs (upT X.K t)
structure JIfs (X : Cx) (ifs : List Expr) (t : DTIfs) : Prop where
  out : DPIfs X ifs t
noncomputable def dYes : DTIfs := fun _ M R => R true M
theorem PIfs.imp {X : Cx} {ifs : List Expr} {t t' : TT} (h : PIfs X ifs t) (i : ∀ σ H Q, t' σ H Q → t σ H Q) : PIfs X ifs t' := fun pins s σ H Q I q => h pins s σ H Q I (i σ H Q q)
theorem jdifs_nil {X : Cx} : JIfs X [] dYes := ⟨PIfs.imp pifs_nil (by rintro σ H Q ⟨e, M, R, ok, am, t, f⟩; exact f true M t H (KT.refl H) am)⟩
theorem jdifs_one {X : Cx} {c : Expr} {t : DTT} (h : JT X c t) : JIfs X [c] t := ⟨have h := h.out; pifs_one h⟩
structure CompW (e0 : Ev) (g : DTG) (tc : DTIfs) (te : DTE) (ds : List D) (stay : Mem → Prop) (M1 : Mem) (E : List D → Mem → Prop) (W : Nat → List D → Mem → Prop) : Prop where
  start : W 0 [] M1
  stays : ∀ i ys M, i ≤ ds.length → W i ys M → stay M
  turn : ∀ (i : Nat) (d : D) ys M, ds[i]? = some d → W i ys M → g d e0 M fun e2 M2 => tc e2 M2 fun b M3 => if b = true then te e2 M3 fun v M4 => ys.length < sizeLine ∧ W (i + 1) (ys ++ [v]) M4 else W (i + 1) ys M3
  done : ∀ ys M, W ds.length ys M → E ys M
noncomputable def CompV (e0 : Ev) (g : DTG) (tc : DTIfs) (te : DTE) (ds : List D) (stay : Mem → Prop) (M1 : Mem) (R : DK) : Prop := ∃ W, CompW e0 g tc te ds stay M1 (fun ys M => R (.vl ys) M) W
noncomputable def dCompV (n : Nat) (caps : List Nat) (ti : DTI) (g : DTG) (tc : DTIfs) (te : DTE) : DTE := fun e M R => ti e M fun ds stay M1 => CompV (capE n caps e) g tc te ds stay M1 R
section
variable {X : Cx} {elt tg iter : Expr} {scope : Scope} {tgs cps : List Str} {caps : List Nat} {ti : DTI} {g : DTG} {tc : DTIfs} {te : DTE} {pos : Pos} {ifs : List Expr}
noncomputable def CWH (K : PySem.W.Frag) (H1 : Hp) (D0 : Addr) (len : Nat) (W : Nat → List D → Mem → Prop) (i m : Nat) (H' : Hp) : Prop := m = len - i ∧ i ≤ len ∧ ∃ M' ys xs, KT H1 H' ∧ AbsM K H' M' ∧ H' D0 = some (.lst xs) ∧ M' D0 = none ∧ HasL K H' xs ys ∧ W i ys M'
theorem comp_loop {K : PySem.W.Frag} {H1 : Hp} {J : It} {ds : List D} {stay : Mem → Prop} {M1 : Mem} {n : Nat} {caps : List Nat} {σ : St} {e : Ev} {E : List D → Mem → Prop} {W : Nat → List D → Mem → Prop} {D0 : Addr} {Qd : Hp → Prop} (ok : EnvOk K H1 σ e) (a1 : AbsM K H1 M1) (wk : Walk K H1 J ds stay) (hD : H1 D0 = none)
    (C : CompW (capE n caps e) g tc te ds stay M1 E W) (fin : ∀ ys M xs H', KT H1 H' → AbsM K H' M → H' D0 = some (.lst xs) → M D0 = none → HasL K H' xs ys → E ys M → Qd H') (i m : Nat) (H2 : Hp) (w : CWH K H1 D0 ds.length W i m H2) :
    (J.stop i H2 ∧ Qd H2) ∨ (J.go i H2 ∧ ∀ x H', J.yld i H2 x H' → (∃ p, tHideG p (upG K g) x (capF n caps σ) H' fun σ2 H3 => ∃ p, tHideT p (upT K tc) σ2 H3 fun b H3' => if b = true then ∃ p, tHide p (up K te) σ2 H3' fun v H4 =>
      ∃ ys, H4 D0 = some (.lst ys) ∧ ys.length < sizeLine ∧ ∃ m', m' < m ∧ CWH K H1 D0 ds.length W (i + 1) m' (upd H4 D0 (.lst (ys ++ [v]))) else ∃ m', m' < m ∧ CWH K H1 D0 ds.length W (i + 1) m' H3')) := by
  obtain ⟨rfl, hi, M2, ys, xs, k2, a2, hx, hM, lx, w2⟩ := w
  have a2' : AbsM K H2 (updM M2 D0 (.lst ys)) := fun a o q => by
    by_cases e : a = D0
    · subst e; rw [updM_same] at q; cases q; exact ⟨xs, hx, lx⟩
    · rw [updM_ne e] at q; exact a2 a o q
  have st := wk.up _ D0 (.lst ys) (C.stays i ys M2 hi w2) hM
  by_cases hlt : i < ds.length
  · refine .inr ⟨wk.go i H2 _ hlt k2 a2' st, fun y H' yl => ?_⟩
    obtain ⟨d, hd, k3, a3', r⟩ := wk.yld i H2 _ y H' hlt k2 a2' st yl
    obtain ⟨xs', hx', lx'⟩ := a3'.lst updM_same
    have a3 : AbsM K H' M2 := fun a o q => by
      have e : a ≠ D0 := by intro e; subst e; rw [hM] at q; cases q
      exact a3' a o (by rw [updM_ne e]; exact q)
    have kh : KT H' (upd H' D0 (hidO D0 xs')) := KT.any hx'
    have k1h := (k2.trans k3).trans kh
    have same : ∀ {H3 : Hp}, H3 D0 = some (hidO D0 xs') → upd (upd H3 D0 (.lst xs')) D0 (hidO D0 xs') = H3 := fun {H3} q => by
      rw [upd_upd]; funext b; by_cases e : b = D0
      · subst e; rw [upd_same, q]
      · rw [upd_ne e]
    refine ⟨D0, xs', hx', d, capE n caps e, M2, _, r.mono kh, env_cap n caps (ok.mono k1h), a3.at kh.toKT0 hM, C.turn i d ys M2 hd w2, fun e3 M3 h3 σ3 H3 k4 a4 ok3 => ?_⟩
    have q3 : H3 D0 = some (hidO D0 xs') := k4.ex D0 _ upd_same
    refine ⟨q3, D0, xs', upd_same, ?_⟩
    rw [same q3]
    refine ⟨e3, M3, _, ok3, a4, h3, fun b M4 h4 H4 k5 a5 => ?_⟩
    have q4 : H4 D0 = some (hidO D0 xs') := k5.ex D0 _ q3
    refine ⟨q4, ?_⟩
    have kk := k1h.trans (k4.trans k5)
    cases b with
    | false =>
      have h4' : W (i + 1) ys M4 := h4
      show ∃ m', m' < ds.length - i ∧ CWH K H1 D0 ds.length W (i + 1) m' (upd H4 D0 (.lst xs'))
      exact ⟨ds.length - (i + 1), by omega, rfl, hlt, M4, ys, xs', kk.new hD, a5.at (KT0.ext q4) (a5.none_ext q4), upd_same, a5.none_ext q4, (lx'.mono (kh.trans (k4.trans k5))).mono0 (KT0.ext q4), h4'⟩
    | true =>
      show ∃ p, tHide p (up K te) σ3 (upd H4 D0 (.lst xs')) _
      refine ⟨D0, xs', upd_same, ?_⟩
      rw [same q4]
      refine ⟨e3, M4, _, ok3.mono k5, a5, h4, fun dv M5 ⟨hz, w5⟩ vv H5 k6 a6 r6 => ?_⟩
      have q5 : H5 D0 = some (hidO D0 xs') := k6.ex D0 _ q4
      refine ⟨q5, xs', upd_same, by rw [lx'.length]; exact hz, ds.length - (i + 1), by omega, rfl, hlt, M5, ys ++ [dv], xs' ++ [vv], ?_, ?_, upd_same, a6.none_ext q5, ?_, w5⟩
      · rw [upd_upd]; exact (kk.trans k6).new hD
      · rw [upd_upd]; exact a6.at (KT0.ext q5) (a6.none_ext q5)
      · rw [upd_upd]; exact ((lx'.mono (kh.trans (k4.trans (k5.trans k6)))).mono0 (KT0.ext q5)).append (.cons (r6.mono0 (KT0.ext q5)) .nil)
  · have e' : i = ds.length := by omega
    subst e'
    exact .inl ⟨wk.stop _ H2 _ (Nat.le_refl _) k2 a2' st, fin ys M2 xs H2 k2 a2 hx hM lx (C.done ys M2 w2)⟩
theorem jd_compV (caps : List Nat) (tgs cps : List Str) (hc : X.calm = true) (hcell : ∀ x ∈ scope.names, x.2 ≠ .cell) (hkind : scope.kind = .function) (hnames : ∀ x ∈ scope.names, x.2 = .local → scope.names.lookup x.1 = some .local)
    (hfr : ∀ x ∈ scope.names, x.2 = .free → x.1 ∈ cps) (hN : caps.map (fun i => X.N[i]?) = cps.map some) (hX : ∀ x ∈ cps, X.env.scope.names.lookup x = some .cell ∧ scope.names.lookup x = some .free)
    (hsc : ∀ x ∈ cps, (relabel scope X.env).names.lookup x = some .cell ∨ (relabel scope X.env).names.lookup x = some .free)
    (hi : JI X tg iter ti) (hg : ∀ cl s3 H3 C fp pins, JG (cxF X scope cl (tgs ++ cps) s3 H3 C fp pins) tg g) (hq : ∀ cl s3 H3 C fp pins, JIfs (cxF X scope cl (tgs ++ cps) s3 H3 C fp pins) ifs tc) (he : ∀ cl s3 H3 C fp pins, JE (cxF X scope cl (tgs ++ cps) s3 H3 C fp pins) elt te)
    (hs : ∀ x, foldedSetIterable iter X.env x = pure x := by intro _; rfl) : JE X (.ListComp elt [⟨tg, iter, ifs, 0⟩] scope pos) (dCompV tgs.length caps ti g tc te) := ⟨have hi := hi.out; have hg := fun v0 v1 v2 v3 v4 v5 => (hg v0 v1 v2 v3 v4 v5).out; have hq := fun v0 v1 v2 v3 v4 v5 => (hq v0 v1 v2 v3 v4 v5).out; have he := fun v0 v1 v2 v3 v4 v5 => (he v0 v1 v2 v3 v4 v5).out; (pe_frz (pe_compF (tgs := tgs) (cps := cps) (caps := caps) hc hcell hkind hnames hfr hN hX hsc hi (fun cl s3 H3 C fp pins => pg_hide (hg cl s3 H3 C fp pins)) (fun cl s3 H3 C fp pins => pifs_hide (hq cl s3 H3 C fp pins)) (fun cl s3 H3 C fp pins => pe_hide (he cl s3 H3 C fp pins)) hs)).imp (by rintro σ H Q ⟨e, M, R, ok, am, t, f⟩; exact ⟨e, M, _, ok, am, t, fun ds stay M1 hW H1 k1 a1 J wk => by
    intro D0 hD
    obtain ⟨W, C⟩ := hW
    refine ⟨fun i m H' => CWH X.K H1 D0 ds.length W i m H', ⟨ds.length, by simp, Nat.zero_le _, M1, [], [], KT.alloc hD, a1.alloc hD, upd_same, a1.fresh hD, .nil, C.start⟩, fun i m H2 w => comp_loop (Qd := fun H' => ∃ p xs, V.ref D0 = .ref p ∧ H' p = some (.lst xs) ∧ ∀ o, Q (.ref D0) (upd H' p (.frz o (.lst xs)))) (ok.mono k1) a1 wk hD C (fun ys M2 xs H' k2 a2 hx hM lx r => ?_) i m H2 w⟩
    exact ⟨D0, xs, rfl, hx, fun o => f _ M2 r _ _ (k1.trans (k2.trans (KT.any hx))) (a2.at (KT.any hx).toKT0 hM) (.vl (.inl ⟨o, upd_same⟩) (lx.mono (KT.any hx)))⟩⟩)⟩
end
section
variable {X : Cx} {e : Expr} {te : DTE} {p1 p2 pos pos2 : Pos}
theorem SqL.upd {K : PySem.W.Frag} {H : Hp} {a it : Addr} {xs : List V} {o : HO} (h : SqL K H a xs) (ne : a ≠ it) : SqL K (upd H it o) a xs := h.elim (fun z => .inl (by unfold Rd at z ⊢; rw [upd_ne ne]; exact z)) .inr
theorem SqK.upd {K : PySem.W.Frag} {k : Bool} {H : Hp} {a it : Addr} {xs : List V} {o : HO} (h : SqK K k H a xs) (ne : a ≠ it) : SqK K k (L2.upd H it o) a xs := by
  cases k with
  | true => exact SqL.upd (show SqL K H a xs from h) ne
  | false => exact (show SqT K H a xs from h).elim (fun z => .inl (by unfold Rd at z ⊢; rw [upd_ne ne]; exact z)) .inr
end
end DL
namespace L2
open PySem PySem.Spec PyProof.Rows

section
variable {X : Cx} {pos : Pos}
end
end L2
namespace DL
open PySem PySem.Spec L2
open PyProof.Rows hiding St
end DL

namespace DL
open PySem PySem.Spec L2
open PyProof.Rows hiding St

section
variable {X : Cx}
end
end DL
namespace DL
open PySem PySem.Spec L2
open PyProof.Rows hiding St

section
variable {X : Cx}
end
section
variable {X : Cx} {a b c : Expr} {ta tb tc : DTE} {pos : Pos}
noncomputable def dChain (g g' : DR2) (ta tb tc : DTE) : DTE := fun e M R => ta e M fun x M1 => tb e M1 fun y M2 => g x y M2 fun z M3 => ∃ k, z = .bl k ∧ (if k = true then tc e M3 fun w M4 => g' y w M4 R else R (.bl false) M3)
theorem chain_up {ta tb tc : DTE} {g g' : DR2} {σ : St} {H : Hp} {Q : VK} (h : up X.K (dChain g g' ta tb tc) σ H Q) : tChain (upR X.K g) (upR X.K g') (up X.K ta) (up X.K tb) (up X.K tc) σ H Q := by
  obtain ⟨e, M, R, ok, am, t, f⟩ := h
  refine ⟨e, M, _, ok, am, t, fun x M1 h1 v H1 k1 a1 r1 => ?_⟩
  refine ⟨e, M1, _, ok.mono k1, a1, h1, fun y M2 h2 u H2 k2 a2 r2 => ?_⟩
  refine ⟨x, y, M2, _, r1.mono k2, r2, a2, h2, fun z M3 h3 v3 H3 k3 a3 r3 => ?_⟩
  obtain ⟨k, rfl, h3⟩ := h3
  cases r3
  refine ⟨k, rfl, ?_⟩
  have k13 := (k1.trans k2).trans k3
  cases k with
  | true =>
    refine ⟨e, M3, _, ok.mono k13, a3, h3, fun q M4 h4 v4 H4 k4 a4 r4 => ?_⟩
    exact ⟨y, q, M4, R, r2.mono (k3.trans k4), r4, a4, h4, f.mono (k13.trans k4)⟩
  | false => exact f _ M3 h3 _ H3 k13 a3 (.bl _)
theorem jd_tchain {op op' : CmpOp} {g g' : DR2} (ho : DOp X (compareOp op) g) (ho' : DOp X (compareOp op') g') (ha : JE X a ta) (hb : JE X b tb) (hc : JE X c tc) (hm : lastMarks [op, op'] [b, c] = false := by with_unfolding_all rfl) : JT X (.Compare a [op, op'] [b, c] pos) (dTest (dChain g g' ta tb tc)) := ⟨have ha := ha.out; have hb := hb.out; have hc := hc.out; (pt_chain ho ho' ha hb hc hm).imp (by rintro σ H Q ⟨e, M, R, ok, am, t, f⟩; exact chain_up (Q := fun x H' => ∃ k, x = .bl k ∧ Q k H') ⟨e, M, _, ok, am, t, test_fit f⟩)⟩
end

structure HasC (K : PySem.W.Frag) (u : Value) (d : D) : Prop where
  ex : ∃ v, RelV v u ∧ HasK K v d
section
variable {K : PySem.W.Frag}
theorem hc_str {x : Str} {t : Tok} : HasC K (.str x t) (.str x) := ⟨.str x, ⟨t, rfl⟩, fun _ => .str x⟩
theorem gl_any {mg : Str → Option Value} {h : Heap} {x : Str} {u : Value} {d : D} (X : K.In h) (G : h.Ns mainGlobals mg) (n : PySem.W.nsIn K mainGlobals x = some (some u)) (c : HasC K u d) : GlD K mg x d := by
  obtain ⟨v, r, k⟩ := c.ex
  exact ⟨v, u, PySem.W.mg_of X G n, r, k⟩
end
end DL
namespace DL
open PySem PySem.Spec L2
open PyProof.Rows hiding St

section
variable {X : Cx} {x : Expr} {t : DTE}
end
end DL

namespace DL
open PySem PySem.Spec L2
open PyProof.Rows hiding St
theorem obj_there {P : Program} {w : World} {H : Hp} {h : Heap} {a : Addr} {o : HO} (x : ObjOk P w H h a o) : ∃ u, h.get? a = some u := by
  cases o with
  | lst _ => obtain ⟨_, _, _, _, e⟩ := x; exact ⟨_, e⟩
  | tup _ => obtain ⟨_, _, _, o, e, _⟩ := x; exact ⟨_, e⟩
  | dK _ => obtain ⟨_, _, _, _, o, _, _, e, _⟩ := x; exact ⟨_, e⟩
  | dT _ => obtain ⟨_, _, _, _, o, _, _, e, _⟩ := x; exact ⟨_, e⟩
  | set _ _ => obtain ⟨o, _, _, _, e, _⟩ := x; exact ⟨_, e⟩
  | ins _ _ _ => obtain ⟨_, _, _, e, _⟩ := x; exact ⟨_, e⟩
  | own _ => exact x
  | xd _ => obtain ⟨_, ⟨_, _, _, e, _⟩, _⟩ := x; exact ⟨_, e⟩
  | rng _ _ => obtain ⟨_, _, _, e⟩ := x; exact ⟨_, e⟩
  | frz _ _ => exact ⟨_, x.1⟩
  | tbl _ => exact ⟨_, show h.get? a = some _ from x⟩
  | met _ _ => exact ⟨_, show h.get? a = some _ from x⟩
  | ext _ => exact x.2.1
noncomputable def nones (X : Cx) : St := List.replicate X.N.length none
theorem inv_none {X : Cx} {pins : List (Addr × Obj)} {σ : St} {H : Hp} {s : Shared} (I : Inv X pins σ H s) : Inv X [] (nones X) H s := by
  refine (I.pins_of (pins' := []) fun p hp => by cases hp).weak (by rw [nones, List.length_replicate]; exact I.len.symm) fun i v h => ?_
  rw [nones, List.getElem?_replicate] at h
  split at h
  · exact absurd (Option.some.inj h) (by intro z; cases z)
  · cases h
noncomputable def Cov (B s0 : Heap) (H' : Hp) (fs : List Addr) (h : Heap) : Prop := ∀ b o, h.get? b = some o → ((∃ u, H' b = some u) ∨ ∃ o0, s0.get? b = some o0) → b ∉ fs → B.get? b = some o
noncomputable def CXr (P : Program) (w : World) (base : Heap) : CXT := fun outer H s E e s' => ∃ a cls a0 H' B, e = .ref a ∧ s'.os = s.os ∧ AllBare s'.gens ∧ Un (frs outer) [] H H' s.heap s'.heap ∧ HOk P w H' s'.heap ∧ KT H H' ∧
  base.StaysIn B ∧ Cov B s.heap H' (frs outer) s'.heap ∧ Heap.FlyingW B outer a cls a0 s'.heap ∧ E cls none H'
noncomputable def Air (B : Heap) (l : List Env) (a : Addr) (cls a0 : Value) (h : Heap) : Prop := Heap.FlyingW B l a cls a0 h ∨ ∃ env l' L, l = env :: l' ∧ env.frame = some L ∧ Heap.HeldW B l a cls a0 L h
section
variable {M : Model} {A : Around} {E : Value → Shared → Prop} {s : Shared} {B : Heap} {l outer : List Env} {env : Env} {L a : Addr} {cls a0 : Value} {Q : Unit → Shared → Prop}
theorem Air.frames {h : Heap} (x : Air B l a cls a0 h) : h.FunFrames B l := by
  rcases x with x | ⟨_, _, _, _, _, x⟩
  · exact x.2.2.1
  · exact x.2.2.1
theorem Air.base {h : Heap} (x : Air B l a cls a0 h) : B.StaysIn h ∧ B.get? a = none := by
  rcases x with x | ⟨_, _, _, _, _, x⟩
  · exact ⟨x.1, x.2.1⟩
  · exact ⟨x.1, x.2.1⟩
theorem Air.data {h : Heap} (x : Air B l a cls a0 h) : ∃ oe vs, h.get? a = some oe ∧ oe.data = .fields vs := by
  rcases x with ⟨_, _, _, oe, vs, _, _, _, h1, _, h2, _⟩ | ⟨_, _, _, _, _, _, _, _, oe, vs, _, _, _, h1, _, h2, _⟩ <;> exact ⟨oe, vs, h1, h2⟩
theorem Air.leaves (hfr : A.frames = some (env :: outer)) (hf : env.frame = some L) (x : Air B (env :: outer) a cls a0 s.heap)
    (hQ : ∀ h', Heap.FlyingW B outer a cls a0 h' → s.heap.UpToSlots h' → Q () { s with heap := h' }) : wpAny M A (leaving env (.ref a)) Q E s := by
  rcases x with x | ⟨_, _, _, e1, e2, x⟩
  · exact wpAny_leaves_onW hfr hf x hQ
  · injection e1 with e1 e3
    subst e1 e3
    obtain rfl := Option.some.inj (hf.symm.trans e2)
    unfold leaving
    refine wpAny_bind (wpAny_noteFrame_againW hf x.2.2.2 ?_)
    refine wpAny_landsW x fun h' hfl hu => ?_
    obtain ⟨k1, k2, ⟨_, _, k3⟩, k4⟩ := hfl
    exact hQ h' ⟨k1, k2, k3, k4⟩ hu
theorem upSlots_refl (h : Heap) : h.UpToSlots h := fun b o hb _ => ⟨o.slots, hb⟩
theorem Air.looks (hfr : A.frames = some (env :: outer)) (hf : env.frame = some L) (x : Air B (env :: outer) a cls a0 s.heap)
    (hQ : ∀ h', Heap.HeldW B (env :: outer) a cls a0 L h' → s.heap.UpToSlots h' → Q () { s with heap := h' }) : wpAny M A (noteFrame (.ref a) env) Q E s := by
  rcases x with x | ⟨_, _, _, e1, e2, x⟩
  · exact wpAny_looks_onW hfr hf x hQ
  · injection e1 with e1 e3
    subst e1 e3
    obtain rfl := Option.some.inj (hf.symm.trans e2)
    exact wpAny_noteFrame_againW hf x.2.2.2 (hQ s.heap x (upSlots_refl _))
end
noncomputable def XP (X : Cx) (mk : Bool) (EX : Value → Hp → Prop) : Value → Shared → Prop := fun e s' =>
  (mk = true ∧ ∃ a cls h vs H', e = .ref a ∧ EX cls H' ∧ Heap.MadeExcOf h s'.heap a cls vs ∧ Inv X [] (nones X) H' { s' with heap := h }) ∨
  (∃ pins σ Hc sc a cls a0 H' B, Inv X pins σ Hc sc ∧ e = .ref a ∧ s'.os = sc.os ∧ AllBare s'.gens ∧ Un (frs X.stack) [] Hc H' sc.heap s'.heap ∧ HOk X.prog X.w H' s'.heap ∧
    X.base.StaysIn B ∧ Cov B sc.heap H' (frs X.stack) s'.heap ∧ Air B X.stack a cls a0 s'.heap ∧ EX cls H')
theorem passes_r {X : Cx} {mk : Bool} {EX : Value → Hp → Prop} : Passes (CXr X.prog X.w X.base) (X.wish (XP X mk EX)) (fun cls _ H' => EX cls H') := fun pins σ H s e s' I h => by
  obtain ⟨a, cls, a0, H', B, rfl, ho, hg, un, hok, _, hB, cov, fl, hE⟩ := h
  exact .inr ⟨pins, σ, H, s, a, cls, a0, H', B, I.unwish, rfl, ho, hg, un, hok, hB, cov, .inl fl, hE⟩
section
variable {P : Program} {w : World} {K : PySem.W.Frag} {mg : Str → Option Value} {base : Heap} {N : List Str} {qual : Str} {scope : Scope} {f : Addr} {cd : Value} {A : Around} {outer : List Env} {s : Shared} {H : Hp} {E : XK}
theorem frs_cons {env : Env} {L : Addr} {outer : List Env} (hf : env.frame = some L) : frs (env :: outer) = L :: frs outer := by unfold frs; rw [List.filterMap_cons, hf]
theorem leave_x {EX : Value → Hp → Prop} (hEX : ∀ cls H', EX cls H' → KT H H' ∧ E cls none H') {e : Value} {s' : Shared}
    (h : XP (cxOf (CXr P w base) P w K mg base N qual scope f cd A outer s H E) true EX e s') : (cxOf (CXr P w base) P w K mg base N qual scope f cd A outer s H E).xe e s' := by
  have hfc : frs (cxOf (CXr P w base) P w K mg base N qual scope f cd A outer s H E).stack = s.heap.objs.size :: frs outer := frs_cons rfl
  have noL : s.heap.get? s.heap.objs.size = none := Heap.get?_none_of_le (Nat.le_refl _)
  show wpAny (model P w) (A.deeper (envOfC qual scope s.heap.objs.size f cd)) (leaving (envOfC qual scope s.heap.objs.size f cd) e) (fun _ s'' => CXr P w base outer H s E e s'') (fun e' s'' => CXr P w base outer H s E e' s'') s'
  rcases h with ⟨_, a, cls, h, vs, H', rfl, hE, mx, I⟩ | ⟨pins, σ, Hc, sc, a, cls, a0, H', B, I, rfl, ho, hg, un, hok, hB, cov, fl, hE⟩
  · obtain ⟨k0, eE⟩ := hEX cls H' hE
    have hst := I.stack
    have fre := I.stkFree
    have hfr := I.ok.frames
    have inL : ∀ b, b ∉ frs outer → b ≠ s.heap.objs.size → b ∉ frs (cxOf (CXr P w base) P w K mg base N qual scope f cd A outer s H E).stack := fun b n1 n2 hm => by
      rw [hfc] at hm
      rcases List.mem_cons.mp hm with z | z
      · exact n2 z
      · exact n1 z
    have inO : ∀ b, b ∈ frs outer → b ∈ frs (cxOf (CXr P w base) P w K mg base N qual scope f cd A outer s H E).stack := fun b hb => by rw [hfc]; exact List.mem_cons_of_mem _ hb
    refine wpAny_leaves_madeW (base := PySem.W.hideAll h (frs (cxOf (CXr P w base) P w K mg base N qual scope f cd A outer s H E).stack)) (h := h) (L := s.heap.objs.size) (outer := outer) hfr rfl (fun b o q => PySem.W.of_hideAll _ q)
      (PySem.W.funFrames_hide hst fun env he b hb => List.mem_filterMap.mpr ⟨env, he, hb⟩) mx fun h'' t fl _ _ ups => ?_
    have keepB : ∀ b o, h.get? b = some o → b ∉ frs (cxOf (CXr P w base) P w K mg base N qual scope f cd A outer s H E).stack → h''.get? b = some o := fun b o q nm => fl.1 b o (PySem.W.hideAll_get _ q nm)
    have slotB : ∀ b o, h.get? b = some o → b ∈ frs (cxOf (CXr P w base) P w K mg base N qual scope f cd A outer s H E).stack → ∃ sl, h''.get? b = some { o with slots := sl } := fun b o q hm => by
      obtain ⟨_, o', ho', hnf⟩ := hst.mem hm
      have e : o = o' := Option.some.inj (q.symm.trans ho')
      subst e
      exact ups b o (mx.keeps b o q) hnf
    have trk : ∀ b u, H' b = some u → b ∉ frs (cxOf (CXr P w base) P w K mg base N qual scope f cd A outer s H E).stack := fun b u q hm => by rw [fre b hm] at q; cases q
    refine ⟨a, cls, .ref t, H', _, rfl, I.os, I.bare, ⟨fun b o q n hb _ => ?_, fun b o q n hb _ => ?_, fun b o q n hx => I.base.free b o q n hx, fun b o q hx => ?_, I.base.tups, I.base.frzs, I.base.tbls⟩, fun b u q => ?_, k0, fun b o q => ?_, fun b o e1 e2 nb => ?_, fl, eE⟩
    · have z := I.base.keep b o q n hb (by intro hz; cases hz)
      exact keepB b o z (inL b hb (Nat.ne_of_lt (Heap.lt_size q)))
    · obtain ⟨sl, z⟩ := I.base.slot b o q n hb (by intro hz; cases hz)
      obtain ⟨sl2, z2⟩ := slotB b _ z (inO b hb)
      exact ⟨sl2, z2⟩
    · obtain ⟨o1, z⟩ := I.base.there b o q hx
      by_cases hm : b ∈ frs (cxOf (CXr P w base) P w K mg base N qual scope f cd A outer s H E).stack
      · obtain ⟨sl, z2⟩ := slotB b _ z hm; exact ⟨_, z2⟩
      · exact ⟨_, keepB b _ z hm⟩
    · refine (I.hok b u q).stay (fun c v hc q2 => keepB c v q2 ?_) (fun _ q => q) fun _ _ q => q
      rcases hc with rfl | hc
      · exact trk c u q
      · exact trk c _ hc
    · exact PySem.W.hideAll_get _ (I.bk b o q) fun hm => by
        have z : base.get? b = none := (hst.mem hm).1
        rw [z] at q; cases q
    · have nL : b ≠ s.heap.objs.size := fun z => by
        subst z
        rcases e2 with ⟨u, e2⟩ | ⟨o0, e2⟩
        · exact absurd (by rw [hfc]; exact List.mem_cons_self) (trk _ u e2)
        · rw [noL] at e2; cases e2
      have nm := inL b nb nL
      obtain ⟨o1, z⟩ : ∃ o1, h.get? b = some o1 := by
        rcases e2 with ⟨u, e2⟩ | ⟨o0, e2⟩
        · exact obj_there (I.hok b u e2)
        · exact I.base.there b o0 e2 (by intro hz; cases hz)
      have e3 := keepB b o1 z nm
      rw [e1] at e3
      cases e3
      exact PySem.W.hideAll_get _ z nm
  · obtain ⟨k0, eE⟩ := hEX cls H' hE
    have hfr := I.ok.frames
    have fre : ∀ b ∈ frs (cxOf (CXr P w base) P w K mg base N qual scope f cd A outer s H E).stack, H' b = none := fun b hb => by
      obtain ⟨_, o, hob, _⟩ := I.stack.mem hb
      exact un.free b o hob (I.stkFree b hb) (by simp)
    have inL : ∀ b, b ∉ frs outer → b ≠ s.heap.objs.size → b ∉ frs (cxOf (CXr P w base) P w K mg base N qual scope f cd A outer s H E).stack := fun b n1 n2 hm => by
      rw [hfc] at hm
      rcases List.mem_cons.mp hm with z | z
      · exact n2 z
      · exact n1 z
    have inO : ∀ b, b ∈ frs outer → b ∈ frs (cxOf (CXr P w base) P w K mg base N qual scope f cd A outer s H E).stack := fun b hb => by rw [hfc]; exact List.mem_cons_of_mem _ hb
    refine Air.leaves (L := s.heap.objs.size) (outer := outer) hfr rfl fl fun h'' fl2 ups => ?_
    have pre : ∀ b o, s.heap.get? b = some o → ∃ o1, sc.heap.get? b = some o1 := fun b o q => I.base.there b o q (by intro hz; cases hz)
    have keepB : ∀ b o, s'.heap.get? b = some o → ((∃ u, H' b = some u) ∨ ∃ o0, sc.heap.get? b = some o0) → b ∉ frs (cxOf (CXr P w base) P w K mg base N qual scope f cd A outer s H E).stack → h''.get? b = some o := fun b o q c nm => fl2.1 b o (cov b o q c nm)
    have slotB : ∀ b o, s'.heap.get? b = some o → b ∈ frs (cxOf (CXr P w base) P w K mg base N qual scope f cd A outer s H E).stack → ∃ sl, h''.get? b = some { o with slots := sl } := fun b o q hm => by
      obtain ⟨_, o', ho', hnf⟩ := fl.frames.mem hm
      have e : o = o' := Option.some.inj (q.symm.trans ho')
      subst e
      exact ups b o q hnf
    have trk : ∀ b u, H' b = some u → b ∉ frs (cxOf (CXr P w base) P w K mg base N qual scope f cd A outer s H E).stack := fun b u q hm => by rw [fre b hm] at q; cases q
    refine ⟨a, cls, a0, H', B, rfl, ho.trans I.os, hg, ⟨fun b o q n hb _ => ?_, fun b o q n hb _ => ?_, fun b o q n hx => ?_, fun b o q hx => ?_, fun b xs q => un.tups b xs (I.base.tups b xs q), fun b o u q => un.frzs b o u (I.base.frzs b o u q), fun b ps q => ?_⟩, fun b u q => ?_, k0, hB, fun b o e1 e2 nb => ?_, fl2, eE⟩
    · have z := I.base.keep b o q n hb (by intro hz; cases hz)
      have nm := inL b hb (Nat.ne_of_lt (Heap.lt_size q))
      have z2 := un.keep b o z (I.base.free b o q n (by intro hz; cases hz)) nm (by simp)
      exact keepB b o z2 (.inr ⟨o, z⟩) nm
    · obtain ⟨sl, z⟩ := I.base.slot b o q n hb (by intro hz; cases hz)
      obtain ⟨sl2, z2⟩ := un.slot b _ z (I.base.free b o q n (by intro hz; cases hz)) (inO b hb) (by simp)
      obtain ⟨sl3, z3⟩ := slotB b _ z2 (inO b hb)
      exact ⟨sl3, z3⟩
    · obtain ⟨o1, z⟩ := pre b o q
      exact un.free b o1 z (I.base.free b o q n (by intro hz; cases hz)) (by simp)
    · obtain ⟨o1, z⟩ := pre b o q
      obtain ⟨o2, z2⟩ := un.there b o1 z (by simp)
      by_cases hm : b ∈ frs (cxOf (CXr P w base) P w K mg base N qual scope f cd A outer s H E).stack
      · obtain ⟨sl, z3⟩ := slotB b _ z2 hm; exact ⟨_, z3⟩
      · exact ⟨_, keepB b _ z2 (.inr ⟨o1, z⟩) hm⟩
    · obtain ⟨m1, z1⟩ := I.base.tbls b ps q
      obtain ⟨m2, z2⟩ := un.tbls b _ z1
      exact ⟨m1 ++ m2, by rw [z2, Array.append_assoc]⟩
    · refine (hok b u q).stay (fun c v hc q2 => ?_) (fun _ q => q) fun _ _ q => q
      rcases hc with rfl | hc
      · exact keepB c v q2 (.inl ⟨u, q⟩) (trk c u q)
      · exact keepB c v q2 (.inl ⟨_, hc⟩) (trk c _ hc)
    · have nL : b ≠ s.heap.objs.size := fun z => by
        subst z
        rcases e2 with ⟨u, e2⟩ | ⟨o0, e2⟩
        · exact absurd (by rw [hfc]; exact List.mem_cons_self) (trk _ u e2)
        · rw [noL] at e2; cases e2
      have nm := inL b nb nL
      have c2 : (∃ u, H' b = some u) ∨ ∃ o0, sc.heap.get? b = some o0 := e2.imp id fun ⟨o0, z⟩ => pre b o0 z
      obtain ⟨o1, z⟩ : ∃ o1, s'.heap.get? b = some o1 := by
        rcases c2 with ⟨u, c2⟩ | ⟨o0, c2⟩
        · exact obj_there (hok b u c2)
        · exact un.there b o0 c2 (by simp)
      have e3 := keepB b o1 z c2 nm
      rw [e1] at e3
      cases e3
      exact cov b o z c2 nm
end
noncomputable def xN (x : Str) : Value := .str x 0
noncomputable def EXof (X : Cx) (H₀ : Hp) (Y : DXK) : Value → Hp → Prop := fun c H' => KT H₀ H' ∧ ∃ (x : Str) (C : Addr) (M' : Mem), c = .ref C ∧ X.mg x = some (.ref C) ∧ AbsM X.K H' M' ∧ Y (xN x) M'
noncomputable abbrev Cx.ex' (X : Cx) (mk : Bool) (H₀ : Hp) (Y : DXK) : Cx := X.wish (XP X mk (EXof X H₀ Y))
noncomputable def upSx (K : PySem.W.Frag) (H₀ : Hp) (t : DTS) : TS := fun E σ H => KT H₀ H ∧ upS K t E σ H
structure JX (X : Cx) (mk : Bool) (H₀ : Hp) (Y : DXK) (st : Stmt) (t : DTS) : Prop where
  out : PS (Cx.ex' X mk H₀ Y) st (upSx X.K H₀ t)
structure JXs (X : Cx) (mk : Bool) (H₀ : Hp) (Y : DXK) (st : List Stmt) (t : DTS) : Prop where
  out : PSs (Cx.ex' X mk H₀ Y) st (upSx X.K H₀ t)
section
variable {X : Cx} {mk : Bool} {H₀ : Hp} {Y : DXK} {st : Stmt} {rest : List Stmt} {t u : DTS} {pos : Pos}
theorem SP_wish {pins : List (Addr × Obj)} {D : Ends} {E : Value → Shared → Prop} {s' : Shared} : ∀ {f : Flow}, SP X pins D f s' → SP (X.wish E) pins D f s'
  | .next, ⟨σ', H', I, q⟩ => ⟨σ', H', I.wish _, q⟩
  | .brk, ⟨σ', H', I, q⟩ => ⟨σ', H', I.wish _, q⟩
  | .cont, ⟨σ', H', I, q⟩ => ⟨σ', H', I.wish _, q⟩
  | .ret _, ⟨v, σ', H', I, r, q⟩ => ⟨v, σ', H', I.wish _, r, q⟩
theorem wish_ps {E : Value → Shared → Prop} {t : TS} (h : PS X.nox st t) : PS (X.wish E) st t := fun pins s σ H D I hw =>
  wpAny_mono (h pins s σ H D (I.unwish.wish _) hw) (fun _ _ q => SP_wish q.unwish) fun _ _ z => False.elim z
theorem wish_pt {E : Value → Shared → Prop} {e : Expr} {t : TT} (h : PT X.nox e t) : PT (X.wish E) e t := fun pins s σ H Q I hw =>
  wpAny_mono (h pins s σ H Q (I.unwish.wish _) hw) (fun _ _ ⟨H', I', q⟩ => ⟨H', I'.unwish.wish _, q⟩) fun _ _ z => False.elim z
theorem wish_pa {E : Value → Shared → Prop} {es : List Expr} {t : TA} (h : PA X.nox es t) : PA (X.wish E) es t := fun pos pins s σ H Q I hw =>
  wpAny_mono (h pos pins s σ H Q (I.unwish.wish _) hw) (fun _ _ ⟨v, H', I', r, q⟩ => ⟨v, H', I'.unwish.wish _, r, q⟩) fun _ _ z => False.elim z
theorem x_emb (h : JS X.nox st t) : JX X mk H₀ Y st t := ⟨PS.imp (wish_ps h.out) fun _ _ _ q => q.2⟩
theorem x_nil : JXs X mk H₀ Y [] dNext := ⟨PSs.imp pss_nil fun E σ H ⟨k, e, M, F, ok, am, t, f⟩ => f.nx e M t σ H (KT.refl H) am ok⟩
theorem x_one (h : JX X mk H₀ Y st t) : JXs X mk H₀ Y [st] t := ⟨pss_one h.out⟩
theorem x_cons (h1 : JX X mk H₀ Y st t) (h2 : JXs X mk H₀ Y rest u) : JXs X mk H₀ Y (st :: rest) (dSeq t u) :=
  ⟨PSs.imp (pss_cons h1.out h2.out) fun E σ H ⟨k, e, M, F, ok, am, tt, f⟩ => ⟨k, e, M, _, ok, am, tt, ⟨fun e' M' h σ' H' kt a o => ⟨k.trans kt, e', M', F, o, a, h, f.mono kt⟩, f.rt, f.bk, f.ct⟩⟩⟩
theorem x_if {c : Expr} {a b : List Stmt} {tc : DTT} (hc : JT X.nox c tc) (ha : JXs X mk H₀ Y a t) (hb : JXs X mk H₀ Y b u) : JX X mk H₀ Y (.If c a b pos) (dIfS tc t u) :=
  ⟨PS.imp (ps_if (wish_pt hc.out) ha.out hb.out) fun E σ H ⟨k, e, M, F, ok, am, tt, f⟩ => ⟨e, M, _, ok, am, tt, fun bb M1 h1 H1 k1 a1 => by
    cases bb with
    | true => exact ⟨k.trans k1, e, M1, F, ok.mono k1, a1, h1, f.mono k1⟩
    | false => exact ⟨k.trans k1, e, M1, F, ok.mono k1, a1, h1, f.mono k1⟩⟩⟩
end
noncomputable def FitE (K : PySem.W.Frag) (mg : Str → Option Value) (H : Hp) (Y : DXK) (E : XK) : Prop := ∀ (x : Str) (C : Addr) (M' : Mem), mg x = some (.ref C) → Y (xN x) M' → ∀ H', KT H H' → AbsM K H' M' → E (.ref C) none H'
noncomputable def upSpX (K : PySem.W.Frag) (mg : Str → Option Value) (sp : DSp) : Sp := fun vs H Q E => ∃ ds M R Y, HasL K H vs ds ∧ AbsM K H M ∧ sp ds M R Y ∧ FitV K H R Q ∧ FitE K mg H Y E
structure FnX (P : Program) (w : World) (K : PySem.W.Frag) (mg : Str → Option Value) (base : Heap) (x : Str) (k : Nat) (ps : List Str) (sp : DSp) : Prop where
  ex : ∃ (f : Addr) (fd : FuncData), FnOk P w K mg base (CXr P w base) k f fd ps (upSpX K mg sp) ∧ mg x = some (.ref f) ∧ PySem.W.keepIn K (.ref f) = true ∧ Binds K fd ps []
section
variable {P : Program} {w : World} {K : PySem.W.Frag} {mg : Str → Option Value} {base : Heap}
theorem fn_byX {x : Str} {st : Stmt} {N ps : List Str} {k : Nat} {sp : DSp} (d : Df K mg x st ps) (S : FnScope N ps (defScope st)) (len : ∀ ds M R Y, sp ds M R Y → ds.length = ps.length)
    (hbody : ∀ (f : Addr) (cdv : Value) (A : Around) (outer : List Env) (s : Shared) (H : Hp) (E : XK) (ds : List D) (M : Mem) (R : DK) (Y : DXK), Room k (A.deeper (envOfC x (defScope st) s.heap.objs.size f cdv)) → sp ds M R Y →
      ∃ t, JXs (cxOf (CXr P w base) P w K mg base N x (defScope st) f cdv A outer s H E) true H Y (defBody st) t ∧ t { nx := fun _ M' => R .non M', rt := R } (dstart N ds) M) : FnX P w K mg base x (k + 1) ps sp := by
  obtain ⟨f, fd, F, hm, hb⟩ := d.ex
  refine ⟨f, fd, ?_, hm, F.kp, hb⟩
  obtain ⟨oc, od, dV, kV, doc, pm, an, cdv, ct, osl, rfl, lk, hcd⟩ := F.ex
  refine fn_of lk hcd S (fun vs H Q E ⟨ds, M, R, Y, hl, _, hs, _, _⟩ => by rw [hl.length]; exact len ds M R Y hs) fun A outer s H vs Q E hr ⟨ds, M, R, Y, hl, am, hs, fv, fx⟩ => ?_
  obtain ⟨t, h1, h2⟩ := hbody f cdv A outer s H E ds M R Y hr hs
  refine ⟨upSx K H t, fun pins s1 σ H1 D I hw => ?_, KT.refl H, dstart N ds, M, _, EnvOk.start0 hl, am, h2, ⟨?_, fv, fun _ _ h => h.elim, fun _ _ h => h.elim⟩⟩
  · refine wpAny_mono (h1.out pins s1 σ H1 D (I.wish _) hw) (fun _ _ q => q.unwish) fun e s2 hx => leave_x (fun cls H' ⟨k1, x', C, M', e1, e2, e3, e4⟩ => ⟨k1, by rw [e1]; exact fx x' C M' e2 e4 H' k1 e3⟩) hx
  · exact fun e M' h σ' H' kt a o => fv .non M' h .non H' kt a .non
theorem FnX.fn {x : Str} {k : Nat} {ps : List Str} {sp sp' : DSp} (G : FnX P w K mg base x k ps sp) (h : ∀ ds M R Y, sp' ds M R Y → sp ds M R fun _ _ => False) : Fn P w K mg base x k ps sp' := by
  obtain ⟨f, fd, F, h1, h2, h3⟩ := G.ex
  refine ⟨f, fd, ⟨fun vs H Q E ⟨ds, M, R, Y, hl, am, hs, fv, _⟩ => F.len vs H Q (fun _ _ _ => False) ⟨ds, M, R, _, hl, am, h ds M R Y hs, fv, fun _ _ _ _ z => z.elim⟩, fun A outer s H args us vs Q E hr he hb hv ⟨ds, M, R, Y, hl, am, hs, fv, _⟩ => ?_⟩, h1, h2, h3⟩
  refine codeAny_mono (F.run A outer s H args us vs Q (fun _ _ _ => False) hr he hb hv ⟨ds, M, R, _, hl, am, h ds M R Y hs, fv, fun _ _ _ _ z => z.elim⟩) fun r s' q => ?_
  cases r with
  | error e => obtain ⟨_, _, _, _, _, _, _, _, _, _, _, _, _, _, z⟩ := q; exact z.elim
  | ok fl => cases fl <;> exact q
end
section
variable {X : Cx} {mk : Bool} {H₀ : Hp} {Y : DXK} {pos cpos : Pos} {x : Str} {j : Nat} {ps : List Str} {sp : DSp} {p : Pos} {e : Expr} {es : List Expr} {t : DTA}
noncomputable def dCallX (sp : DSp) (Y : DXK) (t : DTA) : DTE := fun e M R => t e M fun ds M1 => sp (ds ++ []) M1 R Y
structure JXE (X : Cx) (mk : Bool) (H₀ : Hp) (Y : DXK) (e : Expr) (t : DTE) : Prop where
  out : PE (Cx.ex' X mk H₀ Y) e (fun σ H Q => KT H₀ H ∧ up X.K t σ H Q)
theorem x_callE (G : FnX X.prog X.w X.K X.mg X.base x j ps sp) (hr : Room j X.A) (hg : Gl X x) (ha : JA X.nox (e :: es) t)
    (hdb : (x == ("__debug__" : Str)) = false := by decide) (he : starEach (e :: es) X.env = (false, eval e X.env) :: starEach es X.env := by rfl) (hpl : (backTo cpos (starEach es X.env)).any (·.1) = false := by rfl) :
    JXE X mk H₀ Y (.Call (.Name x p) (e :: es) [] cpos) (dCallX sp Y t) := by
  obtain ⟨f, fd, F, hm, hk, hb⟩ := G.ex
  refine ⟨PE.imp (pe_call (X := Cx.ex' X mk H₀ Y) (ds := []) (dvs := []) F hr hg hm hk hb .nil passes_r (wish_pa ha.out) hdb he hpl) fun σ H Q ⟨k, e', M, R, ok, am, tt, ff⟩ => ?_⟩
  refine ⟨e', M, _, ok, am, tt, fun ds M1 h1 vs H1 k1 a1 r1 => ⟨ds ++ [], M1, R, Y, r1.append .nil, a1, h1, ff.mono k1, fun y C M' hy z H' kt a => ⟨(k.trans k1).trans kt, y, C, M', rfl, hy, a, z⟩⟩⟩
end
section
variable {X : Cx} {mk : Bool} {H₀ : Hp} {Y : DXK} {pos : Pos} {e : Expr} {te : DTE}
theorem x_set {i : Nat} {y : Str} {pos' : Pos} (hN : X.N.Nodup) (hi : X.N[i]? = some y) (hx : Loc X.env.scope y) (h : JXE X mk H₀ Y e te) (hs : swapsWith e (some (.Name y pos')) pos.line X.env = pure false := by rfl) (hf : X.fn y = true ∨ X.env.scope.names.lookup y = some .local := by first | exact .inl rfl | exact .inr rfl | assumption) :
    JX X mk H₀ Y (.Assign [.Name y pos'] e pos) (dAsg te (dgName i)) :=
  ⟨PS.imp (ps_set (X := Cx.ex' X mk H₀ Y) hN hi hx h.out hs hf) fun E σ H ⟨k, e', M, F, ok, am, tt, f⟩ => ⟨k, e', M, _, ok, am, tt, fun d M1 h1 v H1 k1 a1 r1 => f.nx _ M1 h1 _ H1 k1 a1 ((ok.mono k1).set r1 i)⟩⟩
end
section
variable {X : Cx} {mk : Bool} {EX : Value → Hp → Prop}
end
section
variable {X : Cx} {mk : Bool} {H₀ : Hp} {Y : DXK} {pos : Pos} {c : Expr} {body : List Stmt} {tc : DTT} {tb : DTS}
end
noncomputable def bmV : List Value := [.type "ValueError", .type "Exception", .type "BaseException", .type "object"]
structure ExD (K : PySem.W.Frag) (mg : Str → Option Value) (x : Str) : Prop where
  ex : ∃ C, mg x = some (.ref C) ∧ PySem.W.excIn K C bmV "ValueError.__new__" = true
theorem exd_mk {K : PySem.W.Frag} {mg : Str → Option Value} {h : Heap} {x : Str} {C : Addr} (X : K.In h) (G : h.Ns mainGlobals mg) (n : PySem.W.nsIn K mainGlobals x = some (some (.ref C))) (q : PySem.W.excIn K C [.type "ValueError", .type "Exception", .type "BaseException", .type "object"] "ValueError.__new__" = true) : ExD K mg x :=
  ⟨C, PySem.W.mg_of X G n, q⟩
theorem exc_obj {K : PySem.W.Frag} {h : Heap} {C : Addr} {bmB : List Value} {newId : String} (X : K.In h) (q : PySem.W.excIn K C bmB newId = true) :
    ∃ bm N nm qn bs hdct sn sub ab col dd k0 k1 k2 k3 k5 mN, h.get? C = some (excClassObj nm qn C N bs bm hdct sn sub ab col dd k0 k1 k2 k3 k5 newId) ∧ h.Ns N mN ∧ mN "__init__" = none ∧ OwnTail h bmB bm := by
  unfold PySem.W.excIn at q
  cases lk : K.lookup C with
  | none => rw [lk] at q; cases q
  | some ob =>
    obtain ⟨oc, od, dt, sl⟩ := ob
    rw [lk] at q
    cases dt with
    | cls cd =>
      cases oc with
      | type tn =>
        by_cases ht : tn = "type"
        · subst ht
          simp only at q
          split at q
          · rename_i C' bm k0 k1 k2 k3 n k5 hm hs
            simp only [Bool.and_eq_true, beq_iff_eq, Bool.not_eq_true'] at q
            obtain ⟨⟨⟨⟨⟨q1, q2⟩, q3⟩, q4⟩, q5⟩, q6⟩ := q
            subst q1
            subst q2
            obtain ⟨nm, bs, mro, ns, qn, hd, sn, sub, ab, col, del⟩ := cd
            dsimp only at hm q3 q5 q6
            subst hm
            subst q3
            have es : sl = #[k0, k1, k2, k3, some (.builtin n), k5] := by
              cases sl with
              | mk l => exact congrArg Array.mk hs
            subst es
            exact ⟨bm, ns, nm, qn, bs, hd, sn, sub, ab, col, od, k0, k1, k2, k3, k5, _, X _ _ lk, .of_isNs (PySem.W.isNs_of_in X q5), PySem.W.nsMap_none_of_in X q5 q6, PySem.W.tail_of_in X q4⟩
          · cases q
        · exfalso
          revert q
          split
          · rename_i e; cases e; exact absurd rfl ht
          · intro z; cases z
      | _ => exfalso; simp at q
    | _ => exfalso; revert q; split <;> (intro z; first | cases z | (rename_i e; cases e))
section
variable {X : Cx} {H₀ : Hp} {Y : DXK} {pos cpos np : Pos} {x : Str} {e₀ : Expr} {te : DTE}
noncomputable def dRaise (x : Str) (Y : DXK) (te : DTE) : DTS := fun _ e M => te e M fun _ M1 => Y (xN x) M1
theorem x_raise (G : ExD X.K X.mg x) (hc : X.calm = true) (hg : Gl X x) (h0 : JE X.nox e₀ te) (hdb : (x == ("__debug__" : Str)) = false := by decide)
    (he : starEach [e₀] X.env = (false, eval e₀ X.env) :: starEach [] X.env := by rfl) (hp : (backTo cpos (starEach [e₀] X.env)).any (·.1) = false := by rfl) :
    JX X true H₀ Y (.Raise (some (.Call (.Name x np) [e₀] [] cpos)) none pos) (dRaise x Y te) := by
  refine ⟨fun pins s σ H D I ⟨k, ev, M, F, ok, am, hy, f⟩ => ?_⟩
  obtain ⟨C, hm, hq⟩ := G.ex
  have I0 : Inv X pins σ H s := I.unwish
  obtain ⟨bm, N, nm, qn, bs, hdct, sn, sub, ab, col, dd, k0, k1, k2, k3, k5, mN, hC, hN, hni, T⟩ := exc_obj I0.mod.kin hq
  refine wpAny_Raise_call_subT (C := C) (nm := nm) (q := qn) (N := N) (bs := bs) (bm := bm) (hdct := hdct) (sn := sn) (sub := sub) (ab := ab) (col := col) (dd := dd) (k0 := k0) (k1 := k1) (k2 := k2) (k3 := k3) (k5 := k5)
    PySem.F.excBase_ValueError (mN := mN) (T.hasType (by decide)) (I0.ok.hd hc) hp hni (ld_glob (X := X) I0 hg hm ⟨rfl, ?_⟩ hdb)
  have h1 : wpAny (model X.prog X.w) X.A (spliced (backTo cpos (starEach [e₀] X.env))) (AP (Cx.ex' X true H₀ Y) pins σ fun vs H1 => vs.length = 1 ∧ EXof X H₀ Y (.ref C) H1) (XP X true (EXof X H₀ Y)) s :=
    (wish_pa (E := XP X true (EXof X H₀ Y)) (pa_cons h0.out pa_nil he)) cpos pins s σ H _ I ⟨ev, M, _, ok, am, hy, fun d M1 y v H1 k1 a1 _ => ⟨rfl, k.trans k1, x, C, M1, rfl, hm, a1, y⟩⟩
  rw [he] at h1 ⊢
  refine Calls.evalArgs_plain (wpAny_mono h1 (fun us s2 ⟨vs, H1, I1, r1, hv, q⟩ => ⟨rfl, ?_, I1.bk _ _ hC, hN.keeps I1.bk, T.keeps I1.bk, fun h' e2 mx => ?_⟩) fun _ _ z => z)
  · show us.length ≤ sizeLine
    rw [← r1.length, hv]; decide
  · exact .inl ⟨rfl, e2, .ref C, s2.heap, us, H1, rfl, q, mx, inv_none I1.unwish⟩
end
noncomputable abbrev Cx.pinned (X : Cx) (pn : List (Addr × Obj)) : Cx := { X with pn := pn }
noncomputable abbrev Cx.hand (X : Cx) (a : Addr) : Cx := { X with A := X.A.mark (some (.ref a)), calm := false }
section
variable {X : Cx} {pins pn : List (Addr × Obj)} {σ : St} {H : Hp} {s : Shared}
theorem ok_pinned (ok : X.Ok) : (Cx.pinned X pn).Ok := ⟨ok.mod, ok.kind, ok.glob, ok.blt, ok.above, ok.inj, ok.has, ok.cab, ok.hd, ok.frames, ok.stk, ok.exf, ok.bs, ok.bsz, ok.noex, ok.exfs, ok.funs, ok.frf⟩
theorem ok_unpinned (ok : (Cx.pinned X pn).Ok) : X.Ok := ⟨ok.mod, ok.kind, ok.glob, ok.blt, ok.above, ok.inj, ok.has, ok.cab, ok.hd, ok.frames, ok.stk, ok.exf, ok.bs, ok.bsz, ok.noex, ok.exfs, ok.funs, ok.frf⟩
theorem inv_pinned (I : Inv X pins σ H s) : Inv (Cx.pinned X (X.pn ++ pins)) [] σ H s := ⟨ok_pinned I.ok, I.os, I.bare, I.base, I.loc, I.cell, I.free, I.freeC, fun p hp => I.pin p (by rwa [List.append_nil] at hp), I.hok, I.len⟩
theorem inv_unpinned {ps : List (Addr × Obj)} (I : Inv (Cx.pinned X (X.pn ++ pins)) ps σ H s) : Inv X pins σ H s := ⟨ok_unpinned I.ok, I.os, I.bare, I.base, I.loc, I.cell, I.free, I.freeC, fun p hp => I.pin p (List.mem_append_left _ hp), I.hok, I.len⟩
theorem sp_unpinned {ps : List (Addr × Obj)} {D : Ends} : ∀ {f : Flow}, SP (Cx.pinned X (X.pn ++ pins)) ps D f s → SP X pins D f s
  | .next, ⟨σ', H', I, q⟩ => ⟨σ', H', inv_unpinned I, q⟩
  | .brk, ⟨σ', H', I, q⟩ => ⟨σ', H', inv_unpinned I, q⟩
  | .cont, ⟨σ', H', I, q⟩ => ⟨σ', H', inv_unpinned I, q⟩
  | .ret _, ⟨v, σ', H', I, r, q⟩ => ⟨v, σ', H', inv_unpinned I, r, q⟩
theorem ok_hand {a : Addr} (ok : X.Ok) : (Cx.hand X a).Ok := ⟨ok.mod, ok.kind, ok.glob, ok.blt, ok.above, ok.inj, ok.has, ok.cab, fun z => (by cases z), ok.frames, ok.stk, ok.exf, ok.bs, ok.bsz, ok.noex, ok.exfs, ok.funs, ok.frf⟩
theorem inv_hand {a : Addr} (I : Inv X pins σ H s) : Inv (Cx.hand X a) pins σ H s := ⟨ok_hand I.ok, I.os, I.bare, I.base, I.loc, I.cell, I.free, I.freeC, I.pin, I.hok, I.len⟩
theorem inv_unhand {a : Addr} (ok : X.Ok) (I : Inv (Cx.hand X a) pins σ H s) : Inv X pins σ H s := ⟨ok, I.os, I.bare, I.base, I.loc, I.cell, I.free, I.freeC, I.pin, I.hok, I.len⟩
theorem sp_unhand {a : Addr} {D : Ends} (ok : X.Ok) : ∀ {f : Flow}, SP (Cx.hand X a) pins D f s → SP X pins D f s
  | .next, ⟨σ', H', I, q⟩ => ⟨σ', H', inv_unhand ok I, q⟩
  | .brk, ⟨σ', H', I, q⟩ => ⟨σ', H', inv_unhand ok I, q⟩
  | .cont, ⟨σ', H', I, q⟩ => ⟨σ', H', inv_unhand ok I, q⟩
  | .ret _, ⟨v, σ', H', I, r, q⟩ => ⟨v, σ', H', inv_unhand ok I, r, q⟩
theorem inv_after {Hc H' : Hp} {sc s1 : Shared} {B : Heap} {a : Addr} {cls a0 : Value} {h' : Heap} (I : Inv X pins σ Hc sc) (ho : s1.os = sc.os) (hg : AllBare s1.gens) (un : Un (frs X.stack) [] Hc H' sc.heap s1.heap) (hok : HOk X.prog X.w H' s1.heap)
    (cov : Cov B sc.heap H' (frs X.stack) s1.heap) (fl : Air B X.stack a cls a0 s1.heap) (st : B.StaysIn h') (ups : s1.heap.UpToSlots h') : Inv X pins σ H' { s1 with heap := h' } := by
  have fre : ∀ b ∈ frs X.stack, H' b = none := fun b hb => by
    obtain ⟨_, o, hob, _⟩ := I.stack.mem hb
    exact un.free b o hob (I.stkFree b hb) (by simp)
  have trk : ∀ b u, H' b = some u → b ∉ frs X.stack := fun b u q hm => by rw [fre b hm] at q; cases q
  have keepB : ∀ b o, s1.heap.get? b = some o → ((∃ u, H' b = some u) ∨ ∃ o0, sc.heap.get? b = some o0) → b ∉ frs X.stack → h'.get? b = some o := fun b o q c nm => st b o (cov b o q c nm)
  have slotB : ∀ b o, s1.heap.get? b = some o → b ∈ frs X.stack → ∃ sl, h'.get? b = some { o with slots := sl } := fun b o q hm => by
    obtain ⟨_, o', ho', hnf⟩ := fl.frames.mem hm
    have e : o = o' := Option.some.inj (q.symm.trans ho')
    subst e
    exact ups b o q hnf
  have un' : Un (frs X.stack) [] Hc H' sc.heap h' := ⟨fun b o q n hb hx => keepB b o (un.keep b o q n hb hx) (.inr ⟨o, q⟩) hb, fun b o q n hb hx => by
      obtain ⟨sl, z⟩ := un.slot b o q n hb hx
      obtain ⟨sl2, z2⟩ := slotB b _ z hb
      exact ⟨sl2, z2⟩, un.free, fun b o q hx => by
      obtain ⟨o1, z⟩ := un.there b o q hx
      by_cases hm : b ∈ frs X.stack
      · obtain ⟨sl, z2⟩ := slotB b _ z hm; exact ⟨_, z2⟩
      · exact ⟨_, keepB b _ z (.inr ⟨o, q⟩) hm⟩, un.tups, un.frzs, un.tbls⟩
  refine I.call' (s' := { s1 with heap := h' }) ho un' (fun b u q => ?_) hg fun b hb => by cases hb
  refine (hok b u q).stay (fun c v hc q2 => ?_) (fun _ q => q) fun _ _ q => q
  rcases hc with rfl | hc
  · exact keepB c v q2 (.inl ⟨u, q⟩) (trk c u q)
  · exact keepB c v q2 (.inl ⟨_, hc⟩) (trk c _ hc)
end
section
variable {X : Cx} {body suite : List Stmt} {b0 : Stmt} {c : Str} {np hpos pos : Pos} {tb : DXK → DTS} {ts : DTS}
theorem env_none {K : PySem.W.Frag} {H : Hp} {n : Nat} : EnvOk K H (List.replicate n none) (List.replicate n none) := ⟨by simp, fun i d z => by
  rw [List.getElem?_replicate] at z
  split at z <;> cases z⟩
end
section
variable {X : Cx} {body suite : List Stmt} {b0 : Stmt} {c : Str} {np hpos pos : Pos} {tb : DXK → DTS} {ts : DTS}
end
end DL

namespace DL
open PySem PySem.Spec L2
noncomputable def BlK (x : D) (M : Mem) (Q : Bool → Mem → Prop) : Prop := ∃ k, x = .bl k ∧ Q k M
noncomputable def IfK (c : Bool) (A B : Prop) : Prop := if c = true then A else B
noncomputable def SzK (n : Nat) (A : Prop) : Prop := n ≤ sizeLine ∧ A
noncomputable def ParK (i j : Nat) (ds : List D) (F : DEnds) (e : Ev) (M : Mem) : Prop := ∃ x y, ds = [x, y] ∧ F.nx ((e.set i (some x)).set j (some y)) M
noncomputable def SeqK (x : D) (M : Mem) (Q : List D → (Mem → Prop) → Mem → Prop) : Prop := ∃ ds, seqD M x ds ∧ Q ds (fun M' => seqD M' x ds) M
noncomputable def ZipK (xs : List D) (M : Mem) (Q : List D → (Mem → Prop) → Mem → Prop) : Prop := ∃ x y ds es, xs = [x, y] ∧ seqD M x ds ∧ seqD M y es ∧ Q (zipD ds es) (fun M' => seqD M' x ds ∧ seqD M' y es) M
noncomputable def RngK (xs : List D) (M : Mem) (Q : List D → (Mem → Prop) → Mem → Prop) : Prop := ∃ j : Int, xs = [.int j] ∧ -(2 ^ 62) ≤ j ∧ j < 2 ^ 62 ∧ Q (rangeD 0 j.toNat) (fun _ => True) M
noncomputable def ForK (g : DTG) (tb : DTS) (F : DEnds) (ds : List D) (stay : Mem → Prop) (e : Ev) (M1 : Mem) : Prop := ∃ W : Nat → Ev → Mem → Prop, W 0 e M1 ∧ (∀ i e M, i ≤ ds.length → W i e M → stay M) ∧
  (∀ (i : Nat) (d : D) e M, ds[i]? = some d → W i e M → g d e M fun e2 M2 => tb { F with nx := W (i + 1), ct := W (i + 1), bk := F.nx } e2 M2) ∧ ∀ e M, W ds.length e M → F.nx e M
noncomputable def PartK (x : D) (M : Mem) (Q : Option Int → Mem → Prop) : Prop := ∃ i, x = .int i ∧ Q (some i) M
noncomputable def FgtK (x : D) (M1 : Mem) (R : DK) : Prop := ∃ M2 : Mem, (∀ b o, M2 b = some o → M1 b = some o) ∧ R x M2
noncomputable def LMK (x : D) (M : Mem) (A : Prop) : Prop := (∃ l ds, x = .ref l ∧ M l = some (.lst ds)) ∧ A
end DL
namespace DL
open PySem PySem.Spec L2
open PyProof.Rows hiding St

section
variable {e : Ev} {M : Mem} {R : DK} {F : DEnds} {ta tb tc : DTE} {tA tB : DTT} {tr : DTA} {t u : DTS}
theorem z_C {d : D} : dC d e M R = R d M := rfl
theorem z_Op {g : DR2} : dOp g ta tb e M R = ta e M fun x M1 => tb e M1 fun y M2 => g x y M2 R := rfl
theorem z_Un {g : D → Mem → DK → Prop} : dUn g ta e M R = ta e M fun x M1 => g x M1 R := rfl
theorem z_fI {f : Int → Int → D} {i j : Int} : gF (fI f) (.int i) (.int j) M R = R (f i j) M := propext ⟨fun zz => by obtain ⟨_, h, r⟩ := zz; cases h; exact r, fun r => ⟨_, rfl, r⟩⟩
theorem z_fB {f : Bool → Bool → D} {i j : Bool} : gF (fB f) (.bl i) (.bl j) M R = R (f i j) M := propext ⟨fun zz => by obtain ⟨_, h, r⟩ := zz; cases h; exact r, fun r => ⟨_, rfl, r⟩⟩
theorem z_fS {f : Str → Str → D} {i j : Str} : gF (fS f) (.str i) (.str j) M R = R (f i j) M := propext ⟨fun zz => by obtain ⟨_, h, r⟩ := zz; cases h; exact r, fun r => ⟨_, rfl, r⟩⟩
theorem z_gI {C : Int → Int → Prop} {f : Int → Int → D} {i j : Int} : gI C f (.int i) (.int j) M R = (C i j ∧ R (f i j) M) := propext ⟨fun zz => by obtain ⟨_, _, h1, h2, c, r⟩ := zz; cases h1; cases h2; exact ⟨c, r⟩, fun ⟨c, r⟩ => ⟨_, _, rfl, rfl, c, r⟩⟩
theorem z_gU {f : Int → D} {i : Int} : gU f (.int i) M R = R (f i) M := propext ⟨fun zz => by obtain ⟨_, h, r⟩ := zz; cases h; exact r, fun r => ⟨_, rfl, r⟩⟩
theorem z_Test {Q : Bool → Mem → Prop} : dTest ta e M Q = ta e M fun x M' => BlK x M' Q := rfl
theorem z_BlK {b : Bool} {Q : Bool → Mem → Prop} : BlK (.bl b) M Q = Q b M := propext ⟨fun zz => by obtain ⟨_, h, r⟩ := zz; cases h; exact r, fun r => ⟨_, rfl, r⟩⟩
theorem z_And {Q : Bool → Mem → Prop} : dAnd tA tB e M Q = tA e M fun c M1 => IfK c (tB e M1 Q) (Q false M1) := rfl
theorem z_Or {Q : Bool → Mem → Prop} : dOr tA tB e M Q = tA e M fun c M1 => IfK c (Q true M1) (tB e M1 Q) := rfl
theorem z_Not {Q : Bool → Mem → Prop} : dNot tA e M Q = tA e M fun c M1 => Q (!c) M1 := rfl
theorem z_AndV : dAndV ta tb e M R = ta e M fun x M1 => BlK x M1 fun c M1 => IfK c (tb e M1 R) (R (.bl false) M1) := rfl
theorem z_OrV : dOrV ta tb e M R = ta e M fun x M1 => BlK x M1 fun c M1 => IfK c (R (.bl true) M1) (tb e M1 R) := rfl
theorem z_NotV : dNotV ta e M R = ta e M fun x M1 => BlK x M1 fun c M1 => R (.bl (!c)) M1 := rfl
theorem z_If : dIf tA ta tb e M R = tA e M fun c M1 => IfK c (ta e M1 R) (tb e M1 R) := rfl
theorem z_IfS : dIfS tA t u F e M = tA e M fun c M1 => IfK c (t F e M1) (u F e M1) := rfl
theorem z_Nil {Q : List D → Mem → Prop} : dNil e M Q = Q [] M := rfl
theorem z_Cons {Q : List D → Mem → Prop} : dCons ta tr e M Q = ta e M fun x M1 => tr e M1 fun xs M2 => Q (x :: xs) M2 := rfl
theorem z_Tup : dTup tr e M R = tr e M fun ds M1 => SzK ds.length (R (.tup ds) M1) := rfl
theorem z_Lst : dLst tr e M R = tr e M fun ds M1 => SzK ds.length (∀ p, M1 p = none → R (.ref p) (updM M1 p (.lst ds))) := rfl
theorem z_Ix {x y z : D} (h : ixD M x y = some z) : gIx x y M R = R z M := propext ⟨fun zz => by obtain ⟨_, h', r⟩ := zz; rw [h] at h'; cases h'; exact r, fun r => ⟨_, h, r⟩⟩
theorem z_Is {neg : Bool} {x y : D} {b : Bool} (h : isD x y = some b) : gIs neg x y M R = R (.bl (neg.xor b)) M := propext ⟨fun zz => by obtain ⟨_, h', r⟩ := zz; rw [h] at h'; cases h'; exact r, fun r => ⟨_, h, r⟩⟩
theorem z_EqC {neg : Bool} {x y : D} : gEqC neg x y M R = (cl 60 x = true ∧ cl 60 y = true ∧ R (.bl (neg.xor (@decide (x = y) (Classical.propDecidable _)))) M) := rfl
theorem z_Call {sp : DSp} {dds : List D} {Y : DXK} : dCall sp dds Y tr e M R = tr e M fun ds M1 => sp (ds ++ dds) M1 R Y := rfl
theorem z_CB {g : DRC} : dCB g tr e M R = tr e M fun ds M1 => g ds M1 R := rfl
theorem z_Next : dNext F e M = F.nx e M := rfl
theorem z_Seq : dSeq t u F e M = t { F with nx := u F } e M := rfl
theorem z_Drop : dDrop ta F e M = ta e M fun _ M1 => F.nx e M1 := rfl
theorem z_Ret : dRet ta F e M = ta e M F.rt := rfl
theorem z_Never : dNever F e M = False := rfl
variable {Q : Ev → Mem → Prop}
theorem z_gName {i : Nat} {d : D} : dgName i d e M Q = Q (e.set i (some d)) M := rfl
theorem z_gNil : dgNil [] e M Q = Q e M := propext ⟨fun h => h.2, fun h => ⟨rfl, h⟩⟩
theorem z_gCons {g : DTG} {gs : DTGs} {d : D} {ds : List D} : dgCons g gs (d :: ds) e M Q = g d e M fun e' M' => gs ds e' M' Q := propext ⟨fun zz => by obtain ⟨_, _, h, r⟩ := zz; cases h; exact r, fun r => ⟨_, _, rfl, r⟩⟩
theorem z_gTup {n : Nat} {gs : DTGs} {ds : List D} (h : ds.length = n) : dgTup n gs (.tup ds) e M Q = gs ds e M Q := propext ⟨fun zz => by obtain ⟨_, h', _, r⟩ := zz; cases h'; exact r, fun r => ⟨_, rfl, h, r⟩⟩
theorem z_gSub {to ti : DTE} {ts : DTSet} {d : D} : dgSub to ti ts d e M Q = to e M fun o M1 => ti e M1 fun i M2 => ts o i d M2 fun M3 => Q e M3 := rfl
theorem z_Asg {g : DTG} : dAsg ta g F e M = ta e M fun x M1 => g x e M1 F.nx := rfl
theorem z_Par {i j : Nat} : dPar i j tr F e M = tr e M fun ds M1 => ParK i j ds F e M1 := rfl
theorem z_ParK {i j : Nat} {x y : D} : ParK i j [x, y] F e M = F.nx ((e.set i (some x)).set j (some y)) M := propext ⟨fun zz => by obtain ⟨_, _, h, r⟩ := zz; cases h; exact r, fun r => ⟨_, _, rfl, r⟩⟩
theorem z_Abs {i : Int} : gAbs [.int i] M R = R (.int (i.natAbs : Int)) M := propext ⟨fun zz => by obtain ⟨_, h, r⟩ := zz; cases h; exact r, fun r => ⟨_, rfl, r⟩⟩
theorem z_Max {i j : Int} : gMax [.int i, .int j] M R = R (.int (max i j)) M := propext ⟨fun zz => by obtain ⟨_, _, h, r⟩ := zz; cases h; exact r, fun r => ⟨_, _, rfl, r⟩⟩
theorem z_Len {d : D} {n : Nat} (h : lenD M d = some n) : gLen [d] M R = R (.int (n : Int)) M := propext ⟨fun zz => by obtain ⟨_, _, h', h2, r⟩ := zz; cases h'; rw [h] at h2; cases h2; exact r, fun r => ⟨_, _, rfl, h, r⟩⟩
theorem z_IntB {b : Bool} : gIntB [.bl b] M R = R (.int (if b then 1 else 0)) M := propext ⟨fun zz => by obtain ⟨_, h, r⟩ := zz; cases h; exact r, fun r => ⟨_, rfl, r⟩⟩
theorem z_Isi {d : D} {ty T : String} {b : Bool} (h1 : tyD M d = some ty) (h2 : subT ty T = some b) : gIsi [d, .ty T] M R = R (.bl b) M := propext ⟨fun zz => by
  obtain ⟨_, _, _, _, h, h1', h2', r⟩ := zz
  injection h with h h'; subst h; injection h' with h'; injection h' with h'; subst h'
  rw [h1] at h1'; cases h1'; rw [h2] at h2'; cases h2'; exact r, fun r => ⟨_, _, _, _, rfl, h1, h2, r⟩⟩
theorem z_Isi2 {d : D} {ty T1 T2 : String} {b : Bool} (h1 : tyD M d = some ty) (h2 : subT2 ty T1 T2 = some b) : gIsi2 [d, .tup [.ty T1, .ty T2]] M R = R (.bl b) M := propext ⟨fun zz => by
  obtain ⟨_, _, _, _, _, h, h1', h2', r⟩ := zz
  injection h with h h'; subst h; injection h' with h'; injection h' with h'; injection h' with h3 h4; injection h3 with h3; injection h4 with h4; injection h4 with h4; subst h3; subst h4
  rw [h1] at h1'; cases h1'; rw [h2] at h2'; cases h2'; exact r, fun r => ⟨_, _, _, _, _, rfl, h1, h2, r⟩⟩
theorem z_IfK {c : Bool} {A B : Prop} : IfK c A B = ((c = true → A) ∧ (c = false → B)) := by cases c <;> simp [IfK]
theorem z_IfT {A B : Prop} : IfK true A B = A := by simp [IfK]
theorem z_IfF {A B : Prop} : IfK false A B = B := by simp [IfK]
theorem z_SzK {n : Nat} {A : Prop} (h : n ≤ 1000) : SzK n A = A := propext ⟨fun h => h.2, fun a => ⟨sl n h, a⟩⟩

theorem z_v0 {d : D} {r : Ev} : dVar 0 (some d :: r) M R = R d M := propext ⟨fun zz => by obtain ⟨_, h, q⟩ := zz; cases h; exact q, fun q => ⟨_, rfl, q⟩⟩
theorem z_s0 {y z : Option D} {r : Ev} : (y :: r : Ev).set 0 z = z :: r := rfl
theorem z_v1 {x0 : Option D} {d : D} {r : Ev} : dVar 1 (x0 :: some d :: r) M R = R d M := propext ⟨fun zz => by obtain ⟨_, h, q⟩ := zz; cases h; exact q, fun q => ⟨_, rfl, q⟩⟩
theorem z_s1 {x0 : Option D} {y z : Option D} {r : Ev} : (x0 :: y :: r : Ev).set 1 z = x0 :: z :: r := rfl
theorem z_v2 {x0 x1 : Option D} {d : D} {r : Ev} : dVar 2 (x0 :: x1 :: some d :: r) M R = R d M := propext ⟨fun zz => by obtain ⟨_, h, q⟩ := zz; cases h; exact q, fun q => ⟨_, rfl, q⟩⟩
theorem z_s2 {x0 x1 : Option D} {y z : Option D} {r : Ev} : (x0 :: x1 :: y :: r : Ev).set 2 z = x0 :: x1 :: z :: r := rfl
theorem z_v3 {x0 x1 x2 : Option D} {d : D} {r : Ev} : dVar 3 (x0 :: x1 :: x2 :: some d :: r) M R = R d M := propext ⟨fun zz => by obtain ⟨_, h, q⟩ := zz; cases h; exact q, fun q => ⟨_, rfl, q⟩⟩
theorem z_s3 {x0 x1 x2 : Option D} {y z : Option D} {r : Ev} : (x0 :: x1 :: x2 :: y :: r : Ev).set 3 z = x0 :: x1 :: x2 :: z :: r := rfl
theorem z_v4 {x0 x1 x2 x3 : Option D} {d : D} {r : Ev} : dVar 4 (x0 :: x1 :: x2 :: x3 :: some d :: r) M R = R d M := propext ⟨fun zz => by obtain ⟨_, h, q⟩ := zz; cases h; exact q, fun q => ⟨_, rfl, q⟩⟩
theorem z_s4 {x0 x1 x2 x3 : Option D} {y z : Option D} {r : Ev} : (x0 :: x1 :: x2 :: x3 :: y :: r : Ev).set 4 z = x0 :: x1 :: x2 :: x3 :: z :: r := rfl
theorem z_v5 {x0 x1 x2 x3 x4 : Option D} {d : D} {r : Ev} : dVar 5 (x0 :: x1 :: x2 :: x3 :: x4 :: some d :: r) M R = R d M := propext ⟨fun zz => by obtain ⟨_, h, q⟩ := zz; cases h; exact q, fun q => ⟨_, rfl, q⟩⟩
theorem z_s5 {x0 x1 x2 x3 x4 : Option D} {y z : Option D} {r : Ev} : (x0 :: x1 :: x2 :: x3 :: x4 :: y :: r : Ev).set 5 z = x0 :: x1 :: x2 :: x3 :: x4 :: z :: r := rfl
theorem z_v6 {x0 x1 x2 x3 x4 x5 : Option D} {d : D} {r : Ev} : dVar 6 (x0 :: x1 :: x2 :: x3 :: x4 :: x5 :: some d :: r) M R = R d M := propext ⟨fun zz => by obtain ⟨_, h, q⟩ := zz; cases h; exact q, fun q => ⟨_, rfl, q⟩⟩
theorem z_s6 {x0 x1 x2 x3 x4 x5 : Option D} {y z : Option D} {r : Ev} : (x0 :: x1 :: x2 :: x3 :: x4 :: x5 :: y :: r : Ev).set 6 z = x0 :: x1 :: x2 :: x3 :: x4 :: x5 :: z :: r := rfl
theorem z_v7 {x0 x1 x2 x3 x4 x5 x6 : Option D} {d : D} {r : Ev} : dVar 7 (x0 :: x1 :: x2 :: x3 :: x4 :: x5 :: x6 :: some d :: r) M R = R d M := propext ⟨fun zz => by obtain ⟨_, h, q⟩ := zz; cases h; exact q, fun q => ⟨_, rfl, q⟩⟩
theorem z_s7 {x0 x1 x2 x3 x4 x5 x6 : Option D} {y z : Option D} {r : Ev} : (x0 :: x1 :: x2 :: x3 :: x4 :: x5 :: x6 :: y :: r : Ev).set 7 z = x0 :: x1 :: x2 :: x3 :: x4 :: x5 :: x6 :: z :: r := rfl
theorem z_v8 {x0 x1 x2 x3 x4 x5 x6 x7 : Option D} {d : D} {r : Ev} : dVar 8 (x0 :: x1 :: x2 :: x3 :: x4 :: x5 :: x6 :: x7 :: some d :: r) M R = R d M := propext ⟨fun zz => by obtain ⟨_, h, q⟩ := zz; cases h; exact q, fun q => ⟨_, rfl, q⟩⟩
theorem z_s8 {x0 x1 x2 x3 x4 x5 x6 x7 : Option D} {y z : Option D} {r : Ev} : (x0 :: x1 :: x2 :: x3 :: x4 :: x5 :: x6 :: x7 :: y :: r : Ev).set 8 z = x0 :: x1 :: x2 :: x3 :: x4 :: x5 :: x6 :: x7 :: z :: r := rfl
theorem z_v9 {x0 x1 x2 x3 x4 x5 x6 x7 x8 : Option D} {d : D} {r : Ev} : dVar 9 (x0 :: x1 :: x2 :: x3 :: x4 :: x5 :: x6 :: x7 :: x8 :: some d :: r) M R = R d M := propext ⟨fun zz => by obtain ⟨_, h, q⟩ := zz; cases h; exact q, fun q => ⟨_, rfl, q⟩⟩
theorem z_s9 {x0 x1 x2 x3 x4 x5 x6 x7 x8 : Option D} {y z : Option D} {r : Ev} : (x0 :: x1 :: x2 :: x3 :: x4 :: x5 :: x6 :: x7 :: x8 :: y :: r : Ev).set 9 z = x0 :: x1 :: x2 :: x3 :: x4 :: x5 :: x6 :: x7 :: x8 :: z :: r := rfl
theorem z_v10 {x0 x1 x2 x3 x4 x5 x6 x7 x8 x9 : Option D} {d : D} {r : Ev} : dVar 10 (x0 :: x1 :: x2 :: x3 :: x4 :: x5 :: x6 :: x7 :: x8 :: x9 :: some d :: r) M R = R d M := propext ⟨fun zz => by obtain ⟨_, h, q⟩ := zz; cases h; exact q, fun q => ⟨_, rfl, q⟩⟩
theorem z_s10 {x0 x1 x2 x3 x4 x5 x6 x7 x8 x9 : Option D} {y z : Option D} {r : Ev} : (x0 :: x1 :: x2 :: x3 :: x4 :: x5 :: x6 :: x7 :: x8 :: x9 :: y :: r : Ev).set 10 z = x0 :: x1 :: x2 :: x3 :: x4 :: x5 :: x6 :: x7 :: x8 :: x9 :: z :: r := rfl
theorem seqD_tup {M : Mem} {ds es : List D} : seqD M (.tup ds) es = (es = ds) := by
  apply propext
  constructor
  · intro h
    rcases h with h | ⟨_, h, _⟩ | h
    · injection h with h; exact h.symm
    · exact absurd h (by intro z; cases z)
    · exact absurd h (by intro z; cases z)
  · intro h; exact .inl (by rw [h])
theorem seqD_vl {M : Mem} {ds es : List D} : seqD M (.vl ds) es = (es = ds) := by
  apply propext
  constructor
  · intro h
    rcases h with h | ⟨_, h, _⟩ | h
    · exact absurd h (by intro z; cases z)
    · exact absurd h (by intro z; cases z)
    · injection h with h; exact h.symm
  · intro h; exact .inr (.inr (by rw [h]))
theorem atI_lit {ds : List D} {n : Nat} {d : D} (h : ds[n]? = some d) : atI ds (n : Int) = some d := by
  obtain ⟨hl, _⟩ := List.getElem?_eq_some_iff.mp h
  unfold atI ixN
  rw [if_pos (Int.natCast_nonneg n), if_pos (by omega)]
  simpa using h
theorem seqD_ref {M : Mem} {p : Addr} {ds : List D} (h : M p = some (.lst ds)) : seqD M (.ref p) ds := .inr (.inl ⟨p, rfl, h⟩)
theorem z_LstV : dLstV tr e M R = tr e M fun ds M1 => SzK ds.length (R (.vl ds) M1) := rfl
theorem z_CatV : dCatV ta tb e M R = ta e M fun x M1 => tb e M1 fun y M2 => gCatV x y M2 R := rfl
theorem z_NoPart {Q : Option Int → Mem → Prop} : dNoPart e M Q = Q none M := rfl
theorem z_Part {Q : Option Int → Mem → Prop} : dPart ta e M Q = ta e M fun x M1 => PartK x M1 Q := rfl
theorem z_PartK {i : Int} {Q : Option Int → Mem → Prop} : PartK (.int i) M Q = Q (some i) M := propext ⟨fun zz => by obtain ⟨_, h, r⟩ := zz; cases h; exact r, fun r => ⟨_, rfl, r⟩⟩
theorem z_gCatVl {xs ys : List D} : gCatV (.vl xs) (.vl ys) M R = SzK (xs.length + ys.length) (R (.vl (xs ++ ys)) M) := propext ⟨fun zz => by obtain ⟨_, _, h, h2, z, r⟩ := zz; cases h; cases h2; exact ⟨z, r⟩, fun ⟨z, r⟩ => ⟨_, _, rfl, rfl, z, r⟩⟩
theorem z_CompV {n : Nat} {caps : List Nat} {ti : DTI} {g : DTG} {tc : DTIfs} {te : DTE} : dCompV n caps ti g tc te e M R = ti e M fun ds stay M1 => CompV (capE n caps e) g tc te ds stay M1 R := rfl
theorem z_Yes {Q : Bool → Mem → Prop} : dYes e M Q = Q true M := rfl
section
variable {Q : List D → (Mem → Prop) → Mem → Prop}
theorem z_diSeq : diSeq ta e M Q = ta e M fun x M1 => SeqK x M1 Q := rfl
theorem z_SeqT {ds : List D} : SeqK (.tup ds) M Q = Q ds (fun M' => seqD M' (.tup ds) ds) M := propext ⟨fun zz => by obtain ⟨_, h, r⟩ := zz; rw [seqD_tup] at h; subst h; exact r, fun r => ⟨_, .inl rfl, r⟩⟩
theorem z_SeqV {ds : List D} : SeqK (.vl ds) M Q = Q ds (fun M' => seqD M' (.vl ds) ds) M := propext ⟨fun zz => by obtain ⟨_, h, r⟩ := zz; rw [seqD_vl] at h; subst h; exact r, fun r => ⟨_, .inr (.inr rfl), r⟩⟩
theorem z_diZip : diZip tr e M Q = tr e M fun xs M1 => ZipK xs M1 Q := rfl
theorem z_ZipTT {ds es : List D} : ZipK [.tup ds, .tup es] M Q = Q (zipD ds es) (fun M' => seqD M' (.tup ds) ds ∧ seqD M' (.tup es) es) M := propext ⟨fun zz => by obtain ⟨_, _, _, _, h, h2, h3, r⟩ := zz; cases h; rw [seqD_tup] at h2 h3; subst h2; subst h3; exact r, fun r => ⟨_, _, _, _, rfl, .inl rfl, .inl rfl, r⟩⟩
theorem z_ZipVV {ds es : List D} : ZipK [.vl ds, .vl es] M Q = Q (zipD ds es) (fun M' => seqD M' (.vl ds) ds ∧ seqD M' (.vl es) es) M := propext ⟨fun zz => by obtain ⟨_, _, _, _, h, h2, h3, r⟩ := zz; cases h; rw [seqD_vl] at h2 h3; subst h2; subst h3; exact r, fun r => ⟨_, _, _, _, rfl, .inr (.inr rfl), .inr (.inr rfl), r⟩⟩
theorem z_ZipTV {ds es : List D} : ZipK [.tup ds, .vl es] M Q = Q (zipD ds es) (fun M' => seqD M' (.tup ds) ds ∧ seqD M' (.vl es) es) M := propext ⟨fun zz => by obtain ⟨_, _, _, _, h, h2, h3, r⟩ := zz; cases h; rw [seqD_tup] at h2; rw [seqD_vl] at h3; subst h2; subst h3; exact r, fun r => ⟨_, _, _, _, rfl, .inl rfl, .inr (.inr rfl), r⟩⟩
theorem z_ZipVT {ds es : List D} : ZipK [.vl ds, .tup es] M Q = Q (zipD ds es) (fun M' => seqD M' (.vl ds) ds ∧ seqD M' (.tup es) es) M := propext ⟨fun zz => by obtain ⟨_, _, _, _, h, h2, h3, r⟩ := zz; cases h; rw [seqD_vl] at h2; rw [seqD_tup] at h3; subst h2; subst h3; exact r, fun r => ⟨_, _, _, _, rfl, .inr (.inr rfl), .inl rfl, r⟩⟩
theorem z_diRng : diRng tr e M Q = tr e M fun xs M1 => RngK xs M1 Q := rfl
theorem z_RngK {j : Int} : RngK [.int j] M Q = ((-(2 ^ 62) ≤ j ∧ j < 2 ^ 62) ∧ Q (rangeD 0 j.toNat) (fun _ => True) M) := propext ⟨fun zz => by obtain ⟨_, h, a, b, r⟩ := zz; cases h; exact ⟨⟨a, b⟩, r⟩, fun ⟨⟨a, b⟩, r⟩ => ⟨_, rfl, a, b, r⟩⟩
end
theorem z_For {ti : DTI} {g : DTG} : dFor ti g t F e M = ti e M fun ds stay M1 => ForK g t F ds stay e M1 := rfl
theorem ForK.by {g : DTG} {ds : List D} {stay : Mem → Prop} {M1 : Mem} (W : Nat → Ev → Mem → Prop) (w0 : W 0 e M1) (st : ∀ i e M, i ≤ ds.length → W i e M → stay M)
    (turn : ∀ (i : Nat) (d : D) e M, ds[i]? = some d → W i e M → g d e M fun e2 M2 => t { F with nx := W (i + 1), ct := W (i + 1), bk := F.nx } e2 M2) (done : ∀ e M, W ds.length e M → F.nx e M) : ForK g t F ds stay e M1 := ⟨W, w0, st, turn, done⟩
theorem WhileBy {F : DEnds} (W : Nat → Ev → Mem → Prop) (m : Nat) (w0 : W m e M) (turn : ∀ m e M, W m e M → tA e M fun b M1 => IfK b (t { F with nx := fun e' M' => ∃ m', m' < m ∧ W m' e' M', ct := fun e' M' => ∃ m', m' < m ∧ W m' e' M', bk := F.nx } e M1) (F.nx e M1)) : dWhile tA t F e M := ⟨W, ⟨m, w0⟩, turn⟩
theorem z_LM {g : DRM} : dLM g ta tr e M R = ta e M fun x M1 => LMK x M1 (tr e M1 fun xs M2 => g x xs M2 R) := rfl
theorem z_ixT0 {x0 : D} {r : List D} : gIx (.tup (x0 :: r)) (.int 0) M R = R x0 M := z_Ix (atI_lit (n := 0) rfl)
theorem z_ixV0 {x0 : D} {r : List D} : gIx (.vl (x0 :: r)) (.int 0) M R = R x0 M := z_Ix (atI_lit (n := 0) rfl)
theorem z_ixT1 {x0 x1 : D} {r : List D} : gIx (.tup (x0 :: x1 :: r)) (.int 1) M R = R x1 M := z_Ix (atI_lit (n := 1) rfl)
theorem z_ixV1 {x0 x1 : D} {r : List D} : gIx (.vl (x0 :: x1 :: r)) (.int 1) M R = R x1 M := z_Ix (atI_lit (n := 1) rfl)
theorem z_ixT2 {x0 x1 x2 : D} {r : List D} : gIx (.tup (x0 :: x1 :: x2 :: r)) (.int 2) M R = R x2 M := z_Ix (atI_lit (n := 2) rfl)
theorem z_ixV2 {x0 x1 x2 : D} {r : List D} : gIx (.vl (x0 :: x1 :: x2 :: r)) (.int 2) M R = R x2 M := z_Ix (atI_lit (n := 2) rfl)
theorem z_ixT3 {x0 x1 x2 x3 : D} {r : List D} : gIx (.tup (x0 :: x1 :: x2 :: x3 :: r)) (.int 3) M R = R x3 M := z_Ix (atI_lit (n := 3) rfl)
theorem z_ixV3 {x0 x1 x2 x3 : D} {r : List D} : gIx (.vl (x0 :: x1 :: x2 :: x3 :: r)) (.int 3) M R = R x3 M := z_Ix (atI_lit (n := 3) rfl)
theorem z_ixT4 {x0 x1 x2 x3 x4 : D} {r : List D} : gIx (.tup (x0 :: x1 :: x2 :: x3 :: x4 :: r)) (.int 4) M R = R x4 M := z_Ix (atI_lit (n := 4) rfl)
theorem z_ixV4 {x0 x1 x2 x3 x4 : D} {r : List D} : gIx (.vl (x0 :: x1 :: x2 :: x3 :: x4 :: r)) (.int 4) M R = R x4 M := z_Ix (atI_lit (n := 4) rfl)
theorem z_ixT5 {x0 x1 x2 x3 x4 x5 : D} {r : List D} : gIx (.tup (x0 :: x1 :: x2 :: x3 :: x4 :: x5 :: r)) (.int 5) M R = R x5 M := z_Ix (atI_lit (n := 5) rfl)
theorem z_ixV5 {x0 x1 x2 x3 x4 x5 : D} {r : List D} : gIx (.vl (x0 :: x1 :: x2 :: x3 :: x4 :: x5 :: r)) (.int 5) M R = R x5 M := z_Ix (atI_lit (n := 5) rfl)
theorem z_ixT6 {x0 x1 x2 x3 x4 x5 x6 : D} {r : List D} : gIx (.tup (x0 :: x1 :: x2 :: x3 :: x4 :: x5 :: x6 :: r)) (.int 6) M R = R x6 M := z_Ix (atI_lit (n := 6) rfl)
theorem z_ixV6 {x0 x1 x2 x3 x4 x5 x6 : D} {r : List D} : gIx (.vl (x0 :: x1 :: x2 :: x3 :: x4 :: x5 :: x6 :: r)) (.int 6) M R = R x6 M := z_Ix (atI_lit (n := 6) rfl)
theorem z_ixT7 {x0 x1 x2 x3 x4 x5 x6 x7 : D} {r : List D} : gIx (.tup (x0 :: x1 :: x2 :: x3 :: x4 :: x5 :: x6 :: x7 :: r)) (.int 7) M R = R x7 M := z_Ix (atI_lit (n := 7) rfl)
theorem z_ixV7 {x0 x1 x2 x3 x4 x5 x6 x7 : D} {r : List D} : gIx (.vl (x0 :: x1 :: x2 :: x3 :: x4 :: x5 :: x6 :: x7 :: r)) (.int 7) M R = R x7 M := z_Ix (atI_lit (n := 7) rfl)
theorem z_sz0 {A : Prop} : SzK (0) A = A := z_SzK (by decide)
theorem z_sz1 {A : Prop} : SzK (0 + 1) A = A := z_SzK (by decide)
theorem z_sz2 {A : Prop} : SzK (0 + 1 + 1) A = A := z_SzK (by decide)
theorem z_sz3 {A : Prop} : SzK (0 + 1 + 1 + 1) A = A := z_SzK (by decide)
theorem z_sz4 {A : Prop} : SzK (0 + 1 + 1 + 1 + 1) A = A := z_SzK (by decide)
theorem z_sz5 {A : Prop} : SzK (0 + 1 + 1 + 1 + 1 + 1) A = A := z_SzK (by decide)
theorem z_sz6 {A : Prop} : SzK (0 + 1 + 1 + 1 + 1 + 1 + 1) A = A := z_SzK (by decide)
theorem z_sz7 {A : Prop} : SzK (0 + 1 + 1 + 1 + 1 + 1 + 1 + 1) A = A := z_SzK (by decide)
theorem z_sz8 {A : Prop} : SzK (0 + 1 + 1 + 1 + 1 + 1 + 1 + 1 + 1) A = A := z_SzK (by decide)
theorem z_sz9 {A : Prop} : SzK (0 + 1 + 1 + 1 + 1 + 1 + 1 + 1 + 1 + 1) A = A := z_SzK (by decide)
theorem z_clI60 {i : Int} : cl 60 (.int i) = true := rfl
theorem z_clN60 : cl 60 .non = true := rfl
theorem z_clT60 {ds : List D} : cl 60 (.tup ds) = clL 59 ds := rfl
theorem z_clV60 {ds : List D} : cl 60 (.vl ds) = clL 59 ds := rfl
theorem z_cln59 : clL 59 [] = true := rfl
theorem z_clc59 {d : D} {r : List D} : clL 59 (d :: r) = (cl 59 d && clL 59 r) := rfl
theorem z_clI59 {i : Int} : cl 59 (.int i) = true := rfl
theorem z_clN59 : cl 59 .non = true := rfl
theorem z_clT59 {ds : List D} : cl 59 (.tup ds) = clL 58 ds := rfl
theorem z_clV59 {ds : List D} : cl 59 (.vl ds) = clL 58 ds := rfl
theorem z_cln58 : clL 58 [] = true := rfl
theorem z_clc58 {d : D} {r : List D} : clL 58 (d :: r) = (cl 58 d && clL 58 r) := rfl
theorem z_clI58 {i : Int} : cl 58 (.int i) = true := rfl
theorem z_clN58 : cl 58 .non = true := rfl
theorem z_clT58 {ds : List D} : cl 58 (.tup ds) = clL 57 ds := rfl
theorem z_clV58 {ds : List D} : cl 58 (.vl ds) = clL 57 ds := rfl
theorem z_cln57 : clL 57 [] = true := rfl
theorem z_clc57 {d : D} {r : List D} : clL 57 (d :: r) = (cl 57 d && clL 57 r) := rfl
theorem z_clI57 {i : Int} : cl 57 (.int i) = true := rfl
theorem z_clN57 : cl 57 .non = true := rfl
theorem z_clT57 {ds : List D} : cl 57 (.tup ds) = clL 56 ds := rfl
theorem z_clV57 {ds : List D} : cl 57 (.vl ds) = clL 56 ds := rfl
theorem z_cln56 : clL 56 [] = true := rfl
theorem z_clc56 {d : D} {r : List D} : clL 56 (d :: r) = (cl 56 d && clL 56 r) := rfl
theorem z_clI56 {i : Int} : cl 56 (.int i) = true := rfl
theorem z_clN56 : cl 56 .non = true := rfl
theorem z_clT56 {ds : List D} : cl 56 (.tup ds) = clL 55 ds := rfl
theorem z_clV56 {ds : List D} : cl 56 (.vl ds) = clL 55 ds := rfl
theorem z_cln55 : clL 55 [] = true := rfl
theorem z_clc55 {d : D} {r : List D} : clL 55 (d :: r) = (cl 55 d && clL 55 r) := rfl
theorem z_clI55 {i : Int} : cl 55 (.int i) = true := rfl
theorem z_clN55 : cl 55 .non = true := rfl
theorem z_clT55 {ds : List D} : cl 55 (.tup ds) = clL 54 ds := rfl
theorem z_clV55 {ds : List D} : cl 55 (.vl ds) = clL 54 ds := rfl
theorem z_cln54 : clL 54 [] = true := rfl
theorem z_clc54 {d : D} {r : List D} : clL 54 (d :: r) = (cl 54 d && clL 54 r) := rfl
theorem z_LenV {xs : List D} : gLen [.vl xs] M R = R (.int (xs.length : Int)) M := z_Len rfl
theorem z_LenT {xs : List D} : gLen [.tup xs] M R = R (.int (xs.length : Int)) M := z_Len rfl
theorem z_szk1 {A : Prop} : SzK 1 A = A := z_SzK (by decide)
theorem z_szk2 {A : Prop} : SzK 2 A = A := z_SzK (by decide)
theorem z_szk3 {A : Prop} : SzK 3 A = A := z_SzK (by decide)
theorem z_szk4 {A : Prop} : SzK 4 A = A := z_SzK (by decide)
theorem z_szk5 {A : Prop} : SzK 5 A = A := z_SzK (by decide)
theorem z_szk6 {A : Prop} : SzK 6 A = A := z_SzK (by decide)
theorem z_szk7 {A : Prop} : SzK 7 A = A := z_SzK (by decide)
theorem z_szk8 {A : Prop} : SzK 8 A = A := z_SzK (by decide)
theorem z_szk9 {A : Prop} : SzK 9 A = A := z_SzK (by decide)
theorem z_szk10 {A : Prop} : SzK 10 A = A := z_SzK (by decide)
theorem z_szk11 {A : Prop} : SzK 11 A = A := z_SzK (by decide)
theorem z_szk12 {A : Prop} : SzK 12 A = A := z_SzK (by decide)
theorem z_AllV {bs : List Bool} : gAll [.vl (bs.map D.bl)] M R = R (.bl (bs.all id)) M := propext ⟨fun zz => by
  obtain ⟨_, bs', e, h, r⟩ := zz
  cases e
  have e2 : bs.map D.bl = bs'.map D.bl := Option.some.inj h
  have e3 : bs = bs' := (List.map_inj_right (fun a b z => by injection z)).mp e2
  subst e3; exact r, fun r => ⟨_, bs, rfl, rfl, r⟩⟩
theorem z_AnyV {bs : List Bool} : gAny [.vl (bs.map D.bl)] M R = R (.bl (bs.any id)) M := propext ⟨fun zz => by
  obtain ⟨_, bs', e, h, r⟩ := zz
  cases e
  have e2 : bs.map D.bl = bs'.map D.bl := Option.some.inj h
  have e3 : bs = bs' := (List.map_inj_right (fun a b z => by injection z)).mp e2
  subst e3; exact r, fun r => ⟨_, bs, rfl, rfl, r⟩⟩
theorem z_mapB {α : Type} {xs : List α} {f : α → Bool} : xs.map (fun x => D.bl (f x)) = (xs.map f).map D.bl := by rw [List.map_map]; rfl
theorem z_isi2T {ds : List D} : gIsi2 [.tup ds, .tup [.ty "tuple", .ty "list"]] M R = R (.bl true) M := z_Isi2 rfl rfl
theorem z_isi2V {ds : List D} : gIsi2 [.vl ds, .tup [.ty "tuple", .ty "list"]] M R = R (.bl true) M := z_Isi2 rfl rfl
theorem z_isi2I {i : Int} : gIsi2 [.int i, .tup [.ty "tuple", .ty "list"]] M R = R (.bl false) M := z_Isi2 rfl rfl
theorem z_isi2N : gIsi2 [.non, .tup [.ty "tuple", .ty "list"]] M R = R (.bl false) M := z_Isi2 rfl rfl
theorem z_isi2S {x : Str} : gIsi2 [.str x, .tup [.ty "tuple", .ty "list"]] M R = R (.bl false) M := z_Isi2 rfl rfl
theorem z_isi2B {b : Bool} : gIsi2 [.bl b, .tup [.ty "tuple", .ty "list"]] M R = R (.bl false) M := z_Isi2 rfl rfl
theorem z_isiDTuple : gIsi [.dic, .ty "tuple"] M R = R (.bl false) M := z_Isi rfl rfl
theorem z_isiDList : gIsi [.dic, .ty "list"] M R = R (.bl false) M := z_Isi rfl rfl
theorem z_isiDInt : gIsi [.dic, .ty "int"] M R = R (.bl false) M := z_Isi rfl rfl
theorem z_isiDBool : gIsi [.dic, .ty "bool"] M R = R (.bl false) M := z_Isi rfl rfl
theorem z_isiDStr : gIsi [.dic, .ty "str"] M R = R (.bl false) M := z_Isi rfl rfl
theorem z_isi2D : gIsi2 [.dic, .tup [.ty "tuple", .ty "list"]] M R = R (.bl false) M := z_Isi2 rfl rfl
theorem z_isi3T {ds : List D} : gIsi2 [.tup ds, .tup [.ty "list", .ty "tuple"]] M R = R (.bl true) M := z_Isi2 rfl rfl
theorem z_isi3V {ds : List D} : gIsi2 [.vl ds, .tup [.ty "list", .ty "tuple"]] M R = R (.bl true) M := z_Isi2 rfl rfl
theorem z_isi3I {i : Int} : gIsi2 [.int i, .tup [.ty "list", .ty "tuple"]] M R = R (.bl false) M := z_Isi2 rfl rfl
theorem z_isi3N  : gIsi2 [.non, .tup [.ty "list", .ty "tuple"]] M R = R (.bl false) M := z_Isi2 rfl rfl
theorem z_isi3S {x : Str} : gIsi2 [.str x, .tup [.ty "list", .ty "tuple"]] M R = R (.bl false) M := z_Isi2 rfl rfl
theorem z_isi3B {b : Bool} : gIsi2 [.bl b, .tup [.ty "list", .ty "tuple"]] M R = R (.bl false) M := z_Isi2 rfl rfl
theorem z_isi3D  : gIsi2 [.dic, .tup [.ty "list", .ty "tuple"]] M R = R (.bl false) M := z_Isi2 rfl rfl
noncomputable def StrK (x : D) (A : Prop) : Prop := ∃ sk, x = .str sk ∧ A
theorem z_StrK {x : Str} {A : Prop} : StrK (.str x) A = A := propext ⟨fun ⟨_, _, a⟩ => a, fun a => ⟨_, rfl, a⟩⟩
theorem z_isiTTuple {ds : List D} : gIsi [.tup ds, .ty "tuple"] M R = R (.bl true) M := z_Isi rfl rfl
theorem z_isiTList {ds : List D} : gIsi [.tup ds, .ty "list"] M R = R (.bl false) M := z_Isi rfl rfl
theorem z_isiTInt {ds : List D} : gIsi [.tup ds, .ty "int"] M R = R (.bl false) M := z_Isi rfl rfl
theorem z_isiTBool {ds : List D} : gIsi [.tup ds, .ty "bool"] M R = R (.bl false) M := z_Isi rfl rfl
theorem z_isiTStr {ds : List D} : gIsi [.tup ds, .ty "str"] M R = R (.bl false) M := z_Isi rfl rfl
theorem z_isiVTuple {ds : List D} : gIsi [.vl ds, .ty "tuple"] M R = R (.bl false) M := z_Isi rfl rfl
theorem z_isiVList {ds : List D} : gIsi [.vl ds, .ty "list"] M R = R (.bl true) M := z_Isi rfl rfl
theorem z_isiVInt {ds : List D} : gIsi [.vl ds, .ty "int"] M R = R (.bl false) M := z_Isi rfl rfl
theorem z_isiVBool {ds : List D} : gIsi [.vl ds, .ty "bool"] M R = R (.bl false) M := z_Isi rfl rfl
theorem z_isiVStr {ds : List D} : gIsi [.vl ds, .ty "str"] M R = R (.bl false) M := z_Isi rfl rfl
theorem z_isiITuple {i : Int} : gIsi [.int i, .ty "tuple"] M R = R (.bl false) M := z_Isi rfl rfl
theorem z_isiIList {i : Int} : gIsi [.int i, .ty "list"] M R = R (.bl false) M := z_Isi rfl rfl
theorem z_isiIInt {i : Int} : gIsi [.int i, .ty "int"] M R = R (.bl true) M := z_Isi rfl rfl
theorem z_isiIBool {i : Int} : gIsi [.int i, .ty "bool"] M R = R (.bl false) M := z_Isi rfl rfl
theorem z_isiIStr {i : Int} : gIsi [.int i, .ty "str"] M R = R (.bl false) M := z_Isi rfl rfl
theorem z_isiNTuple : gIsi [.non, .ty "tuple"] M R = R (.bl false) M := z_Isi rfl rfl
theorem z_isiNList : gIsi [.non, .ty "list"] M R = R (.bl false) M := z_Isi rfl rfl
theorem z_isiNInt : gIsi [.non, .ty "int"] M R = R (.bl false) M := z_Isi rfl rfl
theorem z_isiNBool : gIsi [.non, .ty "bool"] M R = R (.bl false) M := z_Isi rfl rfl
theorem z_isiNStr : gIsi [.non, .ty "str"] M R = R (.bl false) M := z_Isi rfl rfl
theorem z_isiSTuple {x : Str} : gIsi [.str x, .ty "tuple"] M R = R (.bl false) M := z_Isi rfl rfl
theorem z_isiSList {x : Str} : gIsi [.str x, .ty "list"] M R = R (.bl false) M := z_Isi rfl rfl
theorem z_isiSInt {x : Str} : gIsi [.str x, .ty "int"] M R = R (.bl false) M := z_Isi rfl rfl
theorem z_isiSBool {x : Str} : gIsi [.str x, .ty "bool"] M R = R (.bl false) M := z_Isi rfl rfl
theorem z_isiSStr {x : Str} : gIsi [.str x, .ty "str"] M R = R (.bl true) M := z_Isi rfl rfl
theorem z_isiBTuple {b : Bool} : gIsi [.bl b, .ty "tuple"] M R = R (.bl false) M := z_Isi rfl rfl
theorem z_isiBList {b : Bool} : gIsi [.bl b, .ty "list"] M R = R (.bl false) M := z_Isi rfl rfl
theorem z_isiBInt {b : Bool} : gIsi [.bl b, .ty "int"] M R = R (.bl true) M := z_Isi rfl rfl
theorem z_isiBBool {b : Bool} : gIsi [.bl b, .ty "bool"] M R = R (.bl true) M := z_Isi rfl rfl
theorem z_isiBStr {b : Bool} : gIsi [.bl b, .ty "str"] M R = R (.bl false) M := z_Isi rfl rfl
theorem z_Fgt : dFgt ta e M R = ta e M fun x M1 => FgtK x M1 R := rfl
theorem LMK_of {l : Addr} {ds : List D} {A : Prop} (h : M l = some (.lst ds)) (a : A) : LMK (.ref l) M A := ⟨⟨l, ds, rfl, h⟩, a⟩
theorem App_of {l : Addr} {ds : List D} {v : D} (h : M l = some (.lst ds)) (hz : ds.length < 1000) (r : R .non (updM M l (.lst (ds ++ [v])))) : gAppend (.ref l) [v] M R := ⟨l, ds, v, rfl, rfl, h, Nat.lt_of_lt_of_le hz (by decide), r⟩
theorem Fgt_of {x : D} {M1 M2 : Mem} (h : ∀ b o, M2 b = some o → M1 b = some o) (r : R x M2) : FgtK x M1 R := ⟨M2, h, r⟩
theorem z_Chain {g g' : DR2} {tc : DTE} : dChain g g' ta tb tc e M R = ta e M fun x M1 => tb e M1 fun y M2 => g x y M2 fun z M3 => BlK z M3 fun k M4 => IfK k (tc e M4 fun w M5 => g' y w M5 R) (R (.bl false) M4) := rfl
theorem z_Raise {x : Str} {Y : DXK} {te : DTE} {F : DEnds} : dRaise x Y te F e M = te e M fun _ M1 => Y (xN x) M1 := rfl
theorem z_CallX {sp : DSp} {Y : DXK} : dCallX sp Y tr e M R = tr e M fun ds M1 => sp (ds ++ []) M1 R Y := rfl
end
end DL

namespace DL
open PySem PySem.Spec L2
open PyProof.Rows hiding St
theorem all0 {p : Str → Prop} : ∀ x ∈ ([] : List Str), p x := fun _ h => nomatch h
section
variable {e0 : Ev} {g : DTG} {te : DTE} {tc : DTIfs} {ds : List D} {stay : Mem → Prop} {M1 : Mem} {E : List D → Mem → Prop}
theorem compV_map {α : Type} {xs : List α} {enc : α → D} (f : α → D) (hn : xs.length ≤ 1000) (hst : stay M1) (step : ∀ x ∈ xs, ∀ Q : DK, Q (f x) M1 → g (enc x) e0 M1 fun e2 M2 => te e2 M2 Q) (h : E (xs.map f) M1) : ∃ W, CompW e0 g dYes te (xs.map enc) stay M1 E W := by
  refine ⟨fun i ys M => M = M1 ∧ ys = (xs.take i).map f, ⟨⟨rfl, rfl⟩, fun i ys M _ w => by rw [w.1]; exact hst, fun i d ys M hd w => ?_, fun ys M w => ?_⟩⟩
  · obtain ⟨rfl, rfl⟩ := w
    rw [List.getElem?_map] at hd
    cases hx : xs[i]? with
    | none => rw [hx] at hd; cases hd
    | some x =>
      rw [hx] at hd
      obtain rfl : enc x = d := by simpa using hd
      refine step x (List.mem_of_getElem? hx) _ ⟨?_, rfl, ?_⟩
      · rw [List.length_map, List.length_take]
        exact Nat.lt_of_le_of_lt (Nat.le_trans (Nat.min_le_right _ _) hn) (by decide)
      · obtain ⟨hl, he⟩ := List.getElem?_eq_some_iff.mp hx
        rw [List.take_succ_eq_append_getElem hl, List.map_append, he]; rfl
  · obtain ⟨rfl, rfl⟩ := w
    rw [List.length_map, List.take_length]; exact h
theorem compV_filter {α : Type} {xs : List α} {enc : α → D} (p : α → Bool) (f : α → D) (hn : xs.length ≤ 1000) (hst : stay M1)
    (step : ∀ x ∈ xs, ∀ (Q : DK) (N : Prop), (p x = true → Q (f x) M1) → (p x = false → N) → g (enc x) e0 M1 fun e2 M2 => tc e2 M2 fun b M3 => IfK b (te e2 M3 Q) (M3 = M1 ∧ N)) (h : E ((xs.filter p).map f) M1) : ∃ W, CompW e0 g tc te (xs.map enc) stay M1 E W := by
  refine ⟨fun i ys M => M = M1 ∧ ys = ((xs.take i).filter p).map f, ⟨⟨rfl, rfl⟩, fun i ys M _ w => by rw [w.1]; exact hst, fun i d ys M hd w => ?_, fun ys M w => ?_⟩⟩
  · obtain ⟨rfl, rfl⟩ := w
    rw [List.getElem?_map] at hd
    cases hx : xs[i]? with
    | none => rw [hx] at hd; cases hd
    | some x =>
      rw [hx] at hd
      obtain rfl : enc x = d := by simpa using hd
      obtain ⟨hl, he⟩ := List.getElem?_eq_some_iff.mp hx
      have hle : (((xs.take i).filter p).map f).length < sizeLine := by
        rw [List.length_map]
        have h1 := List.length_filter_le p (xs.take i)
        rw [List.length_take] at h1
        exact Nat.lt_of_le_of_lt (Nat.le_trans h1 (Nat.le_trans (Nat.min_le_right _ _) hn)) (by decide)
      have hs := step x (List.mem_of_getElem? hx) (fun v M4 => (((xs.take i).filter p).map f).length < sizeLine ∧ M4 = M ∧ ((xs.take i).filter p).map f ++ [v] = ((xs.take (i + 1)).filter p).map f) (((xs.take i).filter p).map f = ((xs.take (i + 1)).filter p).map f)
        (fun hp => ⟨hle, rfl, by rw [List.take_succ_eq_append_getElem hl, List.filter_append, List.map_append, he]; simp [hp]⟩)
        (fun hp => by rw [List.take_succ_eq_append_getElem hl, List.filter_append, List.map_append, he]; simp [hp])
      exact hs
  · obtain ⟨rfl, rfl⟩ := w
    rw [List.length_map, List.take_length]; exact h
end

section
variable {X : Cx} {pos : Pos}
theorem jc {x : Str} {j k : Nat} {ps : List Str} {sp : DSp} {p : Pos} {e : Expr} {es : List Expr} {t : DTA} (G : Fn X.prog X.w X.K X.mg X.base x j ps sp) (hr : Room k X.A) (ha : JA X (e :: es) t) (hk : j ≤ k := by decide) (hg : Gl X x := by rfl)
    (hdb : (x == ("__debug__" : Str)) = false := by decide) (he : starEach (e :: es) X.env = (false, eval e X.env) :: starEach es X.env := by rfl) (hpl : (backTo pos (starEach es X.env)).any (·.1) = false := by rfl) : JE X (.Call (.Name x p) (e :: es) [] pos) (dCall sp [] Y0 t) := jd_callF G (hr.mono hk) hg ha hdb he hpl
theorem jcO {x : Str} {j k : Nat} {ps : List Str} {sp : DSp} {p : Pos} {e : Expr} {es : List Expr} {t : DTA} (G : Fn X.prog X.w X.K X.mg X.base x j ps sp) (hr : Room k X.A) (ha : JA X (e :: es) t) (hk : j ≤ k := by omega) (hg : Gl X x := by rfl)
    (hdb : (x == ("__debug__" : Str)) = false := by decide) (he : starEach (e :: es) X.env = (false, eval e X.env) :: starEach es X.env := by rfl) (hpl : (backTo pos (starEach es X.env)).any (·.1) = false := by rfl) : JE X (.Call (.Name x p) (e :: es) [] pos) (dCall sp [] Y0 t) := jd_callF G (hr.mono hk) hg ha hdb he hpl
theorem jx {a b : Expr} {ta tb : DTE} (ha : JE X a ta) (hb : JE X b tb) (hs : PlainIx b := by exact fun _ _ => rfl) : JE X (.Subscript a b pos) (dOp gIx ta tb) := jd_ix i_any ha hb hs
theorem jst (i : Nat) {x : Str} {e : Expr} {tx : DTE} {q : Pos} (hN : X.N.Nodup) (he : JE X e tx) (hi : X.N[i]? = some x := by rfl) (hx : Loc X.env.scope x := by first | exact .inl rfl | exact .inr rfl) (hs : swapsWith e (some (.Name x q)) pos.line X.env = pure false := by rfl)
    (hf : X.fn x = true ∨ X.env.scope.names.lookup x = some .local := by first | exact .inl rfl | exact .inr rfl | assumption) : JS X (.Assign [.Name x q] e pos) (dAsg tx (dgName i)) := jds_set hN hi hx he hs hf
theorem jn (i : Nat) {x : Str} (hN : X.N.Nodup) (hi : X.N[i]? = some x := by rfl) (hx : Loc X.env.scope x := by first | exact .inl rfl | exact .inr rfl) (hf : X.fn x = true ∨ X.env.scope.names.lookup x = some .local := by first | exact .inl rfl | exact .inr rfl | assumption) : JG X (.Name x pos) (dgName i) := jdg_name hN hi hx hf
theorem jm {op : CmpOp} {g : DR2} {a b : Expr} {ta tb : DTE} (ho : DOp X (compareOp op) g) (ha : JE X a ta) (hb : JE X b tb) (hm : behindInMarks op b = false := by first | exact nomark _ | with_unfolding_all rfl) : JE X (.Compare a [op] [b] pos) (dOp g ta tb) := jd_cmp ho ha hb hm
theorem jtm {op : CmpOp} {g : DR2} {a b : Expr} {ta tb : DTE} (ho : DOp X (compareOp op) g) (ha : JE X a ta) (hb : JE X b tb) (hm : behindInMarks op b = false := by first | exact nomark _ | with_unfolding_all rfl) : JT X (.Compare a [op] [b] pos) (dTest (dOp g ta tb)) := jd_tcmp ho ha hb hm
end
end DL

namespace GM
open PySem PySem.Spec L2 DL
open PyProof.Rows hiding St
noncomputable def ratD (q : Rat) : D := .tup [.int q.num, .int (q.den : Int)]
theorem ratD_inj {q r : Rat} (h : ratD q = ratD r) : q = r := by
  unfold ratD at h
  injection h with h
  injection h with h1 h2
  injection h1 with h1
  injection h2 with h2 _
  injection h2 with h2
  exact Rat.ext h1 (by omega)
theorem ratD_iff {q r : Rat} : ratD q = ratD r ↔ q = r := ⟨ratD_inj, fun h => by rw [h]⟩
structure PoolAt (M : Mem) (p : Addr) : Prop where
  ex : ∃ x y z : Int, M p = some (.lst [.int x, .int y, .int z])
noncomputable def MK (M M' : Mem) : Prop := ∀ b o, M b = some o → M' b = some o
theorem MK.refl (M : Mem) : MK M M := fun _ _ h => h
theorem MK.trans {M M1 M2 : Mem} (a : MK M M1) (b : MK M1 M2) : MK M M2 := fun c o h => b c o (a c o h)
theorem MK.new {M : Mem} {p : Addr} {o : MO} (h : M p = none) : MK M (updM M p o) := fun b u e => by
  have : b ≠ p := by intro z; subst z; rw [h] at e; cases e
  rw [updM_ne this]; exact e
theorem MK.pool {M M' : Mem} (k : MK M M') {p : Addr} (h : PoolAt M p) : PoolAt M' p := let ⟨x, y, z, e⟩ := h.ex; ⟨x, y, z, k _ _ e⟩
structure PStep (p : Addr) (M M' : Mem) : Prop where
  keep : ∀ b o, b ≠ p → M b = some o → M' b = some o
  pool : PoolAt M' p
theorem PStep.refl {p : Addr} {M : Mem} (h : PoolAt M p) : PStep p M M := ⟨fun _ _ _ h => h, h⟩
theorem PStep.trans {p : Addr} {M M1 M2 : Mem} (a : PStep p M M1) (b : PStep p M1 M2) : PStep p M M2 := ⟨fun c o n h => b.keep c o n (a.keep c o n h), b.pool⟩
theorem PStep.upd {p : Addr} {M : Mem} (x y z : Int) : PStep p M (updM M p (.lst [.int x, .int y, .int z])) := ⟨fun b o n h => by rw [updM_ne n]; exact h, ⟨x, y, z, updM_same⟩⟩
theorem PoolAt.ne {M : Mem} {p l : Addr} (h : PoolAt M p) (hl : M l = none) : l ≠ p := by
  intro e; subst e; obtain ⟨x, y, z, q⟩ := h.ex; rw [hl] at q; cases q
noncomputable def spPool : DSp := fun ds M R _ => ∃ c : Int, ds = [.int c] ∧ ∀ p M', M p = none → MK M M' → PoolAt M' p → R (.ref p) M'
noncomputable def spNext : DSp := fun ds M R _ => ∃ (p : Addr) (b : Int), ds = [.ref p, .int b] ∧ PoolAt M p ∧ 0 < b ∧ b.natAbs.log2 < 9000 ∧ ∀ (r : Int) M', 0 ≤ r → r < b → PStep p M M' → R (.int r) M'
noncomputable def spLow : DSp := fun ds M R _ => ∃ a b : Int, ds = [.int a, .int b] ∧ b ≠ 0 ∧ b.natAbs.log2 < 9000 ∧ R (ratD (Rat.divInt a b)) M
noncomputable def spNumber : DSp := fun ds M R _ => ∃ p : Addr, ds = [.ref p] ∧ PoolAt M p ∧ ∀ (q : Rat) M', RM.sz q ≤ 41 → PStep p M M' → R (ratD q) M'
theorem cp18 : CPow 10 18 := ⟨by decide, by decide, by decide⟩
theorem m64l {a b : Int} (h1 : -(2 ^ 64) < a) (h2 : a < 2 ^ 64) : IntMulOk a b := .of_left (intBits_le_64 h1 h2)
theorem m64r {a b : Int} (h1 : -(2 ^ 64) < b) (h2 : b < 2 ^ 64) : IntMulOk a b := .of_right (intBits_le_64 h1 h2)
theorem mmod {x m k b : Int} (hm : 0 < m) (hm2 : m < 2 ^ 60) (hk : 0 ≤ k) (hk2 : k < 2 ^ 60) : IntMulOk (x % m + k) b := by
  have h1 := Int.emod_nonneg x (show m ≠ 0 by omega)
  have h2 := Int.emod_lt_of_pos x hm
  exact m64l (by omega) (by omega)
theorem mmod0 {x m b : Int} (hm : 0 < m) (hm2 : m < 2 ^ 60) : IntMulOk (x % m) b := by
  have h1 := Int.emod_nonneg x (show m ≠ 0 by omega)
  have h2 := Int.emod_lt_of_pos x hm
  exact m64l (by omega) (by omega)
theorem cfd8 {i : Int} : CFd i 8 := ⟨by decide, by decide⟩
theorem gcd_log {a b : Int} (hb : b ≠ 0) (h : b.natAbs.log2 < 9000) : ((Nat.gcd a.natAbs b.natAbs : Nat) : Int).natAbs.log2 < 9000 := by
  have hp : 0 < b.natAbs := Int.natAbs_pos.mpr hb
  have hle : Nat.gcd a.natAbs b.natAbs ≤ b.natAbs := Nat.gcd_le_right _ hp
  have h1 : b.natAbs < 2 ^ 9000 := (Nat.log2_lt (by omega)).mp h
  rw [Int.natAbs_natCast]
  exact log_lt (Nat.lt_of_le_of_lt hle h1) (by decide)
theorem gcd_ne {a b : Int} (hb : b ≠ 0) : ((Nat.gcd a.natAbs b.natAbs : Nat) : Int) ≠ 0 := by
  have hp : 0 < b.natAbs := Int.natAbs_pos.mpr hb
  have := Nat.gcd_pos_of_pos_right a.natAbs hp
  omega
theorem low_fin {a b s : Int} (hb : b ≠ 0) (hs : s = if b < 0 then -((Nat.gcd a.natAbs b.natAbs : Nat) : Int) else ((Nat.gcd a.natAbs b.natAbs : Nat) : Int)) {M : Mem} {R : DK} (k : R (ratD (Rat.divInt a b)) M) :
    R (.tup [.int (a.fdiv s), .int (b.fdiv s)]) M := by
  obtain ⟨h1, h2⟩ := RM.low_eq a b hb s hs
  rw [h1, h2]; exact k
theorem low_sz {a b : Int} {n : Nat} (hn : 0 < n) (h1 : a.natAbs < 2 ^ n) (h2 : b.natAbs < 2 ^ n) (hb : b ≠ 0) : RM.sz (Rat.divInt a b) ≤ n :=
  Nat.le_trans (RM.sz_divInt a b hb) (Nat.max_le.mpr ⟨RM.bl_le h1 hn, RM.bl_le h2 hn⟩)
end GM
namespace GM
open PySem PySem.Spec L2 DL
open PyProof.Rows hiding St
end GM
namespace GM
open PySem PySem.Spec L2 DL
open PyProof.Rows hiding St
end GM
namespace GM
open PySem PySem.Spec L2 DL
end GM
namespace GM
open PySem PySem.Spec L2 DL
end GM
namespace GM
open PySem PySem.Spec L2 DL
noncomputable def spLaw : DSp := fun ds _ R _ => ∃ ns : List Int, ds = [.vl (ns.map D.int)] ∧ ns.length ≤ 63 ∧ ∀ M', R (.bl true) M'
end GM

namespace GM
open PySem PySem.Spec L2 DL
open RM (sz)
noncomputable def spDivisor : DSp := fun ds M R _ => ∃ a b : Nat, ds = [.int (a : Int), .int (b : Int)] ∧ R (.int ((Nat.gcd a b : Nat) : Int)) M
noncomputable def absQ (q : Rat) : Rat := if 0 ≤ q then q else -q
theorem absQ_D (q : Rat) : ratD (absQ q) = .tup [.int (q.num.natAbs : Int), .int (q.den : Int)] := by
  unfold absQ ratD
  have hz : 0 ≤ q ↔ 0 ≤ q.num := Rat.num_nonneg.symm
  split
  · rename_i h
    have := hz.mp h
    rw [show q.num = (q.num.natAbs : Int) by omega]; simp
  · rename_i h
    have h' : ¬ 0 ≤ q.num := fun z => h (hz.mpr z)
    rw [Rat.neg_num, Rat.neg_den, show -q.num = (q.num.natAbs : Int) by omega]
end GM

namespace GM
open RM (sz)
theorem num_lt' (q : Rat) {k : Nat} (h : sz q ≤ k) : q.num.natAbs < 2 ^ k := Nat.lt_of_lt_of_le (RM.lt_bl _) (Nat.pow_le_pow_right (by decide) (Nat.le_trans (RM.sz_num q) h))
theorem den_lt' (q : Rat) {k : Nat} (h : sz q ≤ k) : q.den < 2 ^ k := Nat.lt_of_lt_of_le (RM.lt_bl _) (Nat.pow_le_pow_right (by decide) (Nat.le_trans (RM.sz_den q) h))
end GM

namespace GM
open PySem PySem.Spec L2 DL
open RM (sz)
structure T2 (S : Nat) (y u : Rat) : Prop where
  y : sz y ≤ S
  u : sz u ≤ S
end GM

namespace GM
open PySem PySem.Spec L2 DL
open RM (sz)
theorem cp11 : CPow 10 11 := ⟨by decide, by decide, by decide⟩
theorem ratD_int (n : Int) : ratD (n : Rat) = .tup [.int n, .int 1] := by
  unfold ratD
  rw [Rat.num_intCast, Rat.den_intCast]; rfl
theorem sz_int {n : Int} {k : Nat} (hk : 0 < k) (h : n.natAbs < 2 ^ k) : sz (n : Rat) ≤ k := by
  refine RM.sz_small _ hk ?_ ?_
  · rw [Rat.num_intCast]; exact h
  · rw [Rat.den_intCast]; exact Nat.one_lt_two_pow (by omega)
theorem sz_abs (q : Rat) : sz (absQ q) = sz q := by
  unfold absQ; split
  · rfl
  · exact RM.sz_neg q
noncomputable def partD (x : Str × Rat) : D := .tup [.str x.1, ratD x.2]
theorem sgn_eq (g b : Int) : g * (1 - 2 * (if decide (b < 0) = true then 1 else 0)) = if b < 0 then -g else g := by
  by_cases h : b < 0
  · rw [if_pos h, if_pos (decide_eq_true h)]; omega
  · rw [if_neg h, if_neg (by rw [decide_eq_false h]; exact Bool.false_ne_true)]; omega
end GM

namespace GM
open PySem PySem.Spec L2 DL
open RM (sz)
end GM

namespace GM
open PySem PySem.Spec L2 DL
open RM (sz)
end GM

namespace GM
open PySem PySem.Spec L2 DL
open RM (sz)
end GM

namespace GM
open PySem PySem.Spec L2 DL
open RM (sz)
theorem partD_inj {x y : Str × Rat} (h : partD x = partD y) : x = y := by
  unfold partD at h
  injection h with h
  injection h with h1 h2
  injection h1 with h1
  injection h2 with h2 _
  exact Prod.ext h1 (ratD_inj h2)
theorem partD_iff {x y : Str × Rat} : partD x = partD y ↔ x = y := ⟨partD_inj, fun h => by rw [h]⟩
theorem partsD_iff {xs ys : List (Str × Rat)} : xs.map partD = ys.map partD ↔ xs = ys := List.map_inj_right (fun _ _ h => partD_inj h)
noncomputable def lineD (l : Rat × Rat × Rat) : D := .tup [ratD l.1, ratD l.2.1, ratD l.2.2]
theorem lineD_inj {x y : Rat × Rat × Rat} (h : lineD x = lineD y) : x = y := by
  unfold lineD at h
  injection h with h
  injection h with h1 h2
  injection h2 with h2 h3
  injection h3 with h3 _
  exact Prod.ext (ratD_inj h1) (Prod.ext (ratD_inj h2) (ratD_inj h3))
theorem lineD_iff {x y : Rat × Rat × Rat} : lineD x = lineD y ↔ x = y := ⟨lineD_inj, fun h => by rw [h]⟩
theorem linesD_iff {xs ys : List (Rat × Rat × Rat)} : xs.map lineD = ys.map lineD ↔ xs = ys := List.map_inj_right (fun _ _ h => lineD_inj h)
theorem r_line {p q r : Rat} : D.tup [ratD p, ratD q, ratD r] = lineD (p, q, r) := rfl
theorem z_lineG {gs : DTGs} {l : Rat × Rat × Rat} {e : Ev} {M : Mem} {Q : Ev → Mem → Prop} : dgTup 3 gs (lineD l) e M Q = gs [ratD l.1, ratD l.2.1, ratD l.2.2] e M Q := z_gTup rfl
theorem z_line0 {l : Rat × Rat × Rat} {M : Mem} {R : DK} : gIx (lineD l) (.int 0) M R = R (ratD l.1) M := z_ixT0
theorem z_line1 {l : Rat × Rat × Rat} {M : Mem} {R : DK} : gIx (lineD l) (.int 1) M R = R (ratD l.2.1) M := z_ixT1
theorem z_line2 {l : Rat × Rat × Rat} {M : Mem} {R : DK} : gIx (lineD l) (.int 2) M R = R (ratD l.2.2) M := z_ixT2
theorem z_rat0 {q : Rat} {M : Mem} {R : DK} : gIx (ratD q) (.int 0) M R = R (.int q.num) M := z_ixT0
theorem z_rat1 {q : Rat} {M : Mem} {R : DK} : gIx (ratD q) (.int 1) M R = R (.int (q.den : Int)) M := z_ixT1
theorem z_ratG {gs : DTGs} {q : Rat} {e : Ev} {M : Mem} {Q : Ev → Mem → Prop} : dgTup 2 gs (ratD q) e M Q = gs [.int q.num, .int (q.den : Int)] e M Q := z_gTup rfl
theorem z_ratL {q : Rat} {M : Mem} {R : DK} : gLen [ratD q] M R = R (.int 2) M := z_Len rfl
theorem z_part0 {x : Str × Rat} {M : Mem} {R : DK} : gIx (partD x) (.int 0) M R = R (.str x.1) M := z_ixT0
theorem z_part1 {x : Str × Rat} {M : Mem} {R : DK} : gIx (partD x) (.int 1) M R = R (ratD x.2) M := z_ixT1
theorem z_partG {gs : DTGs} {x : Str × Rat} {e : Ev} {M : Mem} {Q : Ev → Mem → Prop} : dgTup 2 gs (partD x) e M Q = gs [.str x.1, ratD x.2] e M Q := z_gTup rfl
theorem z_ratIsT {q : Rat} {M : Mem} {R : DK} : gIsi [ratD q, .ty "tuple"] M R = R (.bl true) M := z_Isi rfl rfl
theorem z_partIsT {x : Str × Rat} {M : Mem} {R : DK} : gIsi [partD x, .ty "tuple"] M R = R (.bl true) M := z_Isi rfl rfl
theorem z_partL {x : Str × Rat} {M : Mem} {R : DK} : gLen [partD x] M R = R (.int 2) M := z_Len rfl
theorem z_clR60 {q : Rat} : cl 60 (ratD q) = true := rfl
theorem z_clR59 {q : Rat} : cl 59 (ratD q) = true := rfl
theorem z_clR58 {q : Rat} : cl 58 (ratD q) = true := rfl
theorem z_clR57 {q : Rat} : cl 57 (ratD q) = true := rfl
theorem r0 : D.tup [.int 0, .int 1] = ratD 0 := rfl
theorem r1 : D.tup [.int 1, .int 1] = ratD 1 := rfl
theorem r2 : D.tup [.int 2, .int 1] = ratD 2 := rfl
theorem r4 : D.tup [.int 4, .int 1] = ratD 4 := rfl
theorem r_abs {q : Rat} : D.tup [.int (q.num.natAbs : Int), .int (q.den : Int)] = ratD (absQ q) := (absQ_D q).symm
theorem r_neg {q : Rat} : D.tup [.int (-q.num), .int (q.den : Int)] = ratD (-q) := by unfold ratD; rw [Rat.neg_num, Rat.neg_den]
theorem r_self {q : Rat} : D.tup [.int q.num, .int (q.den : Int)] = ratD q := rfl
theorem rm2 : D.tup [.int (-2), .int 1] = ratD (-2) := rfl
theorem rm1 : D.tup [.int (-1), .int 1] = ratD (-1) := rfl
local macro_rules | `(tactic| walk_at "inj") => `(tactic| (rename_i e h; simp only [List.cons.injEq, and_true, true_and, GM.ratD_iff, GM.partD_iff, GM.partsD_iff, GM.lineD_iff, GM.linesD_iff, D.tup.injEq, D.ref.injEq, D.int.injEq, D.str.injEq, D.bl.injEq, D.vl.injEq, Int.natCast_inj, and_assoc] at e; (repeat (obtain ⟨e1, e⟩ := e; subst e1)); subst e; exact h))
local macro_rules | `(tactic| walk_at "injs") => `(tactic| (rename_i e o h; rcases o with o | o <;> (subst o; first | (exfalso; simp only [D.tup.injEq, List.cons.injEq, reduceCtorEq, false_and, and_false] at e; done) | (simp only [List.cons.injEq, and_true, true_and, GM.ratD_iff, GM.partD_iff, GM.partsD_iff, GM.lineD_iff, GM.linesD_iff, D.tup.injEq, D.ref.injEq, D.int.injEq, D.str.injEq, D.bl.injEq, D.vl.injEq, Int.natCast_inj, and_assoc] at e; (repeat (obtain ⟨e1, e⟩ := e; subst e1)); subst e; exact h))))
theorem z_spDivisor {a b : Nat} {M : Mem} {R : DK} {Y : DXK} : spDivisor [.int (a : Int), .int (b : Int)] M R Y = (R (.int ((Nat.gcd a b : Nat) : Int)) M) := propext ⟨fun z => by obtain ⟨_, _, _, _⟩ := z; walk_at "inj", fun h => ⟨a, b, rfl, h⟩⟩
theorem z_spLow {a b : Int} {M : Mem} {R : DK} {Y : DXK} : spLow [.int a, .int b] M R Y = (b ≠ 0 ∧ b.natAbs.log2 < 9000 ∧ R (ratD (Rat.divInt a b)) M) := propext ⟨fun z => by obtain ⟨_, _, _, _⟩ := z; walk_at "inj", fun h => ⟨a, b, rfl, h⟩⟩
theorem z_spPool {c : Int} {M : Mem} {R : DK} {Y : DXK} : spPool [.int c] M R Y = (∀ p M', M p = none → MK M M' → PoolAt M' p → R (.ref p) M') := propext ⟨fun z => by obtain ⟨_, _, _⟩ := z; walk_at "inj", fun h => ⟨c, rfl, h⟩⟩
theorem z_spNext {p : Addr} {b : Int} {M : Mem} {R : DK} {Y : DXK} : spNext [.ref p, .int b] M R Y = (PoolAt M p ∧ 0 < b ∧ b.natAbs.log2 < 9000 ∧ ∀ (r : Int) M', 0 ≤ r → r < b → PStep p M M' → R (.int r) M') := propext ⟨fun z => by obtain ⟨_, _, _, _⟩ := z; walk_at "inj", fun h => ⟨p, b, rfl, h⟩⟩
theorem z_spNumber {p : Addr} {M : Mem} {R : DK} {Y : DXK} : spNumber [.ref p] M R Y = (PoolAt M p ∧ ∀ (q : Rat) M', RM.sz q ≤ 41 → PStep p M M' → R (ratD q) M') := propext ⟨fun z => by obtain ⟨_, _, _⟩ := z; walk_at "inj", fun h => ⟨p, rfl, h⟩⟩
noncomputable abbrev sPick_b (p : Addr) (xs : List D) (M : Mem) (R : DK) (Y : DXK) : Prop := PoolAt M p ∧ (0 < xs.length ∧ xs.length ≤ 1000) ∧ ∀ d ∈ xs, ∀ M', PStep p M M' → R d M'
noncomputable def sPick : DSp := fun ds M R Y => ∃ (p : Addr) (xs : List D), ds = [.ref p, .vl xs] ∧ sPick_b p xs M R Y
theorem z_sPick {p : Addr} {xs : List D} {M : Mem} {R : DK} {Y : DXK} : sPick [.ref p, .vl xs] M R Y = (sPick_b p xs M R Y) := propext ⟨fun z => by obtain ⟨_, _, _, _⟩ := z; walk_at "inj", fun h => ⟨p, xs, rfl, h⟩⟩
theorem len_log {n : Nat} (h : n ≤ 1000) : ((n : Nat) : Int).natAbs.log2 < 9000 := log_lt (Nat.lt_of_lt_of_le (show ((n : Nat) : Int).natAbs < 2 ^ 10 by omega) (Nat.pow_le_pow_right (by decide) (by decide))) (by decide)
mutual
/-- clean data of bounded width, k deep -/
noncomputable def clv : Nat → D → Bool
  | _, .int _ => true
  | _, .non => true
  | _, .str x => PyData.canLay0 (.str x)
  | k + 1, .tup ds => decide (ds.length ≤ 900) && clvL k ds
  | k + 1, .vl ds => decide (ds.length ≤ 900) && clvL k ds
  | _, _ => false
noncomputable def clvL : Nat → List D → Bool
  | _, [] => true
  | k, d :: r => clv k d && clvL k r
end
theorem clvL_mem {k : Nat} : ∀ {ds : List D} {x : D}, clvL k ds = true → x ∈ ds → clv k x = true
  | [], _, _, h => by cases h
  | d :: r, x, h, hx => by
    have h' : clv k d = true ∧ clvL k r = true := by simpa [clvL] using h
    rcases List.mem_cons.mp hx with rfl | z
    · exact h'.1
    · exact clvL_mem h'.2 z
noncomputable def sSame (k : Nat) : DSp := fun ds M R _ => ∃ x : D, ds = [x, x] ∧ clv k x = true ∧ R (.bl true) M
theorem z_sSame {k : Nat} {x : D} {M : Mem} {R : DK} {Y : DXK} : sSame k [x, x] M R Y = (clv k x = true ∧ R (.bl true) M) := propext ⟨fun zz => by obtain ⟨x', e, h⟩ := zz; cases e; exact h, fun h => ⟨x, rfl, h⟩⟩
theorem zipD_self {xs : List D} : zipD xs xs = xs.map fun x => D.tup [x, x] := by
  unfold zipD
  induction xs with
  | nil => rfl
  | cons a r ih => rw [List.zipWith_cons_cons, ih]; rfl
theorem all_true {α : Type} {xs : List α} : (xs.map fun _ => true).all id = true := by
  induction xs with
  | nil => rfl
  | cons a r ih => rw [List.map_cons, List.all_cons, ih]; rfl
theorem PStep.del {p l : Addr} {M M' : Mem} (h : PStep p M M') (hl : M l = none) (hp : l ≠ p) : PStep p M (delM M' l) := ⟨fun b u hb e => by
    rw [delM_ne (by intro z; subst z; rw [hl] at e; cases e)]; exact h.keep b u hb e, by
    obtain ⟨x, y, z, e⟩ := h.pool.ex
    exact ⟨x, y, z, by rw [delM_ne (Ne.symm hp)]; exact e⟩⟩
end GM

set_option maxHeartbeats 1000000
namespace L2
open PySem PySem.Spec PySem.W PyProof.Rows
noncomputable def ExcAt (a C : Addr) (h : Heap) : Prop := ∃ o, h.get? a = some o ∧ o.cls = .ref C
section
variable {prog : Program} {w : World} {A : Around} {E : Value → Shared → Prop} {s : Shared} {K : Frag} {a C : Addr}
theorem ExcAt.type {M : Model} {h : Heap} (I : ExcAt a C h) : Looks M h (typeOf (.ref a)) (.ref C) := by
  obtain ⟨o, h1, h2⟩ := I
  exact h2 ▸ (Looks.ld h1).andThen .now
theorem find_cls {M : Model} {h : Heap} (X : K.In h) (ha : findIn K (.ref C) "__class__" = some (some (.builtin "object.__class__"))) (hn : specialIn K (.builtin "object.__class__") "__get__" = some (some (.builtin "getset_descriptor.__get__"))) (ht : takesIn K (.builtin "object.__class__") = some true) :
    Looks M h (Builtin.ObjectAttr.find (.ref a) (.ref C) "__class__") (.bind (.builtin "getset_descriptor.__get__") (.builtin "object.__class__")) := by
  have L3 := looks_takesIn (M := M) X ht
  exact (looks_findIn X ha).andThen ((looks_specialIn X hn).andThen ((show Looks M h (Builtin.ObjectAttr.dataDescriptor? (some (.builtin "object.__class__")) (some (.builtin "getset_descriptor.__get__"))) (some (.builtin "getset_descriptor.__get__", .builtin "object.__class__")) from L3.andThen .now).andThen (Looks.tag .now)))
theorem get_cls {R : Result → Shared → Prop} {tp : Value} (X : K.In s.heap) (I : ExcAt a C s.heap) (hm : mroIn K C (.type "object") = some true)
    (h : R (.ok (.ret (.ref C))) s) : codeAny (model prog w) A (.call (.builtin "getset_descriptor.__get__") ⟨[.builtin "object.__class__", .ref a, tp], []⟩) R s := by
  obtain ⟨hh, g, dr, t, os⟩ := s
  have L0 := I.type (M := model prog w)
  have L1 : Looks (model prog w) hh (isSubtype (.ref C) (.type (".".intercalate ("object.__class__".cutAt '.').dropLast))) true := by
    have e0 : "object.__class__".cutAt '.' = ["object", "__class__"] := by first | rfl | decide +kernel
    rw [e0, show ".".intercalate (["object", "__class__"] : List String).dropLast = "object" by decide +kernel]; exact looks_mroIn (M := model prog w) X hm
  refine codeAny_call_builtin F.slot_gs_get.plain F.entry_gs_get (F.slot_gs_get.check _ _ _ _ _ _ _ _ F.typeOf_object_class (F.args_gs_get _ _ _) ?_)
  repeat (any_goals (first | assumption | with_reducible refine L0.at ?_ | with_reducible refine L1.at ?_ | wp_step))
  refine ⟨Code.quiet_builtin _ (by decide +kernel), codeAny_builtin F.entry_object_class ?_⟩
  repeat (any_goals (first | assumption | with_reducible refine L0.at ?_ | wp_step))
theorem exc_entry {tk : Tok} {Q : Fin → Shared → Prop} (X : K.In s.heap) (I : ExcAt a C s.heap) (ha : findIn K (.ref C) "__class__" = some (some (.builtin "object.__class__"))) (hn : specialIn K (.builtin "object.__class__") "__get__" = some (some (.builtin "getset_descriptor.__get__"))) (ht : takesIn K (.builtin "object.__class__") = some true)
    (hm : mroIn K C (.type "object") = some true) (h : Q (.done (.ret (.ref C))) s) : wpAny (model prog w) A (Builtin.«object.__getattribute__» ⟨[.ref a, .str "__class__" tk], []⟩) Q E s := by
  obtain ⟨hh, g, d, t, os⟩ := s
  have L0 := I.type (M := model prog w)
  have L2 := find_cls (M := model prog w) (a := a) X ha hn ht
  unfold Builtin.«object.__getattribute__»
  repeat (any_goals (first | assumption | with_reducible refine L0.at ?_ | with_reducible refine L2.at ?_ | wp_step))
  exact get_cls X I hm (wpAny_pure h)
theorem exc_check {nameV : Value} {M : Model} {Q : Unit → Shared → Prop} (X : K.In s.heap) (I : ExcAt a C s.heap) (hb : mroIn K C (.type "BaseException") = some true) (h : Q () s) : wpAny M A (checkBuiltinCall "BaseException.__getattribute__" ⟨[.ref a, nameV], []⟩) Q E s := by
  have hk : builtinKind "BaseException.__getattribute__" = some .slot := by decide +kernel
  have hsplit : splitId "BaseException.__getattribute__" = some ("BaseException", "__getattribute__") := by decide +kernel
  have ha := F.args_bexc_ga (.ref a) nameV
  have L0 := I.type (M := M)
  have L3 := looks_mroIn (M := M) X hb
  obtain ⟨hh, g, d, t, os⟩ := s
  simp only [checkBuiltinCall, hk, hsplit]
  refine wpAny_bind ?_
  · unfold isInstance
    repeat (any_goals (first | assumption | with_reducible refine L0.at ?_ | with_reducible refine L3.at ?_ | wp_step))
structure ExK (K : Frag) (C : Addr) : Prop where
  cd : (clsIn K C).isSome = true
  ga : findIn K (.ref C) "__getattribute__" = some (some (.builtin "BaseException.__getattribute__"))
  gt : findIn K (.ref C) "__getattr__" = some none
  ca : findIn K (.ref C) "__class__" = some (some (.builtin "object.__class__"))
  cn : specialIn K (.builtin "object.__class__") "__get__" = some (some (.builtin "getset_descriptor.__get__"))
  ct : takesIn K (.builtin "object.__class__") = some true
  mo : mroIn K C (.type "object") = some true
  mb : mroIn K C (.type "BaseException") = some true
theorem exc_attr {Q : Option Value → Shared → Prop} (Z : ExK K C) (X : K.In s.heap) (I : ExcAt a C s.heap) (h : Q (some (.ref C)) { s with toks := s.toks + 1 }) : wpAny (model prog w) A (getAttr? (.ref a) "__class__") Q E s := by
  obtain ⟨hh, g, d, t, os⟩ := s
  have L0 := I.type (M := model prog w)
  have L1 := looks_findIn (M := model prog w) X Z.ga
  have L4 := looks_findIn (M := model prog w) X Z.gt
  have f3 := F.excAttr_ValueError.ga.bind (.ref a)
  have hx2 : (Value.builtin "BaseException.__getattribute__" == Value.builtin "object.__getattribute__") = false := by decide +kernel
  have hx1 : (onTheHeap (Value.ref C) && Value.builtin "BaseException.__getattribute__" == Value.builtin "object.__getattribute__") = false := by rw [hx2]; rfl
  unfold getAttr? getAttrBy? getAttrBy
  refine wpAny_bind (wpAny_mkText (wpAny_bind (wpAny_attempt (wpAny_holding (wpAny_bind (L0.at (wpAny_bind (L1.at ?_))))))))
  show wpAny _ _ (if (onTheHeap (Value.ref C) && Value.builtin "BaseException.__getattribute__" == Value.builtin "object.__getattribute__") = true then _ else getAttrByItsOwn _ _ _ _ _ _) _ _ _
  rw [hx1, if_neg (by decide)]
  unfold getAttrByItsOwn
  repeat (any_goals (first | assumption | with_reducible refine L0.at ?_ | with_reducible refine L4.at ?_ | wp_step))
  refine codeAny_call_builtin F.excAttr_ValueError.ga.plain F.entry_bexc_ga (exc_check (s := ⟨hh, g, d, t + 1, os⟩) X I Z.mb (exc_entry (s := ⟨hh, g, d, t + 1, os⟩) X I Z.ca Z.cn Z.ct Z.mo ?_))
  show wpAny _ A (handedOut (.ref C)) _ _ _
  exact handed_on rfl (wpAny_pure h)
theorem exc_kit (Z : ExK K C) : KitX K (.ref a) (.ref C) (ExcAt a C) where
  ty := fun _ _ _ I => I.type
  it := fun _ _ X _ => by
    obtain ⟨cdD, hcD⟩ := Option.isSome_iff_exists.mp Z.cd
    unfold clsIn at hcD
    split at hcD
    · rename_i ho
      intro A' Q' E' s' k q
      unfold isType loadHead
      exact wpAny_bind (wpAny_loadPart (k _ _ (X _ _ ho)) (wpAny_pure q))
    · cases hcD
  ne := fun h tp dd its n sl X htp => by
    obtain ⟨cdD, hcD⟩ := Option.isSome_iff_exists.mp Z.cd
    refine Bool.eq_false_iff.mpr fun q => ?_
    obtain rfl : C = tp := Value.ref.inj (beq_iff_eq.mp q)
    unfold clsIn at hcD
    split at hcD
    · rename_i ho
      have z := (X _ _ ho).symm.trans htp
      cases z
    · cases hcD
  ca := fun X I k => exc_attr Z X I k
end
end L2

namespace DL
open PySem PySem.Spec L2
open PyProof.Rows hiding St
section
variable {X : Cx} {pins : List (Addr × Obj)} {σ : St} {H : Hp} {s : Shared}
theorem goes_ok {M : Model} {A : Around} {E : Value → Shared → Prop} {i : Nat} {x : Str} {pos : Pos} {Q : Unit → Shared → Prop} (I : Inv X pins σ H s) (hN : X.N.Nodup) (hi : X.N[i]? = some x) (hk : X.env.kindOf x = some .local)
    (h : ∀ s', Inv X pins (σ.set i none) H s' → Q () s') : wpAny M A (do bindName X.env x .none; unbindBehindTheSuite X.env x pos) Q E s := by
  obtain ⟨m, hn, hl⟩ := id I.loc
  have hcls : (X.env.scope.kind == .class || (X.env.scope.kind == .module && X.env.locals != X.env.globals)) = false := by rw [I.ok.kind]; rfl
  have hiσ : i < σ.length := by rw [I.len]; exact (List.getElem?_eq_some_iff.mp hi).1
  have cne := I.cne
  have tracked : ∀ {a : Addr} {h' : Heap}, (∃ o, s.heap.get? a = some o ∧ H a = none) → Heap.SameBut a s.heap h' → HOk X.prog X.w H h' := fun {a h'} ha hs b ob e => by
    obtain ⟨_, _, hfree⟩ := ha
    refine (I.hok b ob e).stay (fun c w' hc q => (hs.2 c ?_).trans q) (fun _ q => q) fun _ _ q => q
    rintro rfl
    rcases hc with rfl | hc
    · rw [hfree] at e; cases e
    · rw [hfree] at hc; cases hc
  refine wpAny_nameGoes_keeps hk hn (by exact hcls) fun h' v hn' hs => ?_
  obtain ⟨oL, _, _, hoL, _⟩ := id hn
  refine h { s with heap := h', toks := s.toks + 1 } ⟨I.ok, I.os, I.bare, ⟨fun b o e n hb hx => ?_, fun b o e n hb hx => ?_, I.base.free, fun b o e hx => ?_, I.base.tups, I.base.frzs, I.base.tbls⟩, ⟨_, hn', fun j y v' e1 e2 e3 => ?_⟩, fun y c e => ?_, I.free, I.freeC, fun p hp => ?_, tracked ⟨oL, hoL, I.free⟩ hs, by simpa using I.len⟩
  · exact (hs.2 b (Nat.ne_of_lt (Nat.lt_of_lt_of_le (Heap.lt_size e) I.ok.above))).trans (I.base.keep b o e n hb hx)
  · obtain ⟨sl, e1⟩ := I.base.slot b o e n hb hx
    exact ⟨sl, (hs.2 b (Nat.ne_of_lt (Nat.lt_of_lt_of_le (Heap.lt_size e) I.ok.above))).trans e1⟩
  · obtain ⟨o', e1⟩ := I.base.there b o e hx
    exact ⟨o', (hs.2 b (Nat.ne_of_lt (Nat.lt_of_lt_of_le (Heap.lt_size e) I.ok.above))).trans e1⟩
  · by_cases hj : j = i
    · subst hj
      rw [List.getElem?_set_self hiσ] at e2
      cases e2
    · rw [List.getElem?_set_ne (Ne.symm hj)] at e2
      obtain ⟨u', r', q⟩ := hl j y v' e1 e2 e3
      refine ⟨u', r', ?_⟩
      rcases q with ⟨k, e⟩ | ⟨k, c, e, z⟩
      · refine .inl ⟨k, ?_⟩
        have : y ≠ x := fun e => hj (nodup_ix hN e1 (e ▸ hi))
        simp [this, e]
      · exact .inr ⟨k, c, e, z.sameBut hs (cne y c e)⟩
  · obtain ⟨w', z⟩ := I.cell y c e
    exact ⟨w', z.sameBut hs (cne y c e)⟩
  · obtain ⟨e, n, ne, nf, d⟩ := I.pin p hp
    exact ⟨(hs.2 p.1 ne).trans e, n, ne, nf, d⟩
theorem inv_afterX {Hc H' : Hp} {sc s1 : Shared} {B : Heap} {a : Addr} {cls a0 : Value} {h' : Heap} {ob : Obj} (I : Inv X pins σ Hc sc) (ho : s1.os = sc.os) (hg : AllBare s1.gens) (un : Un (frs X.stack) [] Hc H' sc.heap s1.heap) (hok : HOk X.prog X.w H' s1.heap)
    (cov : Cov B sc.heap H' (frs X.stack) s1.heap) (fl : Air B X.stack a cls a0 s1.heap) (st : B.StaysIn h') (ups : s1.heap.UpToSlots h') (hob : h'.get? a = some ob) :
    H' a = none ∧ Inv X pins σ (upd H' a (.frz ob (.own 0))) { s1 with heap := h' } := by
  have fre : ∀ b ∈ frs X.stack, H' b = none := fun b hb => by
    obtain ⟨_, o, hob, _⟩ := I.stack.mem hb
    exact un.free b o hob (I.stkFree b hb) (by simp)
  have trk : ∀ b u, H' b = some u → b ∉ frs X.stack := fun b u q hm => by rw [fre b hm] at q; cases q
  obtain ⟨oa, vs, ha, hda⟩ := fl.data
  have nst : a ∉ frs X.stack := fun hm => by
    obtain ⟨_, o', ho', hnf⟩ := fl.frames.mem hm
    rw [ha] at ho'
    injection ho' with ho'
    subst ho'
    exact hnf _ hda
  have nH : H' a = none := by
    cases e : H' a with
    | none => rfl
    | some u =>
      have := cov a oa ha (.inl ⟨u, e⟩) nst
      rw [fl.base.2] at this; cases this
  have nsc : sc.heap.get? a = none := by
    cases e : sc.heap.get? a with
    | none => rfl
    | some u =>
      have := cov a oa ha (.inr ⟨u, e⟩) nst
      rw [fl.base.2] at this; cases this
  have keepB : ∀ b o, s1.heap.get? b = some o → ((∃ u, H' b = some u) ∨ ∃ o0, sc.heap.get? b = some o0) → b ∉ frs X.stack → h'.get? b = some o := fun b o q c nm => st b o (cov b o q c nm)
  have slotB : ∀ b o, s1.heap.get? b = some o → b ∈ frs X.stack → ∃ sl, h'.get? b = some { o with slots := sl } := fun b o q hm => by
    obtain ⟨_, o', ho', hnf⟩ := fl.frames.mem hm
    have e : o = o' := Option.some.inj (q.symm.trans ho')
    subst e
    exact ups b o q hnf
  have ne1 : ∀ {b u}, H' b = some u → b ≠ a := fun {b u} e z => by rw [z, nH] at e; cases e
  have ne2 : ∀ {b o}, sc.heap.get? b = some o → b ≠ a := fun {b o} e z => by rw [z, nsc] at e; cases e
  have un' : Un (frs X.stack) [] Hc (upd H' a (.frz ob (.own 0))) sc.heap h' := ⟨fun b o q n hb hx => keepB b o (un.keep b o q n hb hx) (.inr ⟨o, q⟩) hb, fun b o q n hb hx => by
      obtain ⟨sl, z⟩ := un.slot b o q n hb hx
      obtain ⟨sl2, z2⟩ := slotB b _ z hb
      exact ⟨sl2, z2⟩, fun b o q n hx => by rw [upd_ne (ne2 q)]; exact un.free b o q n hx, fun b o q hx => by
      obtain ⟨o1, z⟩ := un.there b o q hx
      by_cases hm : b ∈ frs X.stack
      · obtain ⟨sl, z2⟩ := slotB b _ z hm; exact ⟨_, z2⟩
      · exact ⟨_, keepB b _ z (.inr ⟨o, q⟩) hm⟩, fun b xs e => by have := un.tups b xs e; rw [upd_ne (ne1 this)]; exact this, fun b o u e => by have := un.frzs b o u e; rw [upd_ne (ne1 this)]; exact this, fun b ps e => by
      obtain ⟨qs, this⟩ := un.tbls b ps e
      exact ⟨qs, by rw [upd_ne (ne1 this)]; exact this⟩⟩
  refine ⟨nH, I.call' (s' := { s1 with heap := h' }) ho un' (fun b u q => ?_) hg fun b hb => by cases hb⟩
  by_cases hba : b = a
  · subst hba
    rw [upd_same] at q
    cases q
    exact ⟨hob, ⟨_, hob⟩⟩
  · rw [upd_ne hba] at q
    refine (hok b u q).stay (fun c v hc q2 => ?_) (fun c z => ?_) fun c xs z => ?_
    · rcases hc with rfl | hc
      · exact keepB c v q2 (.inl ⟨u, q⟩) (trk c u q)
      · exact keepB c v q2 (.inl ⟨_, hc⟩) (trk c _ hc)
    · rw [upd_ne (ne1 z)]; exact z
    · rw [upd_ne (ne1 z)]; exact z
end
end DL
namespace DL
open PySem PySem.Spec L2
open PyProof.Rows hiding St
theorem env_off {K : PySem.W.Frag} {H : Hp} {σ : St} {e : Ev} (h : EnvOk K H σ e) (i : Nat) : EnvOk K H (σ.set i none) (e.set i none) := by
  refine ⟨by simp [h.len], fun j x z => ?_⟩
  rw [List.getElem?_set] at z ⊢
  by_cases q : i = j
  · subst q
    rw [if_pos rfl] at z
    split at z <;> cases z
  · rw [if_neg q] at z ⊢
    exact h.has j x z
noncomputable def offN (i : Nat) (F : DEnds) : DEnds := { nx := fun e M => F.nx (e.set i none) M, rt := F.rt, bk := fun e M => F.bk (e.set i none) M, ct := fun e M => F.ct (e.set i none) M }
noncomputable def offV (i : Nat) (D : Ends) : Ends := { nx := fun σ H => D.nx (σ.set i none) H, rt := D.rt, bk := fun σ H => D.bk (σ.set i none) H, ct := fun σ H => D.ct (σ.set i none) H }
theorem fit_off {K : PySem.W.Frag} {H : Hp} {F : DEnds} {D : Ends} (h : Fit K H F D) (i : Nat) : Fit K H (offN i F) (offV i D) :=
  ⟨fun _ M r _ H2 k a b => h.nx _ M r _ H2 k a (env_off b i), h.rt, fun _ M r _ H2 k a b => h.bk _ M r _ H2 k a (env_off b i), fun _ M r _ H2 k a b => h.ct _ M r _ H2 k a (env_off b i)⟩
structure TkN (K : PySem.W.Frag) (mg : Str → Option Value) (c x : Str) : Prop where
  ex : ∃ Cc Cx, mg c = some (.ref Cc) ∧ mg x = some (.ref Cx) ∧ PySem.W.nsIn K mainGlobals x = some (some (.ref Cx)) ∧ PySem.W.exmOne K (.ref Cx) (.ref Cc) = some true
theorem tkn_mk {K : PySem.W.Frag} {mg : Str → Option Value} {h : Heap} {c x : Str} {Cc Cx : Addr} (X : K.In h) (G : h.Ns mainGlobals mg) (n : PySem.W.nsIn K mainGlobals c = some (some (.ref Cc))) (m : PySem.W.nsIn K mainGlobals x = some (some (.ref Cx))) (q : PySem.W.exmOne K (.ref Cx) (.ref Cc) = some true) : TkN K mg c x :=
  ⟨Cc, Cx, PySem.W.mg_of X G n, PySem.W.mg_of X G m, m, q⟩
section
variable {X : Cx} {body suite : List Stmt} {b0 : Stmt} {c n : Str} {np hpos pos : Pos} {tb : DXK → DTS} {ts : DTS} {i : Nat}
theorem goes_sp {pins : List (Addr × Obj)} {D : Ends} {s : Shared} {M : Model} {A : Around} {E : Value → Shared → Prop} (hN : X.N.Nodup) (hi : X.N[i]? = some n) (hk : X.env.kindOf n = some .local) : ∀ {f : Flow}, SP X pins (offV i D) f s → wpAny M A (do bindName X.env n .none; unbindBehindTheSuite X.env n hpos) (fun _ s' => SP X pins D f s') E s
  | .next, ⟨σ', H', I, q⟩ => goes_ok I hN hi hk fun _ I' => ⟨_, H', I', q⟩
  | .brk, ⟨σ', H', I, q⟩ => goes_ok I hN hi hk fun _ I' => ⟨_, H', I', q⟩
  | .cont, ⟨σ', H', I, q⟩ => goes_ok I hN hi hk fun _ I' => ⟨_, H', I', q⟩
  | .ret _, ⟨v, σ', H', I, r, q⟩ => goes_ok I hN hi hk fun _ I' => ⟨v, _, H', I', r, q⟩
noncomputable def dTryN (i : Nat) (xs : List Str) (tb : DXK → DTS) (ts : DTS) : DTS := fun F e M => ∃ Y : DXK, tb Y F e M ∧ ∀ x M', Y (xN x) M' → x ∈ xs ∧ ts (offN i F) ((e.map fun _ => none).set i (some (.exc x))) M'
theorem jds_tryN (xs : List Str) (hst : X.stack = X.env :: X.outer) (hfrm : X.env.frame = some X.env.locals) (hxe : X.xe = fun _ _ => False) (hg : Gl X c) (hc : ∀ x ∈ xs, TkN X.K X.mg c x) (hN : X.N.Nodup) (hi : X.N[i]? = some n) (hk : X.env.kindOf n = some .local) (hlc : Loc X.env.scope n)
    (hb : ∀ pn H₀ Y, JXs (Cx.pinned X pn) false H₀ Y body (tb Y)) (hs : ∀ pn a, JSs (Cx.hand (Cx.pinned X pn) a) (b0 :: suite) ts) (hf : X.fn n = true ∨ X.env.scope.names.lookup n = some .local := by first | exact .inl rfl | exact .inr rfl | assumption) (hdb : (c == ("__debug__" : Str)) = false := by decide) :
    JS X (.Try body [.ExceptHandler (some (.Name c np)) (some n) (b0 :: suite) hpos] [] [] pos) (dTryN i xs tb ts) := ⟨by
  rintro pins s σ H D I ⟨e, M, F, ok, am, ⟨Y, h1, h2⟩, fit⟩
  rw [hxe]
  have Ip := inv_pinned I
  refine wpAny_Try_except ?_
  refine wpAny_mono ((hb (X.pn ++ pins) H Y).out [] s σ H D (Ip.wish _) ⟨KT.refl H, e, M, F, ok, am, h1, fit⟩) (fun fl s1 q => ?_) fun ev s1 hx => ?_
  · have q := sp_unpinned q.unwish
    cases fl with
    | next => exact wpAny_execs_nil q
    | brk => exact q
    | cont => exact q
    | ret u => exact q
  · rcases hx with ⟨z, _⟩ | ⟨pins2, σ2, Hc, sc, a, cls, a0, H', B, Ic, rfl, ho, hgb, un, hok, hB, cov, fl, kt2, x, Cq, M', rfl, hmx, am', hy⟩
    · cases z
    obtain ⟨xin, hts⟩ := h2 x M' hy
    obtain ⟨Cc, Cq2, m1, m2, mns, hex⟩ := (hc x xin).ex
    have ecx : Cq = Cq2 := by
      have := hmx.symm.trans m2
      injection this with this
      injection this
    subst ecx
    have fl' : Air B (X.env :: X.outer) a (.ref Cq) a0 s1.heap := by rw [← hst]; exact fl
    have hfr : X.A.frames = some (X.env :: X.outer) := by rw [← hst]; exact I.ok.frames
    refine Air.looks (L := X.env.locals) hfr hfrm fl' fun h4 held ups4 => ?_
    refine wpAny_landsW held fun h5 fl5 ups5 => ?_
    have I5 := inv_none (inv_after Ic ho hgb un hok cov fl fl5.1 (ups4.trans ups5))
    refine wpAny_handleBy_cons (codeAny_handlers_test ?_) (by intro q; cases q)
    refine ld_glob (X := Cx.hand (Cx.pinned X (X.pn ++ pins)) a) (inv_hand I5) hg m1 ?_ hdb
    have lt : PySem.W.Looks (model X.prog X.w) h5 (typeOf (.ref a)) (.ref Cq) := by
      obtain ⟨ob, hob, hoc⟩ := fl5.there
      rw [← hoc]
      exact (PySem.W.Looks.ld hob).andThen .now
    refine (PySem.W.exm_one (I5.kIn) lt hex).here ?_
    show codeAny _ _ _ _ _
    refine codeAny_handlers_suite_as ?_
    refine lands_againW fl5 fun h6 fl6 ups6 => ?_
    obtain ⟨ob, hob, hoc⟩ := fl6.there
    obtain ⟨nH, I6'⟩ := inv_afterX Ic ho hgb un hok cov fl fl6.1 ((ups4.trans ups5).trans ups6) hob
    have I6 := inv_none I6'
    have hx6 : Has X.K (upd H' a (.frz ob (.own 0))) (.ref a) (.exc x) := .exc ⟨ob, Cq, upd_same, hoc, mns⟩
    have en : e.map (fun _ => (none : Option DL.D)) = List.replicate X.N.length none := by
      rw [← I.len, ok.len]
      exact List.map_const' ..
    have kt3 := kt2.trans (KT.alloc (o := .frz ob (.own 0)) nH)
    refine store_ok (X := Cx.hand (Cx.pinned X (X.pn ++ pins)) a) (v := .ref a) (inv_hand I6) hN hi hlc rfl (fun s7 I7 => ?_) hf
    refine wpAny_mono ((hs (X.pn ++ pins) a).out [] s7 _ _ (offV i D) I7 ⟨_, M', offN i F, by rw [en]; exact env_none.set hx6 i, am'.alloc nH, hts, (fit_off fit i).mono kt3⟩) (fun fl s2 q => ?_) fun e2 s2 z => ?_
    · exact goes_sp hN hi hk (sp_unpinned (sp_unhand I6.ok q))
    · have z : X.xe e2 s2 := z
      rw [hxe] at z
      exact z.elim⟩
end
theorem tkns_nil {K : PySem.W.Frag} {mg : Str → Option Value} {c : Str} : ∀ x ∈ ([] : List Str), TkN K mg c x := fun _ h => by cases h
theorem tkns_cons {K : PySem.W.Frag} {mg : Str → Option Value} {c y : Str} {ys : List Str} (h : TkN K mg c y) (hs : ∀ x ∈ ys, TkN K mg c x) : ∀ x ∈ y :: ys, TkN K mg c x := fun x hx => by
  rcases List.mem_cons.mp hx with rfl | hx
  · exact h
  · exact hs x hx
end DL

namespace L2
open PySem PySem.Spec PySem.W PyProof.Rows
section
variable {X : Cx}
noncomputable def IsX (K : Frag) (u : Value) (tab : List (Str × Bool)) : Prop := ∀ p ∈ tab, ∃ C, nsIn K mainGlobals p.1 = some (some (.ref C)) ∧ ExK K C ∧ kitOne K (.ref C) u = some p.2
noncomputable def IsT (K : Frag) (us : List Value) (tab : List (Str × Bool)) : Prop := ∀ p ∈ tab, ∃ C, nsIn K mainGlobals p.1 = some (some (.ref C)) ∧ ExK K C ∧ kitAny K (.ref C) us = some p.2
noncomputable def Exc (K : Frag) (H : Hp) (a : Addr) (x : Str) : Prop := ∃ (o : Obj) (C : Addr), H a = some (.frz o (.own 0)) ∧ o.cls = .ref C ∧ nsIn K mainGlobals x = some (some (.ref C))
theorem cr_isX {v2 : V} {u2 : Value} {tab : List (Str × Bool)} (Z : IsX X.K u2 tab) (hv : ∀ u, RelV v2 u → u = u2) : CallR X (.builtin "isinstance") (fun xs H Q => ∃ a x b, xs = [.ref a, v2] ∧ Exc X.K H a x ∧ (x, b) ∈ tab ∧ Q (.bl b) H) := by
  intro pins s σ H xs us Q I rv h
  obtain ⟨a, x, b, rfl, ⟨o, C, hH, ho, hn⟩, ht, q⟩ := h
  obtain ⟨u, w, rfl, r1, r2⟩ := rv.two
  cases r1
  have := hv w r2
  subst this
  obtain ⟨C', hn', Zx, e⟩ := Z _ ht
  have ec : C = C' := by
    have := hn.symm.trans hn'
    injection this with this; injection this with this; injection this
  subst ec
  exact kia_one (exc_kit Zx) I.kIn ⟨o, (I.hok _ _ hH).1, ho⟩ e (fun z => nomatch z) fun tk => ⟨.bl b, H, I.tok tk, rfl, q⟩
theorem pe_glc {c : Str} {C : Addr} {pos : Pos} (hg : Gl X c) (hm : X.mg c = some (.ref C)) (hd : (c == ("__debug__" : Str)) = false := by decide) : PE X (.Name c pos) (tC (.ref C)) := fun pins s σ H Q I h => ld_glob I hg hm ⟨.ref C, H, I, rfl, h⟩ hd
end
end L2
namespace DL
open PySem PySem.Spec L2
open PyProof.Rows hiding St
theorem bt_ValueError : bootBuiltins "ValueError" = some (.type "ValueError") := by decide +kernel
structure ExcK (K : PySem.W.Frag) (x : Str) : Prop where
  ex : ∃ C, PySem.W.nsIn K mainGlobals x = some (some (.ref C)) ∧ L2.ExK K C
open PySem.W in
theorem exck_mk {K : PySem.W.Frag} {x : Str} {C : Addr} (n : nsIn K mainGlobals x = some (some (.ref C))) (ga : findIn K (.ref C) "__getattribute__" = some (some (.builtin "BaseException.__getattribute__"))) (gt : findIn K (.ref C) "__getattr__" = some none) (ca : findIn K (.ref C) "__class__" = some (some (.builtin "object.__class__")))
    (cn : specialIn K (.builtin "object.__class__") "__get__" = some (some (.builtin "getset_descriptor.__get__"))) (ct : takesIn K (.builtin "object.__class__") = some true) (mo : mroIn K C (.type "object") = some true) (mb : mroIn K C (.type "BaseException") = some true) : ExcK K x :=
  ⟨C, n, ⟨by obtain ⟨cd, a, b⟩ := Option.bind_eq_some_iff.mp mo; rw [a]; rfl, ga, gt, ca, cn, ct, mo, mb⟩⟩
noncomputable def ExKs (K : PySem.W.Frag) (tab : List (Str × Bool)) : Prop := ∀ p ∈ tab, ExcK K p.1
theorem exs_nil {K : PySem.W.Frag} : ExKs K [] := fun _ h => by cases h
theorem exs_cons {K : PySem.W.Frag} {x : Str} {b : Bool} {tab : List (Str × Bool)} (h : ExcK K x) (hs : ExKs K tab) : ExKs K ((x, b) :: tab) := fun p hp => by
  rcases List.mem_cons.mp hp with rfl | hp
  · exact h
  · exact hs p hp
noncomputable def IsR (K : PySem.W.Frag) (us : List Value) (tab : List (Str × Bool)) : Prop := ∀ p ∈ tab, ∃ C, PySem.W.nsIn K mainGlobals p.1 = some (some (.ref C)) ∧ PySem.W.kitAny K (.ref C) us = some p.2
theorem isr_nil {K : PySem.W.Frag} {us : List Value} : IsR K us [] := fun _ h => by cases h
theorem isr_cons {K : PySem.W.Frag} {us : List Value} {x : Str} {b : Bool} {C : Addr} {tab : List (Str × Bool)} (n : PySem.W.nsIn K mainGlobals x = some (some (.ref C))) (q : PySem.W.kitAny K (.ref C) us = some b) (hs : IsR K us tab) : IsR K us ((x, b) :: tab) := fun p hp => by
  rcases List.mem_cons.mp hp with rfl | hp
  · exact ⟨C, n, q⟩
  · exact hs p hp
theorem isr_t {K : PySem.W.Frag} {us : List Value} {tab : List (Str × Bool)} (h : IsR K us tab) (e : ExKs K tab) : L2.IsT K us tab := fun p hp => by
  obtain ⟨C, n, q⟩ := h p hp
  obtain ⟨C', n', z⟩ := (e p hp).ex
  have ec : C = C' := by
    have := n.symm.trans n'
    injection this with this; injection this with this; injection this
  subst ec
  exact ⟨C, n, z, q⟩
theorem kit_one {K : PySem.W.Frag} {t u : Value} {b : Bool} (h : PySem.W.kitAny K t [u] = some b) : PySem.W.kitOne K t u = some b := by
  unfold PySem.W.kitAny at h
  cases e : PySem.W.kitOne K t u with
  | none => rw [e] at h; cases h
  | some c =>
    rw [e] at h
    cases c with
    | true => exact h
    | false => unfold PySem.W.kitAny at h; exact h
theorem isr_x {K : PySem.W.Frag} {u : Value} {tab : List (Str × Bool)} (h : IsR K [u] tab) (e : ExKs K tab) : L2.IsX K u tab := fun p hp => by
  obtain ⟨C, n, z, q⟩ := isr_t h e p hp
  exact ⟨C, n, z, kit_one q⟩
structure IsN (K : PySem.W.Frag) (mg : Str → Option Value) (cs : List Str) (tab : List (Str × Bool)) : Prop where
  ex : ∃ Cs : List Addr, cs.map mg = Cs.map (fun C => some (.ref C)) ∧ IsR K (Cs.map .ref) tab
theorem isn_mk {K : PySem.W.Frag} {mg : Str → Option Value} {cs : List Str} {Cs : List Addr} {tab : List (Str × Bool)} (h : cs.map mg = Cs.map (fun C => some (.ref C))) (r : IsR K (Cs.map .ref) tab) : IsN K mg cs tab := ⟨Cs, h, r⟩
theorem isn_nil {mg : Str → Option Value} : ([] : List Str).map mg = ([] : List Addr).map (fun C => some (.ref C)) := rfl
theorem isn_cons {K : PySem.W.Frag} {mg : Str → Option Value} {h : Heap} {c : Str} {C : Addr} {cs : List Str} {Cs : List Addr} (X : K.In h) (G : h.Ns mainGlobals mg) (n : PySem.W.nsIn K mainGlobals c = some (some (.ref C))) (r : cs.map mg = Cs.map (fun C => some (.ref C))) : (c :: cs).map mg = (C :: Cs).map (fun C => some (.ref C)) := by
  rw [List.map_cons, List.map_cons, PySem.W.mg_of X G n, r]
section
variable {X : Cx} {e : Expr} {es : List Expr} {te : DTE} {p p2 pos pos2 : Pos} {cs : List Str}
noncomputable def dIsX (tab : List (Str × Bool)) (te : DTE) : DTE := fun e M R => te e M fun x M1 => ∃ s b, x = .exc s ∧ (s, b) ∈ tab ∧ R (.bl b) M1
theorem isx_up {K : PySem.W.Frag} {H : Hp} {v : V} {s : Str} (h : Has K H v (.exc s)) : ∃ a, v = .ref a ∧ Exc K H a s := by
  cases h with
  | exc q => exact ⟨_, rfl, q⟩
theorem jd_isO (tab : List (Str × Bool)) {c : Str} (gi : Gl X "isinstance") (mi : X.mg "isinstance" = none) (vi : bootBuiltins "isinstance" = some (.builtin "isinstance")) (gc : Gl X c) (Z : IsN X.K X.mg [c] tab) (Ze : ExKs X.K tab) (he : JE X e te)
    (h1 : starEach [e, .Name c p2] X.env = (false, eval e X.env) :: starEach [.Name c p2] X.env := by rfl) (h2 : starEach [.Name c p2] X.env = (false, eval (.Name c p2) X.env) :: starEach [] X.env := by rfl) (h3 : (backTo pos (starEach [.Name c p2] X.env)).any (·.1) = false := by rfl) (hd : (c == ("__debug__" : Str)) = false := by decide) :
    JE X (.Call (.Name "isinstance" p) [e, .Name c p2] [] pos) (dIsX tab te) := by
  obtain ⟨Cs, hm, Zr⟩ := Z.ex
  obtain ⟨Cc, rfl⟩ : ∃ Cc, Cs = [Cc] := by
    cases Cs with
    | nil => cases hm
    | cons C Cs =>
      cases Cs with
      | nil => exact ⟨C, rfl⟩
      | cons C2 Cs => simp at hm
  have mc : X.mg c = some (.ref Cc) := by
    rw [List.map_cons, List.map_cons] at hm
    injection hm
  exact ⟨(pe_callB (cr_isX (v2 := .ref Cc) (isr_x Zr Ze) fun u r => r) gi mi vi (pa_cons he.out (pa_cons (pe_glc gc mc hd) pa_nil h2) h1) (by decide) (by decide) h1 h3).imp fun σ H Q ⟨e, M, R, ok, am, t, f⟩ => ⟨e, M, _, ok, am, t, fun x M1 ⟨s, b, z, ht, r⟩ v H1 k1 a1 r1 => by
    subst z
    obtain ⟨a, rfl, hx⟩ := isx_up r1
    exact ⟨a, s, b, rfl, hx, ht, f _ M1 r _ H1 k1 a1 (.bl b)⟩⟩⟩
theorem jd_isB (tab : List (Str × Bool)) {c : Str} {T : String} (gi : Gl X "isinstance") (mi : X.mg "isinstance" = none) (vi : bootBuiltins "isinstance" = some (.builtin "isinstance")) (gc : Gl X c) (mc : X.mg c = none) (vc : bootBuiltins c = some (.type T)) (Zr : IsR X.K [.type T] tab) (Ze : ExKs X.K tab) (he : JE X e te)
    (h1 : starEach [e, .Name c p2] X.env = (false, eval e X.env) :: starEach [.Name c p2] X.env := by rfl) (h2 : starEach [.Name c p2] X.env = (false, eval (.Name c p2) X.env) :: starEach [] X.env := by rfl) (h3 : (backTo pos (starEach [.Name c p2] X.env)).any (·.1) = false := by rfl) (hn : c ≠ "__name__" := by decide) (hd : (c == ("__debug__" : Str)) = false := by decide) :
    JE X (.Call (.Name "isinstance" p) [e, .Name c p2] [] pos) (dIsX tab te) :=
  ⟨(pe_callB (cr_isX (v2 := .ty T) (isr_x Zr Ze) fun u r => r) gi mi vi (pa_cons he.out (pa_cons (pe_bltn (v := .ty T) gc mc vc rfl hn hd) pa_nil h2) h1) (by decide) (by decide) h1 h3).imp fun σ H Q ⟨e, M, R, ok, am, t, f⟩ => ⟨e, M, _, ok, am, t, fun x M1 ⟨s, b, z, ht, r⟩ v H1 k1 a1 r1 => by
    subst z
    obtain ⟨a, rfl, hx⟩ := isx_up r1
    exact ⟨a, s, b, rfl, hx, ht, f _ M1 r _ H1 k1 a1 (.bl b)⟩⟩⟩
theorem z_IsX {tab : List (Str × Bool)} {te : DTE} {e : Ev} {M : Mem} {R : DK} : dIsX tab te e M R = te e M fun x M1 => ∃ s b, x = .exc s ∧ (s, b) ∈ tab ∧ R (.bl b) M1 := rfl
theorem z_offR {i : Nat} {F : DEnds} : (offN i F).rt = F.rt := rfl
theorem z_offN {i : Nat} {F : DEnds} {e : Ev} {M : Mem} : (offN i F).nx e M = F.nx (e.set i none) M := rfl
end
end DL

namespace GM
open PySem PySem.Spec L2 DL
open RM (sz)
local macro_rules | `(tactic| walk_at "inj") => `(tactic| (rename_i e h; simp only [List.cons.injEq, and_true, true_and, GM.ratD_iff, GM.partD_iff, GM.partsD_iff, GM.lineD_iff, GM.linesD_iff, D.tup.injEq, D.ref.injEq, D.int.injEq, D.str.injEq, D.bl.injEq, D.vl.injEq, Int.natCast_inj, and_assoc] at e; (repeat (obtain ⟨e1, e⟩ := e; subst e1)); subst e; exact h))
local macro_rules | `(tactic| walk_at "injs") => `(tactic| (rename_i e o h; rcases o with o | o <;> (subst o; first | (exfalso; simp only [D.tup.injEq, List.cons.injEq, reduceCtorEq, false_and, and_false] at e; done) | (simp only [List.cons.injEq, and_true, true_and, GM.ratD_iff, GM.partD_iff, GM.partsD_iff, GM.lineD_iff, GM.linesD_iff, D.tup.injEq, D.ref.injEq, D.int.injEq, D.str.injEq, D.bl.injEq, D.vl.injEq, Int.natCast_inj, and_assoc] at e; (repeat (obtain ⟨e1, e⟩ := e; subst e1)); subst e; exact h))))
structure Small (w : Rat) : Prop where
  n : w.num.natAbs ≤ 4
  d : w.den ≤ 4
  ne : w ≠ 0
theorem small_one : Small 1 := ⟨by decide, by decide, by decide⟩
theorem Small.sz {w : Rat} (h : Small w) : RM.sz w ≤ 3 := by
  rw [← Rat.num_divInt_den w]
  exact low_sz (by decide) (by have := h.n; omega) (by have := h.d; omega) (RM.den_ne w)
end GM

namespace GM
open PySem PySem.Spec L2 DL
open RM (sz)
local macro_rules | `(tactic| walk_at "inj") => `(tactic| (rename_i e h; simp only [List.cons.injEq, and_true, true_and, GM.ratD_iff, GM.partD_iff, GM.partsD_iff, GM.lineD_iff, GM.linesD_iff, D.tup.injEq, D.ref.injEq, D.int.injEq, D.str.injEq, D.bl.injEq, D.vl.injEq, Int.natCast_inj, and_assoc] at e; (repeat (obtain ⟨e1, e⟩ := e; subst e1)); subst e; exact h))
local macro_rules | `(tactic| walk_at "injs") => `(tactic| (rename_i e o h; rcases o with o | o <;> (subst o; first | (exfalso; simp only [D.tup.injEq, List.cons.injEq, reduceCtorEq, false_and, and_false] at e; done) | (simp only [List.cons.injEq, and_true, true_and, GM.ratD_iff, GM.partD_iff, GM.partsD_iff, GM.lineD_iff, GM.linesD_iff, D.tup.injEq, D.ref.injEq, D.int.injEq, D.str.injEq, D.bl.injEq, D.vl.injEq, Int.natCast_inj, and_assoc] at e; (repeat (obtain ⟨e1, e⟩ := e; subst e1)); subst e; exact h))))
theorem isNN {neg : Bool} {M : Mem} {R : DK} : gIs neg .non .non M R = R (.bl (neg.xor true)) M := z_Is rfl
theorem isRN {neg : Bool} {q : Rat} {M : Mem} {R : DK} : gIs neg (ratD q) .non M R = R (.bl (neg.xor false)) M := z_Is rfl
noncomputable def optD : Option Rat → D
  | none => .non
  | some q => ratD q
end GM

namespace GM
open PySem PySem.Spec L2 DL
open RM (sz)
local macro_rules | `(tactic| walk_at "inj") => `(tactic| (rename_i e h; simp only [List.cons.injEq, and_true, true_and, GM.ratD_iff, GM.partD_iff, GM.partsD_iff, GM.lineD_iff, GM.linesD_iff, D.tup.injEq, D.ref.injEq, D.int.injEq, D.str.injEq, D.bl.injEq, D.vl.injEq, Int.natCast_inj, and_assoc] at e; (repeat (obtain ⟨e1, e⟩ := e; subst e1)); subst e; exact h))
local macro_rules | `(tactic| walk_at "injs") => `(tactic| (rename_i e o h; rcases o with o | o <;> (subst o; first | (exfalso; simp only [D.tup.injEq, List.cons.injEq, reduceCtorEq, false_and, and_false] at e; done) | (simp only [List.cons.injEq, and_true, true_and, GM.ratD_iff, GM.partD_iff, GM.partsD_iff, GM.lineD_iff, GM.linesD_iff, D.tup.injEq, D.ref.injEq, D.int.injEq, D.str.injEq, D.bl.injEq, D.vl.injEq, Int.natCast_inj, and_assoc] at e; (repeat (obtain ⟨e1, e⟩ := e; subst e1)); subst e; exact h))))
end GM

namespace GM
open PySem PySem.Spec L2 DL
open RM (sz)
noncomputable def sSameR (k : Nat) : DSp := fun ds M R _ => ∃ x y : D, ds = [x, y] ∧ (x = y ∨ ∃ p xs, x = .ref p ∧ y = .vl xs ∧ M p = some (.lst xs)) ∧ clv k y = true ∧ R (.bl true) M
theorem z_sSameR {k : Nat} {x y : D} {M : Mem} {R : DK} {Y : DXK} : sSameR k [x, y] M R Y = ((x = y ∨ ∃ p xs, x = .ref p ∧ y = .vl xs ∧ M p = some (.lst xs)) ∧ clv k y = true ∧ R (.bl true) M) := propext ⟨fun ⟨_, _, e, h⟩ => by cases e; exact h, fun h => ⟨_, _, rfl, h⟩⟩
local macro_rules | `(tactic| walk_at "inj") => `(tactic| (rename_i e h; simp only [List.cons.injEq, and_true, true_and, GM.ratD_iff, GM.partD_iff, GM.partsD_iff, GM.lineD_iff, GM.linesD_iff, D.tup.injEq, D.ref.injEq, D.int.injEq, D.str.injEq, D.bl.injEq, D.vl.injEq, Int.natCast_inj, and_assoc] at e; (repeat (obtain ⟨e1, e⟩ := e; subst e1)); subst e; exact h))
local macro_rules | `(tactic| walk_at "injs") => `(tactic| (rename_i e o h; rcases o with o | o <;> (subst o; first | (exfalso; simp only [D.tup.injEq, List.cons.injEq, reduceCtorEq, false_and, and_false] at e; done) | (simp only [List.cons.injEq, and_true, true_and, GM.ratD_iff, GM.partD_iff, GM.partsD_iff, GM.lineD_iff, GM.linesD_iff, D.tup.injEq, D.ref.injEq, D.int.injEq, D.str.injEq, D.bl.injEq, D.vl.injEq, Int.natCast_inj, and_assoc] at e; (repeat (obtain ⟨e1, e⟩ := e; subst e1)); subst e; exact h))))
end GM

namespace GM
open PySem PySem.Spec L2 DL
open RM (sz)
local macro_rules | `(tactic| walk_at "inj") => `(tactic| (rename_i e h; simp only [List.cons.injEq, and_true, true_and, GM.ratD_iff, GM.partD_iff, GM.partsD_iff, GM.lineD_iff, GM.linesD_iff, D.tup.injEq, D.ref.injEq, D.int.injEq, D.str.injEq, D.bl.injEq, D.vl.injEq, Int.natCast_inj, and_assoc] at e; (repeat (obtain ⟨e1, e⟩ := e; subst e1)); subst e; exact h))
local macro_rules | `(tactic| walk_at "injs") => `(tactic| (rename_i e o h; rcases o with o | o <;> (subst o; first | (exfalso; simp only [D.tup.injEq, List.cons.injEq, reduceCtorEq, false_and, and_false] at e; done) | (simp only [List.cons.injEq, and_true, true_and, GM.ratD_iff, GM.partD_iff, GM.partsD_iff, GM.lineD_iff, GM.linesD_iff, D.tup.injEq, D.ref.injEq, D.int.injEq, D.str.injEq, D.bl.injEq, D.vl.injEq, Int.natCast_inj, and_assoc] at e; (repeat (obtain ⟨e1, e⟩ := e; subst e1)); subst e; exact h))))
end GM

namespace GM
open PySem PySem.Spec L2 DL
open RM (sz)
local macro_rules | `(tactic| walk_at "inj") => `(tactic| (rename_i e h; simp only [List.cons.injEq, and_true, true_and, GM.ratD_iff, GM.partD_iff, GM.partsD_iff, GM.lineD_iff, GM.linesD_iff, D.tup.injEq, D.ref.injEq, D.int.injEq, D.str.injEq, D.bl.injEq, D.vl.injEq, Int.natCast_inj, and_assoc] at e; (repeat (obtain ⟨e1, e⟩ := e; subst e1)); subst e; exact h))
local macro_rules | `(tactic| walk_at "injs") => `(tactic| (rename_i e o h; rcases o with o | o <;> (subst o; first | (exfalso; simp only [D.tup.injEq, List.cons.injEq, reduceCtorEq, false_and, and_false] at e; done) | (simp only [List.cons.injEq, and_true, true_and, GM.ratD_iff, GM.partD_iff, GM.partsD_iff, GM.lineD_iff, GM.linesD_iff, D.tup.injEq, D.ref.injEq, D.int.injEq, D.str.injEq, D.bl.injEq, D.vl.injEq, Int.natCast_inj, and_assoc] at e; (repeat (obtain ⟨e1, e⟩ := e; subst e1)); subst e; exact h))))
end GM

namespace GM
open PySem PySem.Spec L2 DL
open RM (sz)
theorem z_sIsO {neg : Bool} {o : Option Rat} {M : Mem} {R : DK} : gIs neg (optD o) .non M R = R (.bl (neg.xor o.isNone)) M := by
  cases o with
  | none => exact isNN
  | some q => exact isRN
local macro_rules | `(tactic| walk_at "inj") => `(tactic| (rename_i e h; simp only [List.cons.injEq, and_true, true_and, GM.ratD_iff, GM.partD_iff, GM.partsD_iff, GM.lineD_iff, GM.linesD_iff, D.tup.injEq, D.ref.injEq, D.int.injEq, D.str.injEq, D.bl.injEq, D.vl.injEq, Int.natCast_inj, and_assoc] at e; (repeat (obtain ⟨e1, e⟩ := e; subst e1)); subst e; exact h))
local macro_rules | `(tactic| walk_at "injs") => `(tactic| (rename_i e o h; rcases o with o | o <;> (subst o; first | (exfalso; simp only [D.tup.injEq, List.cons.injEq, reduceCtorEq, false_and, and_false] at e; done) | (simp only [List.cons.injEq, and_true, true_and, GM.ratD_iff, GM.partD_iff, GM.partsD_iff, GM.lineD_iff, GM.linesD_iff, D.tup.injEq, D.ref.injEq, D.int.injEq, D.str.injEq, D.bl.injEq, D.vl.injEq, Int.natCast_inj, and_assoc] at e; (repeat (obtain ⟨e1, e⟩ := e; subst e1)); subst e; exact h))))
end GM

namespace GM
open PySem PySem.Spec L2 DL
open RM (sz)
local macro_rules | `(tactic| walk_at "inj") => `(tactic| (rename_i e h; simp only [List.cons.injEq, and_true, true_and, GM.ratD_iff, GM.partD_iff, GM.partsD_iff, GM.lineD_iff, GM.linesD_iff, D.tup.injEq, D.ref.injEq, D.int.injEq, D.str.injEq, D.bl.injEq, D.vl.injEq, Int.natCast_inj, and_assoc] at e; (repeat (obtain ⟨e1, e⟩ := e; subst e1)); subst e; exact h))
local macro_rules | `(tactic| walk_at "injs") => `(tactic| (rename_i e o h; rcases o with o | o <;> (subst o; first | (exfalso; simp only [D.tup.injEq, List.cons.injEq, reduceCtorEq, false_and, and_false] at e; done) | (simp only [List.cons.injEq, and_true, true_and, GM.ratD_iff, GM.partD_iff, GM.partsD_iff, GM.lineD_iff, GM.linesD_iff, D.tup.injEq, D.ref.injEq, D.int.injEq, D.str.injEq, D.bl.injEq, D.vl.injEq, Int.natCast_inj, and_assoc] at e; (repeat (obtain ⟨e1, e⟩ := e; subst e1)); subst e; exact h))))
end GM

namespace GM
open PySem PySem.Spec L2 DL
open RM (sz)
noncomputable def isInt : D → Bool
  | .int _ => true
  | _ => false
noncomputable def fl0 : D → Bool
  | .ref _ => false
  | .ty _ => false
  | .exc _ => false
  | _ => true
noncomputable def fl1 : D → Bool
  | .ref _ => false
  | .ty _ => false
  | .exc _ => false
  | .tup ds => ds.all fl0
  | _ => true
noncomputable def fl2 : D → Bool
  | .ref _ => false
  | .ty _ => false
  | .exc _ => false
  | .tup ds => ds.all fl1
  | _ => true
noncomputable def isRt : D → Bool
  | .tup [.int n, .int d] => decide (1 ≤ d) && decide (Nat.gcd n.natAbs d.natAbs = 1)
  | _ => false
theorem z_sIntI {i : Int} : isInt (.int i) = true := rfl
theorem z_sFlI {i : Int} : fl0 (.int i) = true := rfl
theorem isInt_ex {d : D} (h : isInt d = true) : ∃ i, d = .int i := by
  cases d with
  | int i => exact ⟨i, rfl⟩
  | _ => cases h
theorem isRt_rat (q : Rat) : isRt (ratD q) = true := by
  show (decide (1 ≤ (q.den : Int)) && decide (Nat.gcd q.num.natAbs (q.den : Int).natAbs = 1)) = true
  rw [Bool.and_eq_true, decide_eq_true_eq, decide_eq_true_eq]
  exact ⟨by have := q.den_pos; omega, q.reduced⟩
theorem isRt_f1 {a b : D} (h : isInt a = false) : isRt (.tup [a, b]) = false := by
  cases a with
  | int i => cases h
  | _ => rfl
theorem isRt_f2 {a b : D} (h : isInt b = false) : isRt (.tup [a, b]) = false := by
  cases b with
  | int i => cases h
  | _ => cases a <;> rfl
local macro_rules | `(tactic| walk_at "inj") => `(tactic| (rename_i e h; simp only [List.cons.injEq, and_true, true_and, GM.ratD_iff, GM.partD_iff, GM.partsD_iff, GM.lineD_iff, GM.linesD_iff, D.tup.injEq, D.ref.injEq, D.int.injEq, D.str.injEq, D.bl.injEq, D.vl.injEq, Int.natCast_inj, and_assoc] at e; (repeat (obtain ⟨e1, e⟩ := e; subst e1)); subst e; exact h))
local macro_rules | `(tactic| walk_at "injs") => `(tactic| (rename_i e o h; rcases o with o | o <;> (subst o; first | (exfalso; simp only [D.tup.injEq, List.cons.injEq, reduceCtorEq, false_and, and_false] at e; done) | (simp only [List.cons.injEq, and_true, true_and, GM.ratD_iff, GM.partD_iff, GM.partsD_iff, GM.lineD_iff, GM.linesD_iff, D.tup.injEq, D.ref.injEq, D.int.injEq, D.str.injEq, D.bl.injEq, D.vl.injEq, Int.natCast_inj, and_assoc] at e; (repeat (obtain ⟨e1, e⟩ := e; subst e1)); subst e; exact h))))
noncomputable abbrev sWholeD_b (x : D) (M : Mem) (R : DK) (Y : DXK) : Prop := fl0 x = true ∧ R (.bl (isInt x)) M
noncomputable def sWholeD : DSp := fun ds M R Y => ∃ (x : D), ds = [x] ∧ sWholeD_b x M R Y
theorem z_sWholeD {x : D} {M : Mem} {R : DK} {Y : DXK} : sWholeD [x] M R Y = (sWholeD_b x M R Y) := propext ⟨fun z => by obtain ⟨_, _, _⟩ := z; walk_at "inj", fun h => ⟨x, rfl, h⟩⟩
noncomputable abbrev sIsRat_b (x : D) (M : Mem) (R : DK) (Y : DXK) : Prop := fl1 x = true ∧ R (.bl (isRt x)) M
noncomputable def sIsRat : DSp := fun ds M R Y => ∃ (x : D), ds = [x] ∧ sIsRat_b x M R Y
theorem z_sIsRat {x : D} {M : Mem} {R : DK} {Y : DXK} : sIsRat [x] M R Y = (sIsRat_b x M R Y) := propext ⟨fun z => by obtain ⟨_, _, _⟩ := z; walk_at "inj", fun h => ⟨x, rfl, h⟩⟩
end GM

namespace L2
open PySem PySem.Spec PyProof.Rows
section
variable {prog : Program} {w : World} {A : Around} {E : Value → Shared → Prop} {s : Shared}
theorem rev_onto {R : Result → Shared → Prop} {it l S : Addr} {rv : Value} {items : Array Value} {c₀ : Nat} (hh : A.handled = none) (hit : s.heap.IsRevIter it l ((items.size : Int) - 1)) (hl : s.heap.IsList l items) (hne : l ≠ it) (hi : S ≠ it) (hj : S ≠ l) (hz : items.size ≤ sizeLine)
    (hS : s.heap.get? S = some { cls := .type "list", data := .seq #[] c₀ })
    (fin : ∀ h' tk acc c1, (∀ b o, b ≠ S → b ≠ it → s.heap.get? b = some o → h'.get? b = some o) → h'.get? S = some { cls := .type "list", dict := none, data := .seq acc c1, slots := #[] } → ItemsOf (RevAt items) acc items.size → R (.ok (.ret rv)) { s with heap := h', toks := tk }) :
    wpAny (model prog w) A.in1 (Builtin.List.listExtendWith (.ref S) (.ref it) rv) (Fin2 prog w A R) (fun e s' => R (.error e) s') s := by
  have V := (Walks.listRev (prog := prog) (w := w) (A := A.in1) hh it l hne items).toS
  have nf : S ∉ [it, l] := fun q => by
    rcases List.mem_cons.mp q with q | q
    · exact hi q
    · exact hj (List.mem_singleton.mp q)
  unfold Builtin.List.listExtendWith
  refine wpAny_bind (wpAny_typeOf hit.typeIs ?_)
  have n1 : Builtin.List.listSameRef (.ref S) (.ref it) = false := by simp [Builtin.List.listSameRef, hi]
  have n2 : (Value.type "list_reverseiterator" == Value.type "list") = false := by decide
  have n3 : (Value.type "list_reverseiterator" == Value.type "tuple") = false := by decide
  simp only [n1, n2, n3, Bool.or_false, Bool.false_eq_true, if_false]
  refine wpAny_bind (wpAny_pyIter_revIter hit (wpAny_bind (wpAny_holding (rev_hint hit ?_))))
  refine wpAny_ite_split (fun z => absurd z (by decide +kernel)) (fun _ => ?_)
  refine wpAny_pure ⟨plainId_quiet F.plain_extend_loop _, ?_⟩
  have h0 : ((items.size : Int) - 1 - ((0 : Nat) : Int)) = (items.size : Int) - 1 := by omega
  refine codeAny_extend_loopS V hz S nf rv items.size 0 s #[] c₀ rfl (Nat.zero_le _) ⟨Nat.zero_le _, by rw [h0]; exact hit, hl⟩ hS (ItemsOf.nil _) fun s2 acc c1 mv g1 g2 => ?_
  rw [Moved.eq_with mv]
  exact fin s2.heap s2.toks acc c1 (fun b o q1 q2 q3 => mv.heap b o (fun q => (List.mem_cons.mp q).elim q1 fun q' => q2 (List.mem_singleton.mp q')) q3) g1 g2
theorem iadd_rev {R : Result → Shared → Prop} {it l S : Addr} {items : Array Value} {c₀ : Nat} (hh : A.handled = none) (hit : s.heap.IsRevIter it l ((items.size : Int) - 1)) (hl : s.heap.IsList l items) (hne : l ≠ it) (hi : S ≠ it) (hj : S ≠ l) (hz : items.size ≤ sizeLine)
    (hS : s.heap.get? S = some { cls := .type "list", data := .seq #[] c₀ })
    (fin : ∀ h' tk acc c1, (∀ b o, b ≠ S → b ≠ it → s.heap.get? b = some o → h'.get? b = some o) → h'.get? S = some { cls := .type "list", dict := none, data := .seq acc c1, slots := #[] } → ItemsOf (RevAt items) acc items.size → R (.ok (.ret (.ref S))) { s with heap := h', toks := tk }) :
    codeAny (model prog w) A (.builtin "list.__iadd__" ⟨[.ref S, .ref it], []⟩) R s := by
  refine codeAny_builtin F.entry_list_iadd ?_
  rw [Around.under_plainId F.plain_list_iadd _]
  exact rev_onto (rv := .ref S) hh hit hl hne hi hj hz hS fin
theorem collect_rev {it l : Addr} {items : Array Value} {Q : List Value → Shared → Prop} (hh : A.handled = none) (hit : s.heap.IsRevIter it l ((items.size : Int) - 1)) (hl : s.heap.IsList l items) (hne : l ≠ it) (hz : items.size ≤ sizeLine)
    (fin : ∀ h' tk acc, (∀ b o, b ≠ it → s.heap.get? b = some o → h'.get? b = some o) → ItemsOf (RevAt items) acc items.size → Q acc.toList { s with heap := h', toks := tk }) : wpAny (model prog w) A (collect (.ref it)) Q E s := by
  obtain ⟨oi, hoi, _⟩ := id hit
  obtain ⟨ol, hol, _⟩ := id hl
  have i1 : s.heap.objs.size ≠ it := Nat.ne_of_gt (Heap.lt_size hoi)
  have i2 : s.heap.objs.size ≠ l := Nat.ne_of_gt (Heap.lt_size hol)
  unfold collect
  refine wpAny_bind (wpAny_runValue (codeAny_builtin F.entry_proto_collect ?_)); rw [Around.under_plainId F.plain_proto_collect _]
  show wpAny _ A.in1 (newList [] >>= fun S => again (.builtin "list.__iadd__" ⟨[S, .ref it], []⟩)) _ _ s
  have up : ∀ b o, s.heap.get? b = some o → (s.heap.push { cls := .type "list", data := .seq ([] : List Value).toArray }).get? b = some o := fun b o e => Heap.get?_push_of_some _ e
  have gS : (s.heap.push { cls := .type "list", data := .seq ([] : List Value).toArray }).get? s.heap.objs.size = some { cls := .type "list", data := .seq #[] } := Heap.get?_push_size _ rfl
  refine wpAny_bind (wpAny_newObj_type (wpAny_pure ⟨plainId_quiet F.plain_list_iadd _, iadd_rev (s := { s with heap := s.heap.push { cls := .type "list", data := .seq ([] : List Value).toArray } }) hh (hit.at fun o e => up it o e) (hl.at fun o e => up l o e) hne i1 i2 hz gS fun h' tk acc c1 q1 q2 q3 => ?_⟩))
  show wpAny _ A (load s.heap.objs.size >>= _) _ _ _
  refine wpAny_bind (wpAny_load q2 (wpAny_pure (fin h' tk acc (fun b o b1 e => q1 b o (Nat.ne_of_lt (Heap.lt_size e)) b1 (up b o e)) q3)))
theorem call_join_rev {it a : Addr} {x : Str} {t : Tok} {items : List (Str × Tok)} {Q : Value → Shared → Prop} (hh : A.handled = none) (hit : s.heap.IsRevIter it a (((strValues items).toArray.size : Int) - 1)) (hl : s.heap.IsList a (strValues items).toArray) (hne : a ≠ it) (hz : (strValues items).toArray.size ≤ sizeLine)
    (hok : JoinOk x ((items.map (·.1)).reverse) = true)
    (hq : ∀ h' t' k, (∀ b o, b ≠ it → s.heap.get? b = some o → h'.get? b = some o) → Q (.str (Txt.join x ((items.map (·.1)).reverse)) t') { s with heap := h', toks := k }) :
    wpAny (model prog w) A (call (.builtin "str.join") [.str x t, .ref it]) Q E s := by
  refine wpAny_call (codeAny_call_builtin F.slot_str_join.plain F.entry_str_join (F.slot_str_join.check _ _ _ _ _ _ _ _ (typeIs_str _ _ _) (F.args_str_join_2 _ _) ?_)); rw [join_tree_other]
  refine wpAny_bind (wpAny_typeOf hit.typeIs ?_)
  show wpAny _ A.in1 ((pyIter (.ref it)).tryCatch _ >>= fun j => collect j >>= fun xs => joinTail x xs) _ _ s
  refine wpAny_bind (wpAny_tryCatch (wpAny_pyIter_revIter hit ?_))
  refine wpAny_bind (collect_rev (A := A.in1) hh hit hl hne hz fun h' tk acc k1 k2 => ?_)
  have hacc : acc.toList = (strValues items).reverse := rev_items k2
  rw [hacc, show (strValues items).reverse = strValues items.reverse from (List.map_reverse).symm]
  rw [← List.map_reverse] at hok hq
  unfold JoinOk at hok
  rw [Bool.not_eq_true'] at hok
  have g : Gives (joinTail x (strValues items.reverse)) (joinMade x items.reverse) := by
    have g0 := gives_joinTail x items.reverse hok
    generalize items.reverse = ii at *
    match ii with
    | [] => exact g0
    | [_] => exact g0
    | _ :: _ :: _ => exact g0
  exact g prog w A (wants Q E) { s with heap := h', toks := tk } (post_join items.reverse ⟨joinFit_length hok, fun t' k => hq h' t' k k1⟩)
end
section
variable {X : Cx}
theorem vals_strs : ∀ {ys : List Str} {us : List Value}, Vals (ys.map V.str) us → ∃ l : List (Str × Tok), strValues l = us ∧ l.map (·.1) = ys
  | [], _, h => by cases h; exact ⟨[], rfl, rfl⟩
  | y :: ys, _, h => by
    cases h with
    | cons r t =>
      obtain ⟨k, rfl⟩ := r
      obtain ⟨l, e1, e2⟩ := vals_strs t
      exact ⟨(y, k) :: l, by rw [← e1]; rfl, by rw [← e2]; rfl⟩
noncomputable def JoinSm (x : Str) (ys : List Str) : Prop := (ys.map (·.length)).sum + ys.length ≤ 1048576 ∧ x.length ≤ 16
theorem mt_joinRev (hc : X.calm = true) : MtR X "str.join" (fun x xs H Q => ∃ (sep : Str) (it a : Addr) (ys : List Str), x = .str sep ∧ xs = [.ref it] ∧ H it = some (.ext (revφ it a ys.length)) ∧ SqL X.K H a (ys.map V.str) ∧ a ≠ it ∧ X.s₀.heap.objs.size ≤ it ∧ JoinSm sep ys.reverse ∧ Q (.str (Txt.join sep ys.reverse)) (dropH H it)) := by
  intro pins s σ H x xs v us Q I rx rv h
  obtain ⟨sep, it, a, ys, rfl, rfl, hit, sq, hne, hge, ⟨j1, j2⟩, q⟩ := h
  obtain ⟨t, rfl⟩ := rx
  obtain ⟨u, rfl, ru⟩ := vals1 rv
  cases ru
  obtain ⟨its, r, pl, hz⟩ := I.list sq
  obtain ⟨l, e1, e2⟩ := vals_strs r
  have hl : its.length = ys.length := by rw [← e1, ← e2]; unfold strValues; rw [List.length_map, List.length_map]
  have hob : s.heap.get? it = some (revObj a ((ys.length : Int) - 1)) := (I.hok it _ hit).1
  have hsz : (strValues l).toArray.size = ys.length := by rw [List.size_toArray, e1]; exact hl
  rw [List.length_map] at hz
  refine call_join_rev (items := l) (I.ok.hd hc) ⟨_, hob, rfl, by rw [hsz]; rfl⟩ (by rw [e1]; exact pl.isList) hne (by rw [hsz]; exact hz) (by rw [e2]; exact joinOk_of_weight j1 j2) fun h' t' k k1 => ?_
  rw [e2]
  have nit : ∀ {b u}, H b = some u → u ≠ .ext (revφ it a ys.length) → b ≠ it := fun {b u} e n z => by
    rw [z, hit] at e; exact n (Option.some.inj e).symm
  have un : Un (frs X.stack) [it] H (dropH H it) s.heap h' := {
    keep := fun b o e n _ hx => k1 b o (fun z => hx (by simp [z])) e
    slot := fun b o e n _ hx => ⟨o.slots, k1 b o (fun z => hx (by simp [z])) e⟩
    free := fun b o e n hx => by rw [dropH_ne (fun z => hx (by simp [z]))]; exact n
    there := fun b o e hx => ⟨o, k1 b o (fun z => hx (by simp [z])) e⟩
    tups := fun b xs e => by rw [dropH_ne (nit e (by simp))]; exact e
    frzs := fun b o u e => by rw [dropH_ne (nit e (by simp))]; exact e
    tbls := fun b ps e => ⟨#[], by rw [dropH_ne (nit e (by simp))]; simpa using e⟩ }
  have ok : HOk X.prog X.w (dropH H it) h' := fun b u e => by
    have b2 : b ≠ it := fun z => by rw [z, dropH_same] at e; cases e
    rw [dropH_ne b2] at e
    refine (I.hok b u e).stay (fun c v hcv z => k1 c v ?_ z) (fun c z => ?_) fun c xs z => ?_
    · rcases hcv with z2 | z2
      · rw [z2]; exact b2
      · exact nit z2 (by simp)
    · rw [dropH_ne (nit z (by simp))]; exact z
    · rw [dropH_ne (nit z (by simp))]; exact z
  refine ⟨.str _, _, I.call (g' := s.gens) (d' := s.drawn) (t' := k) un ok I.bare (fun b hb => ?_), ⟨t', rfl⟩, q⟩
  obtain rfl : b = it := by simpa using hb
  refine ⟨.inr hge, fun z => ?_, fun x c e z => ?_, fun p hp z => ?_⟩
  · rw [z, I.free] at hit; cases hit
  · rw [← z, I.freeC x c e] at hit; cases hit
  · rw [← z, (I.pin p hp).2.1] at hit; cases hit
theorem cr_strInt : CallR X (.type "str") (fun xs H Q => ∃ n : Int, xs = [.int n] ∧ n.natAbs.log2 < 1920 ∧ Q (.str (toString n)) H) := by
  intro pins s σ H xs us Q I rv h
  obtain ⟨n, rfl, hn, q⟩ := h
  obtain ⟨u, rfl, ru⟩ := vals1 rv
  obtain ⟨t, rfl⟩ := ru
  exact P.str_of_int hn ⟨.str _, H, I.tok _, ⟨_, rfl⟩, q⟩
end
end L2
namespace DL
open PySem PySem.Spec L2
open PyProof.Rows hiding St
section
variable {X : Cx}
theorem has_strs {K : PySem.W.Frag} {H : Hp} : ∀ {ys : List Str} {vs : List V}, HasL K H vs (ys.map D.str) → vs = ys.map V.str
  | [], _, r => by cases r; rfl
  | b :: bs, _, r => by
    cases r with
    | cons r rr => cases r; rw [has_strs rr]; rfl
noncomputable def gStrI : DRC := fun ds M R => ∃ n : Int, ds = [.int n] ∧ n.natAbs.log2 < 1920 ∧ R (.str (toString n)) M
theorem c_strI : DCall X (.type "str") gStrI := CallR.imp cr_strInt fun xs H Q ⟨ds, M, R, hl, am, ⟨n, z, hn, r⟩, f⟩ => by
  subst z
  obtain ⟨v, rfl, hv⟩ := hl.one
  cases hv
  exact ⟨n, rfl, hn, f _ M r _ H (KT.refl H) am (.str _)⟩
noncomputable def gCatX : DR2 := fun x y M R => ∃ i j, x = .str i ∧ y = .str j ∧ i.length + j.length ≤ sizeLine ∧ R (.str (i ++ j)) M
theorem o_catX : DOp X (binaryOp .Add) gCatX := by
  intro pins s σ H x y v u Q I rx ry h
  obtain ⟨dx, dy, M, R, hx, hy, am, ⟨i, j, e1, e2, hl, r⟩, f⟩ := h
  subst e1; subst e2
  cases hx; cases hy
  exact op_add_str pins s σ H _ _ v u Q I rx ry ⟨i, j, rfl, rfl, hl, f _ M r _ H (KT.refl H) am (.str _)⟩
variable {o e : Expr} {to te : DTE} {t : DTA} {apos cpos p2 pos2 : Pos}
noncomputable def dJoinR (to te : DTE) : DTE := fun e M R => to e M fun x M1 => (∃ sep, x = .str sep) ∧ te e M1 fun a M2 => ∃ (sep : Str) (ys : List Str), x = .str sep ∧ itemsD M2 a = some (ys.map D.str) ∧ JoinSm sep ys.reverse ∧ R (.str (Txt.join sep ys.reverse)) M2
theorem drop_upd {H : Hp} {it : Addr} {o : HO} (h : H it = none) : dropH (L2.upd H it o) it = H := by
  funext b
  by_cases z : b = it
  · subst z; rw [dropH_same, h]
  · rw [dropH_ne z, upd_ne z]
theorem jd_joinR (hc : X.calm = true) (g2 : Gl X "reversed") (m2 : X.mg "reversed" = none) (v2 : bootBuiltins "reversed" = some (.type "reversed")) (ho : JE X o to) (he : JE X e te)
    (h1 : starEach [e] X.env = (false, eval e X.env) :: starEach [] X.env := by rfl) (h2 : starEach [.Call (.Name "reversed" p2) [e] [] pos2] X.env = (false, eval (.Call (.Name "reversed" p2) [e] [] pos2) X.env) :: starEach [] X.env := by rfl)
    (hbase : attributeBase o "join" X.env (eval o X.env) = eval o X.env := by rfl)
    (hfew : ((backTo cpos (starEach [.Call (.Name "reversed" p2) [e] [] pos2] X.env)).all (fun x => !x.1) && (backToKw cpos (keywordEach [] X.env)).all (fun x => x.1.isSome)
      && decide ([Expr.Call (.Name "reversed" p2) [e] [] pos2].length + ([] : List Keyword).length + (if ([] : List Keyword).isEmpty then 0 else 1) < 30)) = true := by rfl)
    (hline : (apos.endLine == cpos.line) = true := by rfl) (hplain : (backTo cpos (starEach [] X.env)).any (·.1) = false := by rfl) :
    JE X (.Call (.Attribute o "join" apos) [.Call (.Name "reversed" p2) [e] [] pos2] [] cpos) (dJoinR to te) :=
  ⟨(pe_bm PySem.F.plainAttrs_str PySem.F.slot_str_join PySem.F.type_str_join (mt_joinRev hc) ho.out (pa_cons (pe_callTy cr_reversed g2 m2 v2 (pa_cons he.out pa_nil h1) (by decide) (by decide) h1) pa_nil h2) hbase hfew hline h2 hplain).imp fun σ H Q ⟨e, M, R, ok, am, t, f⟩ => ⟨e, M, _, ok, am, t, fun x M1 ⟨⟨sep, z⟩, h1⟩ v H1 k1 a1 r1 => by
    subst z
    cases r1
    refine ⟨rfl, e, M1, _, ok.mono k1, a1, h1, fun d M2 h2 v2 H2 k2 a2 r2 => ?_⟩
    obtain ⟨sep2, ys, e1, hi, hj, r⟩ := h2
    cases e1
    obtain ⟨a, xs, rfl, sq, lx⟩ := itemsD_has a2 r2 hi
    have := has_strs lx
    subst this
    refine ⟨a, _, rfl, sq, fun it hit hne hge => ⟨sep, it, a, ys, rfl, rfl, by rw [List.length_map]; exact upd_same, SqL.upd sq (Ne.symm hne), Ne.symm hne, hge, hj, ?_⟩⟩
    rw [drop_upd hit]
    exact f _ M2 r _ H2 (k1.trans k2) a2 (.str _)⟩⟩
end
section
variable {e : Ev} {M : Mem} {R : DK} {to te : DTE} {t : DTA}
theorem z_CatX {i j : Str} : gCatX (.str i) (.str j) M R = (i.length + j.length ≤ sizeLine ∧ R (.str (i ++ j)) M) := propext ⟨fun ⟨_, _, a, b, c, r⟩ => by cases a; cases b; exact ⟨c, r⟩, fun ⟨c, r⟩ => ⟨_, _, rfl, rfl, c, r⟩⟩
theorem z_StrI {n : Int} : gStrI [.int n] M R = (n.natAbs.log2 < 1920 ∧ R (.str (toString n)) M) := propext ⟨fun ⟨_, a, c, r⟩ => by cases a; exact ⟨c, r⟩, fun ⟨c, r⟩ => ⟨_, rfl, c, r⟩⟩
theorem z_JoinR : dJoinR to te e M R = to e M fun x M1 => StrK x (te e M1 fun a M2 => ∃ (sep : Str) (ys : List Str), x = .str sep ∧ itemsD M2 a = some (ys.map D.str) ∧ JoinSm sep ys.reverse ∧ R (.str (Txt.join sep ys.reverse)) M2) := by
  unfold dJoinR StrK
  congr 1; funext x M1
  exact propext ⟨fun ⟨⟨s, z⟩, h⟩ => ⟨s, z, h⟩, fun ⟨s, z, h⟩ => ⟨⟨s, z⟩, h⟩⟩
end
end DL

namespace DL
open PySem PySem.Spec L2
open PyProof.Rows hiding St
section
variable {M : Model} {A : Around} {E : Value → Shared → Prop} {s : Shared} {B : Heap} {l : List Env} {env : Env} {L a : Addr} {cls a0 : Value}
end
section
variable {M : Model} {A : Around} {E : Value → Shared → Prop} {s : Shared} {env : Env}
end
section
variable {X : Cx} {elt tg iter : Expr} {scope : Scope} {cl : List (Str × Addr)} {tgs cps : List Str} {caps : List Nat} {wi : TI} {g : TG} {tc : TT} {te : TE} {pos : Pos} {ifs : List Expr} {EX : Value → Hp → Prop}
end
section
variable {g : DTG} {tc : DTIfs} {te : DTE}
end
section
variable {X : Cx} {mk : Bool} {H₀ : Hp} {Y : DXK} {elt tg iter : Expr} {scope : Scope} {tgs cps : List Str} {caps : List Nat} {ti : DTI} {g : DTG} {tc : DTIfs} {te : DTE} {pos : Pos} {ifs : List Expr}
end
end DL

namespace L2
open PySem PySem.Spec PyProof.Rows
noncomputable def Its (x : Str) : It := ⟨fun i _ => i < x.cps.size, fun i H v H' => H' = H ∧ ∃ c, x.cps[i]? = some c ∧ v = .str ⟨#[c]⟩, fun i _ => x.cps.size ≤ i⟩
theorem turn_str {P : Program} {w : World} {K : PySem.W.Frag} {tg : Expr} {x : Str} {t : Tok} (it : Addr) (nm : String) (hn : ["enumerate", "zip", "dict_itemiterator", "dict_reverseitemiterator", "odict_iterator", "itertools.zip_longest", "itertools.pairwise"].contains nm = false)
    (hW : ∀ A : Around, A.handled = none → Walks P w A it [it] [it] x.cps.size (SignAt x) (fun i h => h.IsStrIter it nm x t i)) (hS : ∀ (A : Around) (i : Nat) (s : Shared) (Q : Value → Shared → Prop) (E : Value → Shared → Prop), s.heap.IsStrIter it nm x t i → Q (.ref it) s → wpAny (model P w) A (pyIter (.ref it)) Q E s) :
    Turn P w K tg (Its x) [it] it (fun i h => i ≤ x.cps.size ∧ h.IsStrIter it nm x t i) where
  mem := by simp
  obj := fun i h st b hb => by
    obtain rfl : b = it := by simpa using hb
    obtain ⟨_, o, e, c, d⟩ := st
    exact ⟨o, e, fun v z => by rw [d] at z; cases z⟩
  keep := fun i h h2 st k => ⟨st.1, by obtain ⟨_, o, e, r⟩ := st; exact ⟨o, k it (by simp) o e, r⟩⟩
  item := by
    intro X hP hw hK hc i pins s σ H E I hf st hg
    subst hP hw hK
    obtain ⟨f0, f1, f2, f3, f4, f5⟩ := hf it (by simp)
    refine (hW X.A (I.ok.hd hc)).item i s _ _ hg st.2 fun v h2 tk hv st2 kk => ?_
    obtain ⟨c, u, hc1, rfl⟩ := hv
    have I1 : Inv X pins σ H { s with heap := h2, toks := tk } := I.turned (fun b o hb e => kk b o (by simpa using hb) e) f0 f1 f3 f4 f5
    obtain ⟨o, e, hcl, hd⟩ := id st2
    exact ⟨_, rfl, go_of (s := { s with heap := h2, toks := tk }) e hcl hd hn ⟨.str ⟨#[c]⟩, H, I1, ⟨u, rfl⟩, ⟨rfl, c, hc1, rfl⟩, ⟨hg, st2⟩, fun b hb => (hf b hb).1⟩⟩
  done := by
    intro X hP hw hK hc i pins s σ H E I hf st hg
    subst hP hw hK
    obtain ⟨f0, f1, f2, f3, f4, f5⟩ := hf it (by simp)
    have hi : i = x.cps.size := Nat.le_antisymm st.1 hg
    have st2 := st.2
    rw [hi] at st2
    exact (hW X.A (I.ok.hd hc)).done s _ _ st2 fun h2 tk kk => ⟨rfl, I.turned (fun b o hb e => kk b o (by simpa using hb) e) f0 f1 f3 f4 f5⟩
  self := fun A i s Q E st h => hS A i s Q E st.2 h
section
variable {X : Cx} {tg : Expr}
noncomputable def iStr (tl : TE) : TI := fun σ H R => tl σ H fun x H1 => ∃ z, x = .str z ∧ R (Its z) H1
theorem pi_str {l : Expr} {tl : TE} (hl : PE X l tl) : PI X tg l (iStr tl) := by
  intro pins s σ H R I h
  refine thn (hl pins s σ H _ I h) fun v s1 ⟨x, H1, I1, r1, q1⟩ => ?_
  obtain ⟨z, e, q⟩ := q1
  subst e
  obtain ⟨t, rfl⟩ := r1
  have fin : ∀ b ∈ [s1.heap.objs.size], FpOk X pins H1 b := fun b hb => by
    obtain rfl : b = s1.heap.objs.size := by simpa using hb
    exact I1.fpOk (Nat.le_refl _) (I1.hok.fresh (Nat.le_refl _))
  cases ha : z.cps.all (· < 128)
  · exact wpAny_pyIter_wide ha ⟨s1.heap.objs.size, [s1.heap.objs.size], _, _, H1, rfl, I1.kept (t' := s1.toks) fun b o e => Heap.get?_push_of_some _ e, turn_str _ "str_iterator" (by decide) (fun A hA => Walks.strWide hA _ z t) (fun A i s Q E st k => wpAny_pyIter_striter_wide st k), ⟨Nat.zero_le _, _, Heap.get?_push_size _ rfl, rfl, rfl⟩, fin, q⟩
  · exact wpAny_pyIter_ascii ha ⟨s1.heap.objs.size, [s1.heap.objs.size], _, _, H1, rfl, I1.kept (t' := s1.toks) fun b o e => Heap.get?_push_of_some _ e, turn_str _ "str_ascii_iterator" (by decide) (fun A hA => Walks.strAscii hA _ z t) (fun A i s Q E st k => wpAny_pyIter_striter_ascii st k), ⟨Nat.zero_le _, _, Heap.get?_push_size _ rfl, rfl, rfl⟩, fin, q⟩
theorem sl_str : SlR X (fun x lo hi H Q => ∃ z, x = .str z ∧ z.length ≤ sizeLine ∧ Q (.str (Txt.slice z lo hi)) H) := by
  intro pins s σ H x v vl vu lo hi sl Q I rx hs pl pu h
  obtain ⟨z, rfl, hz, q⟩ := h
  obtain ⟨t, rfl⟩ := rx
  refine ⟨"str", _, PySem.F.slot_str_getitem.lookup, typeIs_str _ _ _, ?_⟩
  have fin : ∀ t2 k, EP X pins σ Q (.str (Txt.slice z lo hi) t2) { s with toks := k } := fun t2 k => ⟨.str _, H, I.tok k, ⟨t2, rfl⟩, q⟩
  have le := Nat.le_trans (Txt.slice_le z lo hi) hz
  cases pl with
  | none => cases pu with
    | none => exact wpAny_getItem_str_slice (l := none) (u := none) (st := none) hs rfl (post_val_or_str ⟨le, fin⟩)
    | int j u => exact wpAny_getItem_str_slice (l := none) (u := some (j, u)) (st := none) hs rfl (post_val_or_str ⟨le, fin⟩)
  | int i u => cases pu with
    | none => exact wpAny_getItem_str_slice (l := some (i, u)) (u := none) (st := none) hs rfl (post_val_or_str ⟨le, fin⟩)
    | int j u2 => exact wpAny_getItem_str_slice (l := some (i, u)) (u := some (j, u2)) (st := none) hs rfl (post_val_or_str ⟨le, fin⟩)
theorem op_mulS : OpR X (binaryOp .Mult) (fun x y H Q => ∃ z n, x = .str z ∧ y = .int n ∧ MulOk z n ∧ Q (.str (Txt.mul z n)) H) := by
  intro pins s σ H x y v u Q I rx ry h
  obtain ⟨z, n, rfl, rfl, hk, q⟩ := h
  obtain ⟨t, rfl⟩ := rx
  obtain ⟨t2, rfl⟩ := ry
  exact SB.mul hk fun t3 k => ⟨.str _, H, I.tok k, ⟨t3, rfl⟩, q⟩
theorem cr_intText : CallR X (.type "int") (fun xs H Q => ∃ z n, xs = [.str z] ∧ PySem.intText? z = some n ∧ z.length ≤ 640 ∧ Q (.int n) H) := by
  intro pins s σ H xs us Q I rv h
  obtain ⟨z, n, rfl, hn, hl, q⟩ := h
  obtain ⟨u, rfl, ru⟩ := vals1 rv
  obtain ⟨t, rfl⟩ := ru
  exact PySem.W.KIN.call_text hn hl ⟨.int n, H, I.tok _, ⟨_, rfl⟩, q⟩
theorem vals3 {a b c : Str} {t u v : Tok} : Vals [.str a, .str b, .str c] [.str a t, .str b u, .str c v] := .cons ⟨t, rfl⟩ (.cons ⟨u, rfl⟩ (.cons ⟨v, rfl⟩ .nil))
theorem mt_partition : MtR X "str.partition" (fun x xs H Q => ∃ z y, x = .str z ∧ xs = [.str y] ∧ (y.length == 0) = false ∧ z.length ≤ sizeLine ∧
    ∀ p, H p = none → Q (.ref p) (upd H p (.tup [.str (Txt.partition z y).1, .str (Txt.partition z y).2.1, .str (Txt.partition z y).2.2]))) := by
  intro pins s σ H x xs v us Q I rx rv h
  obtain ⟨z, y, rfl, rfl, hy, hz, q⟩ := h
  obtain ⟨t, rfl⟩ := rx
  obtain ⟨u, rfl, ru⟩ := vals1 rv
  obtain ⟨t2, rfl⟩ := ru
  refine call_meets F.slot_str_partition (typeIs_str _ _ _) F.entry_str_partition (F.args_str_partition_2 _ _) (meets_str_partition z y t t2 hy hz) ?_
  have q2 := q s.heap.objs.size (I.hok.fresh (Nat.le_refl _))
  unfold Txt.partition at q2
  revert q2
  cases Builtin.Str.occurrences z y 0 z.length 1 with
  | nil => exact fun q2 => ⟨.ref s.heap.objs.size, _, I.laid (o := .tup _) (fun b ob q => Heap.get?_push_of_some _ q) (Nat.le_refl _) ⟨by show 3 ≤ sizeLine; decide, _, vals3, IsTup.new _ _⟩, rfl, q2⟩
  | cons i r => exact fun q2 => ⟨.ref s.heap.objs.size, _, I.laid (o := .tup _) (fun b ob q => Heap.get?_push_of_some _ q) (Nat.le_refl _) ⟨by show 3 ≤ sizeLine; decide, _, vals3, IsTup.new _ _⟩, rfl, q2⟩
theorem vals_of_strs : ∀ (l : List (Str × Tok)), Vals ((l.map (·.1)).map V.str) (strValues l)
  | [] => .nil
  | p :: r => .cons ⟨p.2, rfl⟩ (vals_of_strs r)
theorem mt_zfill : MtR X "str.zfill" (fun x xs H Q => ∃ z n, x = .str z ∧ xs = [.int n] ∧ PadOk n = true ∧ Q (.str (Txt.zfill z n)) H) := by
  intro pins s σ H x xs v us Q I rx rv h
  obtain ⟨z, n, rfl, rfl, hp, q⟩ := h
  obtain ⟨t, rfl⟩ := rx
  obtain ⟨u, rfl, ru⟩ := vals1 rv
  obtain ⟨t2, rfl⟩ := ru
  exact SC.zfill hp fun t3 k => ⟨.str _, H, I.tok k, ⟨t3, rfl⟩, q⟩
theorem cr_divmod : CallR X (.builtin "divmod") (fun xs H Q => ∃ a b : Int, xs = [.int a, .int b] ∧ b ≠ 0 ∧ b.natAbs.log2 < 9000 ∧ ∀ p, H p = none → Q (.ref p) (upd H p (.tup [.int (a.fdiv b), .int (a.fmod b)]))) := by
  intro pins s σ H xs us Q I rv h
  obtain ⟨a, b, rfl, hb, hl, q⟩ := h
  obtain ⟨u, v, rfl, ⟨t, rfl⟩, ⟨t2, rfl⟩⟩ := vals2 rv
  refine divmod_int hb ?_ (.inl (PyProof.noPylong_of_log2 hl))
  · exact ⟨.ref s.heap.objs.size, _, I.laid (o := .tup [.int (a.fdiv b), .int (a.fmod b)]) (fun b ob q => Heap.get?_push_of_some _ q) (Nat.le_refl _) ⟨by show 2 ≤ sizeLine; decide, [.int (a.fdiv b) _, .int (a.fmod b) _], .cons ⟨_, rfl⟩ (.cons ⟨_, rfl⟩ .nil), IsTup.new _ _⟩, rfl, q _ (I.hok.fresh (Nat.le_refl _))⟩
theorem mt_split : MtR X "str.split" (fun x xs H Q => ∃ z y, x = .str z ∧ xs = [.str y] ∧ (y.length == 0) = false ∧ z.length + 2 ≤ sizeLine ∧ ∀ p, H p = none → Q (.ref p) (upd H p (.lst ((Txt.split z y).map V.str)))) := by
  intro pins s σ H x xs v us Q I rx rv h
  obtain ⟨z, y, rfl, rfl, hy, hz, q⟩ := h
  obtain ⟨t, rfl⟩ := rx
  obtain ⟨u, rfl, ru⟩ := vals1 rv
  obtain ⟨t2, rfl⟩ := ru
  have q2 := q s.heap.objs.size (I.hok.fresh (Nat.le_refl _))
  have few : (Builtin.Str.partsBetween z (Builtin.Str.occurrences z y 0 z.length (z.length + 1)) y.length).length ≤ sizeLine := by
    rw [length_partsBetween]
    have := StrLaws.occ_length_le z y 0 z.length (z.length + 1)
    omega
  have few2 : (Txt.split z y).length ≤ sizeLine := by
    unfold Txt.split
    split
    · exact Nat.le_trans (by decide : 1 ≤ 2) (by omega)
    · split
      · exact Nat.le_trans (by decide : 1 ≤ 2) (by omega)
      · exact few
  have fin : ∀ (l : List (Str × Tok)) (k : Nat), l.map (·.1) = Txt.split z y → wants (EP X pins σ Q) X.xe (.ok (.ret (.ref s.heap.objs.size))) { s with heap := s.heap.push { cls := .type "list", data := .seq (strValues l).toArray }, toks := k } := fun l k e => by
    refine ⟨.ref s.heap.objs.size, _, I.laid (o := .lst ((Txt.split z y).map V.str)) (fun b ob q => Heap.get?_push_of_some _ q) (Nat.le_refl _) ⟨by rw [List.length_map]; exact few2, strValues l, 0, by rw [← e]; exact vals_of_strs l, Heap.get?_push_size _ rfl⟩, rfl, q2⟩
  cases h1 : (decide (z.length < y.length) || decide (Builtin.Str.strKind z < Builtin.Str.strKind y))
  · cases hf : (Builtin.Str.occurrences z y 0 z.length (z.length + 1)).isEmpty
    · refine call_meets F.slot_str_split (typeIs_str _ _ _) F.entry_str_split (F.args_str_split_2 _ _) (meets_str_split_sep z y t t2 h1 hy hf (by omega) few) ?_
      have e : strsFrom s.toks (Builtin.Str.partsBetween z (Builtin.Str.occurrences z y 0 z.length (z.length + 1)) y.length) = _ := strsFrom_eq _ _
      have := fin (numbered s.toks (Builtin.Str.partsBetween z (Builtin.Str.occurrences z y 0 z.length (z.length + 1)) y.length)) (s.toks + (Builtin.Str.partsBetween z (Builtin.Str.occurrences z y 0 z.length (z.length + 1)) y.length).length) ((numbered_texts _ _).trans (by unfold Txt.split; rw [h1, hf]; rfl))
      rw [← e] at this
      exact this
    · exact call_meets F.slot_str_split (typeIs_str _ _ _) F.entry_str_split (F.args_str_split_2 _ _) (meets_str_split_not_found z y t t2 h1 hy hf) (fin [(z, t)] s.toks (by unfold Txt.split; rw [h1, hf]; rfl))
  · exact call_meets F.slot_str_split (typeIs_str _ _ _) F.entry_str_split (F.args_str_split_2 _ _) (meets_str_split_cannot_occur z y t t2 h1) (fin [(z, t)] s.toks (by unfold Txt.split; rw [h1]; rfl))
end
end L2
namespace DL
open PySem PySem.Spec L2
open PyProof.Rows hiding St
section
variable {X : Cx}
noncomputable def gLenS : DRC := fun ds M R => ∃ s : Str, ds = [.str s] ∧ s.length ≤ sizeLine ∧ R (.int (s.length : Int)) M
theorem c_lenS : DCall X (.builtin "len") gLenS := CallR.imp call_len_str fun xs H Q ⟨ds, M, R, hl, am, ⟨n, z, hn, r⟩, f⟩ => by
  subst z
  obtain ⟨v, rfl, hv⟩ := hl.one
  cases hv
  exact ⟨n, rfl, hn, f _ M r _ H (KT.refl H) am (.int _)⟩
noncomputable def gIntT : DRC := fun ds M R => ∃ (s : Str) (n : Int), ds = [.str s] ∧ PySem.intText? s = some n ∧ s.length ≤ 640 ∧ R (.int n) M
theorem c_intT : DCall X (.type "int") gIntT := CallR.imp cr_intText fun xs H Q ⟨ds, M, R, hl, am, ⟨s, n, z, hn, hk, r⟩, f⟩ => by
  subst z
  obtain ⟨v, rfl, hv⟩ := hl.one
  cases hv
  exact ⟨s, n, rfl, hn, hk, f _ M r _ H (KT.refl H) am (.int _)⟩
noncomputable def gMulS : DR2 := fun x y M R => ∃ i j, x = .str i ∧ y = .int j ∧ MulOk i j ∧ R (.str (Txt.mul i j)) M
theorem o_mulS : DOp X (binaryOp .Mult) gMulS := by
  intro pins s σ H x y v u Q I rx ry h
  obtain ⟨dx, dy, M, R, hx, hy, am, ⟨i, j, e1, e2, hl, r⟩, f⟩ := h
  subst e1; subst e2
  cases hx; cases hy
  exact op_mulS pins s σ H _ _ v u Q I rx ry ⟨i, j, rfl, rfl, hl, f _ M r _ H (KT.refl H) am (.str _)⟩
noncomputable def inS (i j : Str) : Bool := !(Builtin.Str.occurrences j i 0 j.length 1).isEmpty
noncomputable def gInS (neg : Bool) : DR2 := fun x y M R => ∃ i j, x = .str i ∧ y = .str j ∧ R (.bl (if neg then !inS i j else inS i j)) M
theorem o_notinS : DOp X (compareOp .NotIn) (gInS true) := by
  intro pins s σ H x y v u Q I rx ry h
  obtain ⟨dx, dy, M, R, hx, hy, am, ⟨i, j, e1, e2, r⟩, f⟩ := h
  subst e1; subst e2
  cases hx; cases hy
  exact op_notin_str pins s σ H _ _ v u Q I rx ry ⟨i, j, rfl, rfl, f _ M r _ H (KT.refl H) am (.bl _)⟩
variable {a b : Expr} {ta tb : DTE} {pos p2 : Pos}
noncomputable def gIxS (x y : D) (M : Mem) (R : DK) : Prop := ∃ (z : Str) (i : Nat) (c : Nat), x = .str z ∧ y = .int (i : Int) ∧ i < 2 ^ 62 ∧ z.cps[i]? = some c ∧ R (.str ⟨#[c]⟩) M
noncomputable def dIxS (ta tb : DTE) : DTE := fun e M R => ta e M fun x M1 => tb e M1 fun y M2 => gIxS x y M2 R
theorem jd_ixS (ha : JE X a ta) (hb : JE X b tb) (hs : PlainIxT b := by intro _ _; with_unfolding_all rfl) : JE X (.Subscript a b pos) (dIxS ta tb) :=
  ⟨(pe_item_str ha.out hb.out hs).imp fun σ H Q ⟨e, M, R, ok, am, t, f⟩ => ⟨e, M, _, ok, am, t, fun x M1 h1 v H1 k1 a1 r1 => ⟨e, M1, _, ok.mono k1, a1, h1, fun y M2 ⟨z, i, c, e1, e2, hi, hc, r⟩ u H2 k2 a2 r2 => by
    subst e1; subst e2
    cases r1; cases r2
    have hl : i < z.cps.size := by
      rcases Nat.lt_or_ge i z.cps.size with q | q
      · exact q
      · rw [Array.getElem?_eq_none q] at hc; cases hc
    exact ⟨z, (i : Int), c, rfl, rfl, Int.natCast_nonneg _, by omega, by show (i : Int) < (z.cps.size : Int); omega, by rw [Int.toNat_natCast]; exact hc, f _ M2 r _ H2 (k1.trans k2) a2 (.str _)⟩⟩⟩⟩
noncomputable def gSlS (x : D) (lo hi : Option Int) (M : Mem) (R : DK) : Prop := ∃ z, x = .str z ∧ z.length ≤ sizeLine ∧ R (.str (Txt.slice z lo hi)) M
noncomputable def dSlS (te : DTE) (tl th : DTO) : DTE := fun e M R => te e M fun x M1 => tl e M1 fun l M2 => th e M2 fun u M3 => gSlS x l u M3 R
theorem jd_slS {e : Expr} {te : DTE} {lo hi : Option Expr} {tl th : DTO} (he : JE X e te) (hl : JO X lo tl) (hu : JO X hi th) : JE X (.Subscript e (.Slice lo hi none p2) pos) (dSlS te tl th) :=
  ⟨(pe_slice sl_str he.out hl.out hu.out).imp fun σ H Q ⟨e, M, R, ok, am, t, f⟩ => ⟨e, M, _, ok, am, t, fun x M1 h1 v H1 k1 a1 r1 => ⟨e, M1, _, ok.mono k1, a1, h1, fun l M2 h2 H2 k2 a2 => ⟨e, M2, _, (ok.mono k1).mono k2, a2, h2, fun u M3 ⟨z, e1, hz, r⟩ H3 k3 a3 => by
    subst e1
    cases r1
    exact ⟨z, rfl, hz, f _ M3 r _ H3 (k1.trans (k2.trans k3)) a3 (.str _)⟩⟩⟩⟩⟩
noncomputable def sgD (x : Str) : List D := x.cps.toList.map fun c => D.str ⟨#[c]⟩
noncomputable def diStr (ti : DTE) : DTI := fun e M R => ti e M fun x M1 => ∃ z, x = .str z ∧ R (sgD z) (fun _ => True) M1
theorem walk_str {K : PySem.W.Frag} {H1 : Hp} {z : Str} : Walk K H1 (Its z) (sgD z) (fun _ => True) where
  go := fun i H2 M2 hi k am st => by unfold sgD at hi; rw [List.length_map, Array.length_toList] at hi; exact hi
  yld := fun i H2 M2 x H3 hi k am st ⟨e, c, hc, hx⟩ => by
    subst e; subst hx
    exact ⟨.str ⟨#[c]⟩, by unfold sgD; rw [List.getElem?_map, Array.getElem?_toList, hc]; rfl, KT.refl _, am, .str _⟩
  stop := fun i H2 M2 hi k am st => by unfold sgD at hi; rw [List.length_map, Array.length_toList] at hi; exact hi
  up := fun _ _ _ _ _ => trivial
theorem jpd_str {tg iter : Expr} {ti : DTE} (hi : JE X iter ti) : JI X tg iter (diStr ti) := ⟨PI.imp (pi_str hi.out) fun σ H R ⟨e, M, R1, ok, am, t, f⟩ => ⟨e, M, _, ok, am, t, fun x M1 ⟨z, e1, r⟩ v H1 k1 a1 r1 => by
  subst e1
  cases r1
  exact ⟨z, rfl, f _ _ M1 r H1 k1 a1 _ walk_str⟩⟩⟩
end
section
variable {X : Cx} {o e : Expr} {to : DTE} {t : DTA} {apos cpos : Pos}
noncomputable def dMtS (g : Str → List D → Mem → DK → Prop) (to : DTE) (t : DTA) : DTE := fun e M R => to e M fun x M1 => ∃ z, x = .str z ∧ t e M1 fun xs M2 => g z xs M2 R
noncomputable def gPart (z : Str) (xs : List D) (M : Mem) (R : DK) : Prop := ∃ y : Str, xs = [.str y] ∧ (y.length == 0) = false ∧ z.length ≤ sizeLine ∧ R (.tup [.str (Txt.partition z y).1, .str (Txt.partition z y).2.1, .str (Txt.partition z y).2.2]) M
noncomputable def gSplit (z : Str) (xs : List D) (M : Mem) (R : DK) : Prop := ∃ y : Str, xs = [.str y] ∧ (y.length == 0) = false ∧ z.length + 2 ≤ sizeLine ∧ R (.vl ((Txt.split z y).map D.str)) M
noncomputable def rMtS (r : V → List V → Hp → VK → Prop) (K : PySem.W.Frag) (g : Str → List D → Mem → DK → Prop) : Prop := ∀ (z : Str) (xs : List D) (M : Mem) (R : DK) (H H0 : Hp) (Q : VK) (vs : List V), g z xs M R → AbsM K H M → HasL K H vs xs → KT H0 H → FitV K H0 R Q → r (.str z) vs H Q
theorem jd_mtS {n : Str} {id : String} {r : V → List V → Hp → VK → Prop} {g : Str → List D → Mem → DK → Prop} (slot : PySem.Slot "str" n id) (hty : typeOf (.builtin id) = pure (.type "method_descriptor")) (hm : MtR X id r) (hg : rMtS r X.K g) (ho : JE X o to) (ha : JA X [e] t)
    (hbase : attributeBase o n X.env (eval o X.env) = eval o X.env := by rfl)
    (hfew : ((backTo cpos (starEach [e] X.env)).all (fun x => !x.1) && (backToKw cpos (keywordEach [] X.env)).all (fun x => x.1.isSome)
      && decide ([e].length + ([] : List Keyword).length + (if ([] : List Keyword).isEmpty then 0 else 1) < 30)) = true := by rfl)
    (hline : (apos.endLine == cpos.line) = true := by rfl) (hs : starEach [e] X.env = (false, eval e X.env) :: starEach [] X.env := by rfl) (hplain : (backTo cpos (starEach [] X.env)).any (·.1) = false := by rfl) :
    JE X (.Call (.Attribute o n apos) [e] [] cpos) (dMtS g to t) :=
  ⟨(pe_bm PySem.F.plainAttrs_str slot hty hm ho.out ha.out hbase hfew hline hs hplain).imp fun σ H Q ⟨e, M, R, ok, am, t, f⟩ => ⟨e, M, _, ok, am, t, fun x M1 ⟨z, e1, h1⟩ v H1 k1 a1 r1 => by
    subst e1
    cases r1
    exact ⟨rfl, e, M1, _, ok.mono k1, a1, h1, fun zs M2 h2 vs H2 k2 a2 r2 => hg z zs M2 R H2 H Q vs h2 a2 r2 (k1.trans k2) f⟩⟩⟩
theorem r_partition {K : PySem.W.Frag} : rMtS (fun x xs H Q => ∃ z y, x = .str z ∧ xs = [.str y] ∧ (y.length == 0) = false ∧ z.length ≤ sizeLine ∧
    ∀ p, H p = none → Q (.ref p) (L2.upd H p (.tup [.str (Txt.partition z y).1, .str (Txt.partition z y).2.1, .str (Txt.partition z y).2.2]))) K gPart := fun z xs M R H H0 Q vs ⟨y, e, hy, hz, r⟩ am l k f => by
  subst e
  obtain ⟨v, rfl, hv⟩ := l.one
  cases hv
  exact ⟨z, y, rfl, rfl, hy, hz, fun p hp => f _ M r _ _ (k.trans (KT.alloc hp)) (am.alloc hp) (.tup (SqT.of upd_same) (.cons (.str _) (.cons (.str _) (.cons (.str _) .nil))))⟩
theorem hasL_strs {K : PySem.W.Frag} {H : Hp} : ∀ (ys : List Str), HasL K H (ys.map V.str) (ys.map D.str)
  | [] => .nil
  | _ :: ys => .cons (.str _) (hasL_strs ys)
theorem jd_split {n : Str} (hn : n = "split") (slot : PySem.Slot "str" n "str.split") (ho : JE X o to) (ha : JA X [e] t)
    (hbase : attributeBase o n X.env (eval o X.env) = eval o X.env := by rfl)
    (hfew : ((backTo cpos (starEach [e] X.env)).all (fun x => !x.1) && (backToKw cpos (keywordEach [] X.env)).all (fun x => x.1.isSome)
      && decide ([e].length + ([] : List Keyword).length + (if ([] : List Keyword).isEmpty then 0 else 1) < 30)) = true := by rfl)
    (hline : (apos.endLine == cpos.line) = true := by rfl) (hs : starEach [e] X.env = (false, eval e X.env) :: starEach [] X.env := by rfl) (hplain : (backTo cpos (starEach [] X.env)).any (·.1) = false := by rfl) :
    JE X (.Call (.Attribute o n apos) [e] [] cpos) (dMtS gSplit to t) :=
  ⟨(pe_frz (pe_bm PySem.F.plainAttrs_str slot PySem.F.type_str_split mt_split ho.out ha.out hbase hfew hline hs hplain)).imp fun σ H Q ⟨e, M, R, ok, am, t, f⟩ => ⟨e, M, _, ok, am, t, fun x M1 ⟨z, e1, h1⟩ v H1 k1 a1 r1 => by
    subst e1
    cases r1
    refine ⟨rfl, e, M1, _, ok.mono k1, a1, h1, fun zs M2 ⟨y, e2, hy, hz, r⟩ vs H2 k2 a2 r2 => ?_⟩
    subst e2
    obtain ⟨v, rfl, hv⟩ := r2.one
    cases hv
    exact ⟨z, y, rfl, rfl, hy, hz, fun p hp => frz_new f (k1.trans k2) a2 (hasL_strs _) r p hp⟩⟩⟩
theorem r_zfill {K : PySem.W.Frag} : rMtS (fun x xs H Q => ∃ z n, x = .str z ∧ xs = [.int n] ∧ PadOk n = true ∧ Q (.str (Txt.zfill z n)) H) K (fun z xs M R => ∃ n : Int, xs = [.int n] ∧ PadOk n = true ∧ R (.str (Txt.zfill z n)) M) := fun z xs M R H H0 Q vs ⟨y, e, hp, r⟩ am l k f => by
  subst e
  obtain ⟨v, rfl, hv⟩ := l.one
  cases hv
  exact ⟨z, y, rfl, rfl, hp, f _ M r _ H k am (.str _)⟩
theorem bt_divmod : bootBuiltins "divmod" = some (.builtin "divmod") := by decide +kernel
noncomputable def gDivmod : DRC := fun ds M R => ∃ a b : Int, ds = [.int a, .int b] ∧ CFd a b ∧ R (.tup [.int (a.fdiv b), .int (a.fmod b)]) M
theorem c_divmod : DCall X (.builtin "divmod") gDivmod := CallR.imp cr_divmod fun xs H Q ⟨ds, M, R, hl, am, ⟨a, b, z, ⟨h0, hn⟩, r⟩, f⟩ => by
  subst z
  obtain ⟨v, v2, rfl, hv, hv2⟩ := hl.two
  cases hv; cases hv2
  exact ⟨a, b, rfl, h0, hn, fun p hp => f _ M r _ _ (KT.alloc hp) (am.alloc hp) (.tup (SqT.of upd_same) (.cons (.int _) (.cons (.int _) .nil)))⟩
end
section
variable {X : Cx} {x : Expr} {t : DTE}
end
section
variable {M : Mem} {R : DK} {e : Ev} {to ta tb : DTE} {t : DTA}
theorem z_LenS {s : Str} : gLenS [.str s] M R = (s.length ≤ sizeLine ∧ R (.int (s.length : Int)) M) := propext ⟨fun ⟨_, a, c, r⟩ => by cases a; exact ⟨c, r⟩, fun ⟨c, r⟩ => ⟨_, rfl, c, r⟩⟩
theorem z_IntT {s : Str} : gIntT [.str s] M R = (∃ n : Int, PySem.intText? s = some n ∧ s.length ≤ 640 ∧ R (.int n) M) := propext ⟨fun ⟨_, n, a, b, c, r⟩ => by cases a; exact ⟨n, b, c, r⟩, fun ⟨n, b, c, r⟩ => ⟨_, n, rfl, b, c, r⟩⟩
theorem z_MulS {i : Str} {j : Int} : gMulS (.str i) (.int j) M R = (MulOk i j ∧ R (.str (Txt.mul i j)) M) := propext ⟨fun ⟨_, _, a, b, c, r⟩ => by cases a; cases b; exact ⟨c, r⟩, fun ⟨c, r⟩ => ⟨_, _, rfl, rfl, c, r⟩⟩
theorem z_InS {neg : Bool} {i j : Str} : gInS neg (.str i) (.str j) M R = R (.bl (neg.xor (inS i j))) M := propext ⟨fun ⟨_, _, a, b, r⟩ => by cases a; cases b; cases neg <;> simpa using r, fun r => ⟨_, _, rfl, rfl, by cases neg <;> simpa using r⟩⟩
theorem z_IxS : dIxS ta tb e M R = ta e M fun x M1 => tb e M1 fun y M2 => gIxS x y M2 R := rfl
theorem gIxS_of {z : Str} {i : Int} {c : Nat} (h0 : 0 ≤ i) (h1 : i < 1000000) (hc : z.cps[i.toNat]? = some c) (r : R (.str ⟨#[c]⟩) M) : gIxS (.str z) (.int i) M R := ⟨z, i.toNat, c, rfl, by rw [Int.toNat_of_nonneg h0], by omega, hc, r⟩
theorem z_SlS {tl th : DTO} : dSlS ta tl th e M R = ta e M fun x M1 => tl e M1 fun l M2 => th e M2 fun u M3 => gSlS x l u M3 R := rfl
theorem z_gSlS {z : Str} {lo hi : Option Int} : gSlS (.str z) lo hi M R = (z.length ≤ sizeLine ∧ R (.str (Txt.slice z lo hi)) M) := propext ⟨fun ⟨_, a, c, r⟩ => by cases a; exact ⟨c, r⟩, fun ⟨c, r⟩ => ⟨_, rfl, c, r⟩⟩
noncomputable def StrW (x : D) (M : Mem) (Q : List D → (Mem → Prop) → Mem → Prop) : Prop := ∃ z, x = .str z ∧ Q (sgD z) (fun _ => True) M
theorem z_StrW {z : Str} {Q : List D → (Mem → Prop) → Mem → Prop} : StrW (.str z) M Q = Q (sgD z) (fun _ => True) M := propext ⟨fun ⟨_, a, r⟩ => by cases a; exact r, fun r => ⟨_, rfl, r⟩⟩
theorem z_diStr {Q : List D → (Mem → Prop) → Mem → Prop} : diStr ta e M Q = ta e M fun x M1 => StrW x M1 Q := rfl
noncomputable def StrM (x : D) (P : Str → Prop) : Prop := ∃ z, x = .str z ∧ P z
theorem z_StrM {z : Str} {P : Str → Prop} : StrM (.str z) P = P z := propext ⟨fun ⟨_, a, r⟩ => by cases a; exact r, fun r => ⟨_, rfl, r⟩⟩
theorem z_MtS {g : Str → List D → Mem → DK → Prop} : dMtS g to t e M R = to e M fun x M1 => StrM x fun z => t e M1 fun xs M2 => g z xs M2 R := rfl
theorem z_gPart {z y : Str} : gPart z [.str y] M R = ((y.length == 0) = false ∧ z.length ≤ sizeLine ∧ R (.tup [.str (Txt.partition z y).1, .str (Txt.partition z y).2.1, .str (Txt.partition z y).2.2]) M) := propext ⟨fun ⟨_, a, r⟩ => by cases a; exact r, fun r => ⟨_, rfl, r⟩⟩
theorem z_gSplit {z y : Str} : gSplit z [.str y] M R = ((y.length == 0) = false ∧ z.length + 2 ≤ sizeLine ∧ R (.vl ((Txt.split z y).map D.str)) M) := propext ⟨fun ⟨_, a, r⟩ => by cases a; exact r, fun r => ⟨_, rfl, r⟩⟩
theorem z_gDivmod {a b : Int} : gDivmod [.int a, .int b] M R = (CFd a b ∧ R (.tup [.int (a.fdiv b), .int (a.fmod b)]) M) := propext ⟨fun ⟨_, _, z, r⟩ => by cases z; exact r, fun r => ⟨_, _, rfl, r⟩⟩
end
noncomputable def noX (sp : DSp) : DSp := fun ds M R _ => sp ds M R fun _ _ => False
theorem FnX.nox {P : Program} {w : World} {K : PySem.W.Frag} {mg : Str → Option Value} {base : Heap} {x : Str} {k : Nat} {ps : List Str} {sp : DSp} (G : FnX P w K mg base x k ps sp) : Fn P w K mg base x k ps (noX sp) := G.fn fun _ _ _ _ h => h
theorem z_noX {sp : DSp} {ds : List D} {M : Mem} {R : DK} {Y : DXK} : noX sp ds M R Y = sp ds M R fun _ _ => False := rfl
end DL

namespace GM
open PySem PySem.Spec L2 DL
open RM (sz)
theorem of_app (a b : String) : Str.ofString (a ++ b) = Str.ofString a ++ Str.ofString b := by
  rw [Str.ofString_eq_toList, Str.ofString_eq_toList, Str.ofString_eq_toList]
  show Str.mk _ = Str.mk _
  congr 1
  rw [String.toList_append, List.map_append]
  simp
theorem str_ext {a b : Str} (h : a.cps = b.cps) : a = b := by cases a; cases b; exact congrArg Str.mk h
theorem cat_cps (a b : Str) : (a ++ b).cps = a.cps ++ b.cps := rfl
theorem cat_assoc (a b c : Str) : a ++ b ++ c = a ++ (b ++ c) := str_ext (by simp only [cat_cps, Array.append_assoc])
theorem cat_len (a b : Str) : (a ++ b).length = a.length + b.length := by
  show (a.cps ++ b.cps).size = _
  rw [Array.size_append]; rfl
theorem nil_cat (a : Str) : Str.ofString "" ++ a = a := str_ext (by rw [cat_cps]; show #[] ++ a.cps = a.cps; simp)
noncomputable def tx (n : Int) : Str := Str.ofString (toString n)
theorem tx_len {n : Int} {k : Nat} (hk : 0 < k) (h : n.natAbs < 10 ^ k) : (tx n).length ≤ k + 1 := by
  unfold tx
  rw [ofString_length]; exact int_text_length_le10 hk h
theorem tx_sign (n : Int) : (if n < 0 then Str.ofString "-" else Str.ofString "") ++ tx (n.natAbs : Int) = tx n := by
  cases n with
  | ofNat m =>
    rw [if_neg (by show ¬ (m : Int) < 0; omega), nil_cat]; rfl
  | negSucc m =>
    rw [if_pos (Int.negSucc_lt_zero m)]
    unfold tx
    rw [← of_app]; rfl
noncomputable def rtx (q : Rat) : Str := if q.den = 1 then tx q.num else tx q.num ++ Str.ofString "/" ++ tx (q.den : Int)
theorem size_line : 1000000 ≤ sizeLine := by rw [sizeLine_eq]; decide
local macro_rules | `(tactic| walk_at "inj") => `(tactic| (rename_i e h; simp only [List.cons.injEq, and_true, true_and, GM.ratD_iff, GM.partD_iff, GM.partsD_iff, GM.lineD_iff, GM.linesD_iff, D.tup.injEq, D.ref.injEq, D.int.injEq, D.str.injEq, D.bl.injEq, D.vl.injEq, Int.natCast_inj, and_assoc] at e; (repeat (obtain ⟨e1, e⟩ := e; subst e1)); subst e; exact h))
local macro_rules | `(tactic| walk_at "injs") => `(tactic| (rename_i e o h; rcases o with o | o <;> (subst o; first | (exfalso; simp only [D.tup.injEq, List.cons.injEq, reduceCtorEq, false_and, and_false] at e; done) | (simp only [List.cons.injEq, and_true, true_and, GM.ratD_iff, GM.partD_iff, GM.partsD_iff, GM.lineD_iff, GM.linesD_iff, D.tup.injEq, D.ref.injEq, D.int.injEq, D.str.injEq, D.bl.injEq, D.vl.injEq, Int.natCast_inj, and_assoc] at e; (repeat (obtain ⟨e1, e⟩ := e; subst e1)); subst e; exact h))))
end GM

namespace GM
open PySem PySem.Spec L2 DL
open RM (sz)
open PySem.NumText
noncomputable def isF (c : Nat) : Bool := decide (48 ≤ c) && decide (c ≤ 57)
noncomputable def figL (cs : List Nat) : Bool := !cs.isEmpty && (cs.drop 300).isEmpty && cs.all isF && (decide (cs = [48]) || decide (cs.head? ≠ some 48))
theorem figL_eq (cs : List Nat) : figL cs = (decide (cs.length ≠ 0) && decide (cs.length ≤ 300) && cs.all isF && (decide (cs = [48]) || decide (cs.head? ≠ some 48))) := by
  have h1 : (!cs.isEmpty) = decide (cs.length ≠ 0) := by cases cs <;> simp
  have h2 : (cs.drop 300).isEmpty = decide (cs.length ≤ 300) := by
    rw [Bool.eq_iff_iff, List.isEmpty_iff, List.drop_eq_nil_iff, decide_eq_true_eq]
  unfold figL
  rw [h1, h2]
noncomputable def rdW (cs : List Nat) : Option Int := if figL cs then some (digitsVal cs : Nat) else match cs with
  | 45 :: r => if figL r && decide (r ≠ [48]) then some (-((digitsVal r : Nat) : Int)) else none
  | _ => none
noncomputable def optI : Option Int → D
  | some n => .int n
  | none => .non
noncomputable def cutA (c : Nat) (cs : List Nat) : List Nat × Bool × List Nat := (cs.takeWhile (· != c), decide (c ∈ cs), (cs.dropWhile (· != c)).tail)
noncomputable def toldR (cs : List Nat) : Option (Int × Nat) := match rdW (cutA 47 cs).1, (if (cutA 47 cs).2.1 then rdW (cutA 47 cs).2.2 else some 1) with
  | some n, some d => if decide (1 ≤ d) && decide (Nat.gcd n.natAbs d.natAbs = 1) && decide ((cutA 47 cs).2.2 ≠ [49]) then some (n, d.natAbs) else none
  | _, _ => none
noncomputable def rdR (cs : List Nat) : Option Rat := (toldR cs).map fun p => mkRat p.1 p.2
noncomputable abbrev sg (s : Str) : List Nat := s.cps.toList
theorem sg_inj {s t : Str} (h : sg s = sg t) : s = t := by
  cases s; cases t
  exact congrArg Str.mk (Array.toList_inj.mp h)
theorem sg_mk (cs : List Nat) : sg ⟨cs.toArray⟩ = cs := rfl
theorem sg_len (s : Str) : (sg s).length = s.length := Array.length_toList
theorem fig_in (c : Nat) : inS ⟨#[c]⟩ (Str.ofString "0123456789") = isF c := by
  unfold inS
  rw [StrLaws.found_one]
  rw [show (Str.ofString "0123456789").cps.toList = [48, 49, 50, 51, 52, 53, 54, 55, 56, 57] by decide +kernel]
  unfold isF
  rw [← Bool.decide_and]
  refine decide_eq_decide.mpr ⟨fun h => ?_, fun h => ?_⟩
  · simp only [List.mem_cons, List.not_mem_nil, or_false] at h; omega
  · simp only [List.mem_cons, List.not_mem_nil, or_false]; omega
theorem fig_all {cs : List Nat} (h : figL cs = true) : (0 < cs.length ∧ cs.length ≤ 300) ∧ AllDigits cs ∧ (cs = [48] ∨ cs.head? ≠ some 48) := by
  rw [figL_eq] at h
  simp only [Bool.and_eq_true, Bool.or_eq_true, decide_eq_true_eq] at h
  obtain ⟨⟨⟨h1, h2⟩, h3⟩, h4⟩ := h
  refine ⟨⟨by omega, h2⟩, fun c hc => ?_, h4⟩
  have := List.all_eq_true.mp h3 c hc
  unfold isF at this
  simpa using this
theorem fig_int {s : Str} (h : figL (sg s) = true) : PySem.intText? s = some ((digitsVal (sg s) : Nat) : Int) := by
  obtain ⟨⟨h1, h2⟩, h3, _⟩ := fig_all h
  exact intText_digits h3 (fun e => by rw [show sg s = [] from e] at h1; exact absurd h1 (by decide)) (by rw [← sg_len]; omega)
theorem idx_hi (j n : Nat) : Builtin.Str.strSliceIndices none (some (j : Int)) 1 n = Builtin.Str.strSliceIndices none (some ((min j n : Nat) : Int)) 1 n := by
  have a : ¬ ((j : Int) < 0) := by omega
  have b : ¬ (((min j n : Nat) : Int) < 0) := by omega
  have e : max (0 : Int) (min (j : Int) n) = max 0 (min ((min j n : Nat) : Int) n) := by omega
  unfold Builtin.Str.strSliceIndices
  simp only [if_neg a, if_neg b, show (1 : Int) > 0 by decide, if_true, e]
theorem idx_lo (i n : Nat) : Builtin.Str.strSliceIndices (some (i : Int)) none 1 n = Builtin.Str.strSliceIndices (some ((min i n : Nat) : Int)) none 1 n := by
  have a : ¬ ((i : Int) < 0) := by omega
  have b : ¬ (((min i n : Nat) : Int) < 0) := by omega
  have e : max (0 : Int) (min (i : Int) n) = max 0 (min ((min i n : Nat) : Int) n) := by omega
  unfold Builtin.Str.strSliceIndices
  simp only [if_neg a, if_neg b, show (1 : Int) > 0 by decide, if_true, e]
theorem sl_to (s : Str) (j : Nat) : sg (Txt.slice s none (some (j : Int))) = (sg s).take j := by
  have e : Txt.slice s none (some (j : Int)) = StrLaws.sliceText s none (some ((min j s.length : Nat) : Int)) := by
    unfold Txt.slice StrLaws.sliceText
    rw [idx_hi]
  have hl : s.cps.toList.length = s.length := sg_len s
  rw [e, StrLaws.sliceText_to ⟨by omega, by omega⟩, sg_mk, List.drop_zero, Int.sub_zero, Int.toNat_natCast]
  show (sg s).take (min j s.length) = _
  rw [← sg_len, List.take_eq_take_iff]; omega
theorem sl_from (s : Str) (i : Nat) : sg (Txt.slice s (some (i : Int)) none) = (sg s).drop i := by
  have e : Txt.slice s (some (i : Int)) none = StrLaws.sliceText s (some ((min i s.length : Nat) : Int)) none := by
    unfold Txt.slice StrLaws.sliceText
    rw [idx_lo]
  have hl : s.cps.toList.length = s.length := sg_len s
  rw [e, StrLaws.sliceText_from ⟨by omega, by omega⟩, sg_mk, Int.toNat_natCast]
  show ((sg s).drop (min i s.length)).take _ = _
  rw [List.take_of_length_le (by rw [List.length_drop]; show (sg s).length - _ ≤ _; rw [sg_len]; omega)]
  rcases Nat.le_total i s.length with h | h
  · rw [Nat.min_eq_left h]
  · rw [Nat.min_eq_right h, ← sg_len, List.drop_of_length_le (Nat.le_refl _), List.drop_of_length_le (by rw [sg_len]; exact h)]
theorem sz_line {n : Nat} (h : n ≤ 100000) : n ≤ sizeLine := by rw [sizeLine_eq]; omega
theorem rdW_fig {cs : List Nat} (h : figL cs = true) : rdW cs = some ((digitsVal cs : Nat) : Int) := by unfold rdW; rw [if_pos h]
theorem rdW_neg {r : List Nat} (h : figL (45 :: r) = false) : rdW (45 :: r) = if figL r && decide (r ≠ [48]) then some (-((digitsVal r : Nat) : Int)) else none := by
  unfold rdW
  rw [if_neg (by rw [h]; decide)]
  rfl
theorem rdW_no {cs : List Nat} (h : figL cs = false) (h2 : cs.take 1 ≠ [45]) : rdW cs = none := by
  unfold rdW
  rw [if_neg (by rw [h]; decide)]
  split
  · exact absurd rfl h2
  · rfl
theorem sg_is {s : Str} {t : Str} : s = t ↔ sg s = sg t := ⟨fun h => by rw [h], sg_inj⟩
theorem take_one {cs : List Nat} {c : Nat} : cs.take 1 = [c] ↔ ∃ r, cs = c :: r := by
  cases cs with
  | nil => exact ⟨fun h => (by cases h), fun ⟨r, e⟩ => (by cases e)⟩
  | cons a r => exact ⟨fun h => ⟨r, (by cases h; rfl)⟩, fun ⟨r', e⟩ => (by cases e; rfl)⟩
local macro_rules | `(tactic| walk_at "inj") => `(tactic| (rename_i e h; simp only [List.cons.injEq, and_true, true_and, GM.ratD_iff, GM.partD_iff, GM.partsD_iff, GM.lineD_iff, GM.linesD_iff, D.tup.injEq, D.ref.injEq, D.int.injEq, D.str.injEq, D.bl.injEq, D.vl.injEq, Int.natCast_inj, and_assoc] at e; (repeat (obtain ⟨e1, e⟩ := e; subst e1)); subst e; exact h))
local macro_rules | `(tactic| walk_at "injs") => `(tactic| (rename_i e o h; rcases o with o | o <;> (subst o; first | (exfalso; simp only [D.tup.injEq, List.cons.injEq, reduceCtorEq, false_and, and_false] at e; done) | (simp only [List.cons.injEq, and_true, true_and, GM.ratD_iff, GM.partD_iff, GM.partsD_iff, GM.lineD_iff, GM.linesD_iff, D.tup.injEq, D.ref.injEq, D.int.injEq, D.str.injEq, D.bl.injEq, D.vl.injEq, Int.natCast_inj, and_assoc] at e; (repeat (obtain ⟨e1, e⟩ := e; subst e1)); subst e; exact h))))
noncomputable abbrev sFigs_b (s : Str) (M : Mem) (R : DK) (Y : DXK) : Prop := s.length ≤ 100000 ∧ R (.bl (figL (sg s))) M
noncomputable def sFigs : DSp := fun ds M R Y => ∃ (s : Str), ds = [.str s] ∧ sFigs_b s M R Y
theorem z_sFigs {s : Str} {M : Mem} {R : DK} {Y : DXK} : sFigs [.str s] M R Y = (sFigs_b s M R Y) := propext ⟨fun z => by obtain ⟨_, _, _⟩ := z; walk_at "inj", fun h => ⟨s, rfl, h⟩⟩
noncomputable abbrev sReadW_b (s : Str) (M : Mem) (R : DK) (Y : DXK) : Prop := s.length ≤ 100000 ∧ R (optI (rdW (sg s))) M
noncomputable def sReadW : DSp := fun ds M R Y => ∃ (s : Str), ds = [.str s] ∧ sReadW_b s M R Y
theorem z_sReadW {s : Str} {M : Mem} {R : DK} {Y : DXK} : sReadW [.str s] M R Y = (sReadW_b s M R Y) := propext ⟨fun z => by obtain ⟨_, _, _⟩ := z; walk_at "inj", fun h => ⟨s, rfl, h⟩⟩
theorem take_at {c : Nat} : ∀ {l : List Nat} {i : Nat}, l[i]? = some c → (∀ k, k < i → l[k]? ≠ some c) → l.takeWhile (· != c) = l.take i
  | [], i, h, _ => by simp at h
  | k :: r, 0, h, _ => by
    have e : k = c := by simpa using h
    subst e
    rw [List.takeWhile_cons_of_neg (by simp)]; rfl
  | k :: r, i + 1, h, hn => by
    have h1 : k ≠ c := fun e => hn 0 (by omega) (by simp [e])
    rw [List.takeWhile_cons_of_pos (by simp [h1]), take_at (l := r) (i := i) (by simpa using h) fun j hj => by have := hn (j + 1) (by omega); simpa using this]
    rfl
theorem take_none {c : Nat} : ∀ {l : List Nat}, c ∉ l → l.takeWhile (· != c) = l
  | [], _ => rfl
  | k :: r, h => by
    have h1 : k ≠ c := fun e => h (e ▸ List.mem_cons_self ..)
    rw [List.takeWhile_cons_of_pos (by simp [h1]), take_none fun m => h (List.mem_cons_of_mem _ m)]
theorem part_sg (x : Str) (c : Nat) : sg (Txt.partition x ⟨#[c]⟩).1 = (cutA c (sg x)).1 ∧ (Txt.partition x ⟨#[c]⟩).2.1 = (if (cutA c (sg x)).2.1 then ⟨#[c]⟩ else Str.empty) ∧ sg (Txt.partition x ⟨#[c]⟩).2.2 = (cutA c (sg x)).2.2 := by
  unfold Txt.partition cutA
  rcases StrLaws.occ_head x ⟨#[c]⟩ 1 (Nat.le_refl 1) with ⟨h0, hn⟩ | ⟨i, r, h0, hi, hn⟩
  · have hfree : c ∉ sg x := fun hm => by
      obtain ⟨j, hj⟩ := List.getElem?_of_mem hm
      exact hn j ((StrLaws.subAt_one x c j).mpr hj)
    rw [h0]
    refine ⟨(take_none hfree).symm, ?_, ?_⟩
    · show Str.empty = _
      rw [if_neg (by rw [decide_eq_true_eq]; exact hfree)]
    · show [] = _
      rw [PyProof.Rows.dropWhile_none hfree]; rfl
  · rw [h0]
    have hm := (StrLaws.subAt_one x c i).mp hi
    have hk : ∀ k, k < i → (sg x)[k]? ≠ some c := fun k hk e => hn k hk ((StrLaws.subAt_one x c k).mpr e)
    refine ⟨?_, ?_, ?_⟩
    · show (Builtin.Str.strSub x 0 i).cps.toList = _
      rw [StrLaws.strSub_toList, take_at hm hk]; rfl
    · show (⟨#[c]⟩ : Str) = _
      rw [if_pos (by rw [decide_eq_true_eq]; exact List.mem_of_getElem? hm)]
    · show (Builtin.Str.strSub x (i + 1) x.length).cps.toList = _
      rw [StrLaws.strSub_toList, PyProof.Rows.dropWhile_at hm hk]
      show _ = x.cps.toList.drop (i + 1)
      exact List.take_of_length_le (by simp [Str.length])
noncomputable def oddS : D → Bool
  | .non => true
  | .bl _ => true
  | .int _ => true
  | .tup _ => true
  | .vl _ => true
  | _ => false
theorem cutA_le (c : Nat) (cs : List Nat) : (cutA c cs).1.length ≤ cs.length ∧ (cutA c cs).2.2.length ≤ cs.length := by
  refine ⟨(List.takeWhile_sublist _).length_le, ?_⟩
  have := (List.dropWhile_sublist (l := cs) (· != c)).length_le
  unfold cutA
  rw [List.length_tail]; omega
theorem isRt_opt (a b : Option Int) : isRt (.tup [optI a, optI b]) = match a, b with
    | some n, some d => decide (1 ≤ d) && decide (Nat.gcd n.natAbs d.natAbs = 1)
    | _, _ => false := by
  cases a <;> cases b <;> rfl
theorem fl_opt (a b : Option Int) : fl1 (.tup [optI a, optI b]) = true := by cases a <;> cases b <;> rfl
theorem rat_of {n d : Int} (h : (decide (1 ≤ d) && decide (Nat.gcd n.natAbs d.natAbs = 1)) = true) : D.tup [.int n, .int d] = ratD (mkRat n d.natAbs) := by
  rw [Bool.and_eq_true, decide_eq_true_eq, decide_eq_true_eq] at h
  obtain ⟨k, rfl⟩ := Int.eq_ofNat_of_zero_le (show 0 ≤ d by omega)
  have h2 : Nat.gcd n.natAbs k = 1 := h.2
  have e : mkRat n k = ⟨n, k, by omega, h2⟩ := Rat.mkRat_self ⟨n, k, by omega, h2⟩
  show _ = ratD (mkRat n k)
  rw [e]; rfl
noncomputable abbrev sReadR_b (x : D) (M : Mem) (R : DK) (Y : DXK) : Prop := ((∃ s, x = .str s ∧ s.length ≤ 100000 ∧ (∀ q, rdR (sg s) = some q → R (ratD q) M) ∧ (rdR (sg s) = none → Y (xN "NoText") M)) ∨ (oddS x = true ∧ Y (xN "NoText") M))
noncomputable def sReadR : DSp := fun ds M R Y => ∃ (x : D), ds = [x] ∧ sReadR_b x M R Y
theorem z_sReadR {x : D} {M : Mem} {R : DK} {Y : DXK} : sReadR [x] M R Y = (sReadR_b x M R Y) := propext ⟨fun z => by obtain ⟨_, _, _⟩ := z; walk_at "inj", fun h => ⟨x, rfl, h⟩⟩
noncomputable def mayB (w : Str) (q : Rat) : Bool := if w = Str.ofString "gap" then decide (0 ≤ q.num) else if w = Str.ofString "stop" then decide (0 < q.num) else decide (w = Str.ofString "glass")
noncomputable def rdP (cs : List Nat) : Option (Str × Rat) := match rdR (cutA 32 cs).2.2 with
  | some q => if mayB ⟨(cutA 32 cs).1.toArray⟩ q then some (⟨(cutA 32 cs).1.toArray⟩, q) else none
  | none => none
noncomputable def Exd (M M' : Mem) : Prop := ∀ a o, M a = some o → M' a = some o
theorem Exd.refl (M : Mem) : Exd M M := fun _ _ h => h
theorem Exd.upd {M : Mem} {l : Addr} {o : MO} (h : M l = none) : Exd M (updM M l o) := fun a o2 e => by
  rw [updM_ne (fun z => by rw [z, h] at e; cases e)]; exact e
end GM

namespace GM
open PySem PySem.Spec L2 DL
open RM (sz)
open PySem.NumText
theorem sg_tx (m : Nat) : sg (tx (m : Int)) = (Nat.toDigits 10 m).map Char.toNat := PySem.W.KIN.signs_num m
theorem tx_dig (m : Nat) : AllDigits (sg (tx (m : Int))) := fun c hc => by
  rw [sg_tx] at hc
  obtain ⟨ch, hch, e⟩ := List.mem_map.mp hc
  have h : ch.isDigit = true := Nat.isDigit_of_mem_toDigits (by decide) (by decide) hch
  rw [← e]
  simp only [Char.isDigit, Bool.and_eq_true, decide_eq_true_eq] at h
  exact ⟨by exact_mod_cast h.1, by exact_mod_cast h.2⟩
theorem dval_cat : ∀ (b a : List Nat), digitsVal (a ++ b) = digitsVal a * 10 ^ b.length + digitsVal b
  | [], a => by show _ = digitsVal a * 1 + 0; rw [List.append_nil]; omega
  | c :: b, a => by
    have h1 := dval_cat b (a ++ [c])
    have h2 := dval_cat b [c]
    rw [List.append_assoc] at h1
    rw [show a ++ c :: b = a ++ ([c] ++ b) from rfl, h1, show c :: b = [c] ++ b from rfl, h2, digitsVal_snoc, show digitsVal [c] = 0 * 10 + (c - 48) from rfl, List.length_append]
    show _ = digitsVal a * 10 ^ (1 + b.length) + _
    rw [Nat.pow_add]; grind
theorem char_back : ∀ x, x < 58 → (Char.ofNat x).toNat = x := by decide
theorem chars_back {cs : List Nat} (h : AllDigits cs) : (cs.map Char.ofNat).map Char.toNat = cs := by
  rw [List.map_map]
  conv => rhs; rw [← List.map_id cs]
  exact List.map_congr_left fun x hx => char_back x (by have := h x hx; omega)
theorem dval_zeros (k : Nat) (b : List Nat) : digitsVal (List.replicate k 48 ++ b) = digitsVal b := by
  induction k with
  | zero => rfl
  | succ k ih => rw [List.replicate_succ, List.cons_append, digitsVal_zero, ih]
theorem dval_tx (m : Nat) : digitsVal (sg (tx (m : Int))) = m := by rw [sg_tx]; exact PySem.W.KIN.val_back m
theorem tx_lead {m : Nat} (h : 0 < m) : ∃ c r, sg (tx (m : Int)) = c :: r ∧ 49 ≤ c := by
  have h1 := toDigits_all _ (tx_dig m)
  rw [dval_tx] at h1
  have h2 := sg_tx m
  rw [h1] at h2
  cases hd : (sg (tx (m : Int))).dropWhile (· == 48) with
  | nil =>
    rw [hd] at h1
    have e : m = digitsVal ((Nat.toDigits 10 m).map Char.toNat) := (PySem.W.KIN.val_back m).symm
    rw [h1] at e
    have : m = 0 := e
    omega
  | cons c r =>
    rw [hd] at h2
    have hm : ∀ x ∈ c :: r, 48 ≤ x ∧ x ≤ 57 := fun x hx => tx_dig m x ((List.dropWhile_sublist _).subset (by rw [hd]; exact hx))
    have e : ((c :: r).map Char.ofNat).map Char.toNat = c :: r := chars_back hm
    refine ⟨c, r, ?_, ?_⟩
    · rw [h2]; exact e
    · have h3 := hm c List.mem_cons_self
      have h4 : (c == 48) = false := by
        have := List.head?_dropWhile_not (p := (· == 48)) (sg (tx (m : Int)))
        rw [hd] at this
        simpa using this
      have : c ≠ 48 := by simpa using h4
      omega
theorem tx_cut {r : Nat} (h : 10 ^ 60 ≤ r) : tx (r : Int) = tx ((r / 10 ^ 60 : Nat) : Int) ++ Txt.zfill (tx ((r % 10 ^ 60 : Nat) : Int)) 60 := by
  have ha : 0 < r / 10 ^ 60 := Nat.div_pos h (by decide)
  have hb : r % 10 ^ 60 < 10 ^ 60 := Nat.mod_lt _ (by decide)
  generalize hA : r / 10 ^ 60 = a at *
  generalize hB : r % 10 ^ 60 = b at *
  have hr : r = a * 10 ^ 60 + b := by rw [← hA, ← hB]; omega
  have lb : (sg (tx (b : Int))).length ≤ 60 := by
    rw [sg_tx, List.length_map]
    exact (Nat.length_toDigits_le_iff (by decide) (by decide)).mpr hb
  have ez : sg (Txt.zfill (tx (b : Int)) 60) = List.replicate (60 - (sg (tx (b : Int))).length) 48 ++ sg (tx (b : Int)) := by
    unfold Txt.zfill
    split
    · rename_i hl
      have : (sg (tx (b : Int))).length = 60 := by rw [sg_len] at lb ⊢; omega
      rw [this]; rfl
    · unfold zfilled
      have n0 : ∀ c, (tx (b : Int)).cps[0]? = some c → c ≠ 43 ∧ c ≠ 45 := fun c hc => by
        have := tx_dig b c (by rw [← Array.getElem?_toList] at hc; exact List.mem_of_getElem? hc)
        omega
      split
      · rename_i q; exact absurd rfl (n0 _ q).1
      · rename_i q; exact absurd rfl (n0 _ q).2
      · show (Array.replicate _ 48 ++ (tx (b : Int)).cps ++ Array.replicate 0 48).toList = _
        rw [Array.toList_append, Array.toList_append, sg_len]
        show (Array.replicate _ 48).toList ++ _ ++ [] = _
        rw [List.append_nil, Array.toList_replicate]; rfl
  have ad : AllDigits (sg (tx (a : Int)) ++ (List.replicate (60 - (sg (tx (b : Int))).length) 48 ++ sg (tx (b : Int)))) := fun c hc => by
    rcases List.mem_append.mp hc with q | q
    · exact tx_dig a c q
    · rcases List.mem_append.mp q with q | q
      · rw [List.eq_of_mem_replicate q]; decide
      · exact tx_dig b c q
  have dv : digitsVal (sg (tx (a : Int)) ++ (List.replicate (60 - (sg (tx (b : Int))).length) 48 ++ sg (tx (b : Int)))) = r := by
    rw [dval_cat, dval_zeros, dval_tx, dval_tx, List.length_append, List.length_replicate, Nat.sub_add_cancel lb, hr]
  obtain ⟨c, rr, e1, e2⟩ := tx_lead ha
  refine sg_inj ?_
  rw [show sg (tx (a : Int) ++ Txt.zfill (tx (b : Int)) 60) = sg (tx (a : Int)) ++ sg (Txt.zfill (tx (b : Int)) 60) from Array.toList_append, ez]
  generalize hcs : sg (tx (a : Int)) ++ (List.replicate (60 - (sg (tx (b : Int))).length) 48 ++ sg (tx (b : Int))) = cs at *
  rw [sg_tx, ← dv]
  have hl : ∃ r2, cs = c :: r2 := ⟨_, by rw [← hcs, e1]; rfl⟩
  obtain ⟨r2, h2⟩ := hl
  rw [toDigits_digitsVal r2.length cs (by rw [h2]; rfl) ad (.inr ⟨c, r2, h2, e2⟩), chars_back ad]
theorem fold_sg : ∀ (xs : List Str) (a : Array Nat), (xs.foldl (fun acc p => acc ++ (Str.ofString "").cps ++ p.cps) a).toList = a.toList ++ (xs.map sg).flatten
  | [], a => by simp
  | x :: xs, a => by
    rw [List.foldl_cons, fold_sg xs, List.map_cons, List.flatten_cons, Array.toList_append, Array.toList_append]
    show (a.toList ++ [] ++ _) ++ _ = _
    rw [List.append_nil, List.append_assoc]
theorem join_sg (xs : List Str) : sg (Txt.join (Str.ofString "") xs) = (xs.map sg).flatten := by
  cases xs with
  | nil => rfl
  | cons x xs => exact fold_sg xs x.cps
theorem join_sum {ps : List Str} (h : ∀ y ∈ ps, y.length ≤ 60) : (ps.map (·.length)).sum ≤ 60 * ps.length := by
  induction ps with
  | nil => exact Nat.zero_le _
  | cons x xs ih =>
    rw [List.map_cons, List.sum_cons, List.length_cons]
    have := ih fun y hy => h y (List.mem_cons_of_mem _ hy)
    have := h x List.mem_cons_self
    omega
theorem fdivN (r k : Nat) : (r : Int).fdiv (k : Int) = ((r / k : Nat) : Int) := by rw [Int.fdiv_eq_ediv_of_nonneg _ (Int.natCast_nonneg k)]; rfl
theorem fmodN (r k : Nat) : (r : Int).fmod (k : Int) = ((r % k : Nat) : Int) := by rw [Int.fmod_eq_emod_of_nonneg _ (Int.natCast_nonneg k)]; rfl
theorem unit_eq : (10 : Int) ^ Int.toNat 60 = ((10 ^ 60 : Nat) : Int) := by decide +kernel
theorem zf_len {r : Nat} (h : 10 ^ 60 ≤ r) : (Txt.zfill (tx ((r % 10 ^ 60 : Nat) : Int)) 60).length + (tx ((r / 10 ^ 60 : Nat) : Int)).length = (tx (r : Int)).length ∧ (Txt.zfill (tx ((r % 10 ^ 60 : Nat) : Int)) 60).length = 60 := by
  have e := congrArg Str.length (tx_cut h)
  rw [cat_len] at e
  refine ⟨by omega, ?_⟩
  have lb : (tx ((r % 10 ^ 60 : Nat) : Int)).length ≤ 60 := by
    rw [← sg_len, sg_tx, List.length_map]
    exact (Nat.length_toDigits_le_iff (by decide) (by decide)).mpr (Nat.mod_lt _ (by decide))
  unfold Txt.zfill
  split
  · omega
  · unfold zfilled
    have n0 : ∀ c, (tx ((r % 10 ^ 60 : Nat) : Int)).cps[0]? = some c → c ≠ 43 ∧ c ≠ 45 := fun c hc => by
      have := tx_dig (r % 10 ^ 60) c (by rw [← Array.getElem?_toList] at hc; exact List.mem_of_getElem? hc)
      omega
    split
    · rename_i q; exact absurd rfl (n0 _ q).1
    · rename_i q; exact absurd rfl (n0 _ q).2
    · show (Array.replicate _ 48 ++ (tx ((r % 10 ^ 60 : Nat) : Int)).cps ++ Array.replicate 0 48).size = 60
      rw [Array.size_append, Array.size_append, Array.size_replicate, Array.size_replicate]
      show (60 - (tx ((r % 10 ^ 60 : Nat) : Int)).length) + (tx ((r % 10 ^ 60 : Nat) : Int)).length + 0 = 60
      omega
local macro_rules | `(tactic| walk_at "inj") => `(tactic| (rename_i e h; simp only [List.cons.injEq, and_true, true_and, GM.ratD_iff, GM.partD_iff, GM.partsD_iff, GM.lineD_iff, GM.linesD_iff, D.tup.injEq, D.ref.injEq, D.int.injEq, D.str.injEq, D.bl.injEq, D.vl.injEq, Int.natCast_inj, and_assoc] at e; (repeat (obtain ⟨e1, e⟩ := e; subst e1)); subst e; exact h))
local macro_rules | `(tactic| walk_at "injs") => `(tactic| (rename_i e o h; rcases o with o | o <;> (subst o; first | (exfalso; simp only [D.tup.injEq, List.cons.injEq, reduceCtorEq, false_and, and_false] at e; done) | (simp only [List.cons.injEq, and_true, true_and, GM.ratD_iff, GM.partD_iff, GM.partsD_iff, GM.lineD_iff, GM.linesD_iff, D.tup.injEq, D.ref.injEq, D.int.injEq, D.str.injEq, D.bl.injEq, D.vl.injEq, Int.natCast_inj, and_assoc] at e; (repeat (obtain ⟨e1, e⟩ := e; subst e1)); subst e; exact h))))
noncomputable abbrev sWhG_b (n : Int) (M : Mem) (R : DK) (Y : DXK) : Prop := n.natAbs < 10 ^ 5000 ∧ R (.str (tx n)) M
noncomputable def sWhG : DSp := fun ds M R Y => ∃ (n : Int), ds = [.int n] ∧ sWhG_b n M R Y
theorem z_sWhG {n : Int} {M : Mem} {R : DK} {Y : DXK} : sWhG [.int n] M R Y = (sWhG_b n M R Y) := propext ⟨fun z => by obtain ⟨_, _, _⟩ := z; walk_at "inj", fun h => ⟨n, rfl, h⟩⟩
noncomputable abbrev sRtG_b (q : Rat) (M : Mem) (R : DK) (Y : DXK) : Prop := (q.num.natAbs < 10 ^ 5000 ∧ q.den < 10 ^ 5000) ∧ R (.str (rtx q)) M
noncomputable def sRtG : DSp := fun ds M R Y => ∃ (q : Rat), ds = [ratD q] ∧ sRtG_b q M R Y
theorem z_sRtG {q : Rat} {M : Mem} {R : DK} {Y : DXK} : sRtG [ratD q] M R Y = (sRtG_b q M R Y) := propext ⟨fun z => by obtain ⟨_, _, _⟩ := z; walk_at "inj", fun h => ⟨q, rfl, h⟩⟩
end GM

namespace GM
open PySem PySem.Spec L2 DL
open RM (sz)
open PySem.NumText
noncomputable def splA (y : List Nat) : Nat → List Nat → List Nat → List (List Nat)
  | 0, cs, acc => [acc.reverse ++ cs]
  | n + 1, cs, acc => match cs with
    | [] => [acc.reverse]
    | c :: r => if y.isPrefixOf (c :: r) then acc.reverse :: splA y n ((c :: r).drop y.length) [] else splA y n r (c :: acc)
noncomputable def mkS (cs : List Nat) : Str := ⟨cs.toArray⟩
theorem sub_sg (x : Str) (a b : Nat) : sg (Builtin.Str.strSub x a b) = ((sg x).drop a).take (b - a) := StrLaws.strSub_toList x a b
theorem at_pre {x y : Str} {a : Nat} (hy : 1 ≤ y.length) : StrLaws.At x y x.length a ↔ (sg y).isPrefixOf ((sg x).drop a) = true := by
  rw [List.isPrefixOf_iff_prefix, List.prefix_iff_eq_take]
  unfold StrLaws.At
  have e : Builtin.Str.subAt x y a = true ↔ ((sg x).drop a).take y.length = sg y := by
    unfold Builtin.Str.subAt
    rw [beq_iff_eq, ← Array.toList_inj, Array.toList_extract]
    show List.take (a + y.length - a) (List.drop a (sg x)) = sg y ↔ _
    rw [show a + y.length - a = y.length by omega]
  rw [e, sg_len]
  refine ⟨fun h => h.2.symm, fun h => ⟨?_, h.symm⟩⟩
  have := congrArg List.length h
  rw [sg_len, List.length_take, List.length_drop, sg_len] at this
  omega
theorem parts_spl {x y : Str} (hy : 1 ≤ y.length) : ∀ (n a s : Nat) (cuts : List Nat) (f : Nat), s ≤ a → a ≤ x.length → x.length < a + n → StrLaws.ChainG x y x.length a cuts f → (∀ k, f ≤ k → ¬ StrLaws.At x y x.length k) →
    (match cuts with
      | [] => [((sg x).drop s).take (x.length - s)]
      | c :: r => (((sg x).drop s).take (c - s)) :: (StrLaws.partsFrom x y.length (c + y.length) r).map sg) = splA (sg y) n ((sg x).drop a) (((sg x).drop s).take (a - s)).reverse
  | 0, a, s, cuts, f, h1, h2, h3, _, _ => by omega
  | n + 1, a, s, cuts, f, h1, h2, h3, hc, hf => by
    have hl := sg_len x
    unfold splA
    cases hcs : (sg x).drop a with
    | nil =>
      have ha : a = x.length := by have := congrArg List.length hcs; rw [List.length_drop, hl] at this; simp only [List.length_nil] at this; omega
      cases cuts with
      | nil => rw [List.reverse_reverse, ha]
      | cons c r =>
        have := hc.2.1.1
        have := hc.1
        omega
    | cons c0 r0 =>
      have ha : a < x.length := by have := congrArg List.length hcs; rw [List.length_drop, hl] at this; simp only [List.length_cons] at this; omega
      have step : ((sg x).drop s).take (a + 1 - s) = ((sg x).drop s).take (a - s) ++ [c0] := by
        rw [show a + 1 - s = (a - s) + 1 by omega, List.take_add_one]
        congr 1
        rw [List.getElem?_drop, show s + (a - s) = a by omega]
        have : (sg x)[a]? = ((sg x).drop a)[0]? := by rw [List.getElem?_drop]; rfl
        rw [this, hcs]; rfl
      have nxt : r0 = (sg x).drop (a + 1) := by
        have : ((sg x).drop a).drop 1 = (sg x).drop (a + 1) := by rw [List.drop_drop]
        rw [← this, hcs]; rfl
      show _ = if (sg y).isPrefixOf (c0 :: r0) = true then _ else _
      by_cases hA : StrLaws.At x y x.length a
      · have hp := (at_pre hy).mp hA
        rw [hcs] at hp
        rw [if_pos hp, List.reverse_reverse]
        cases cuts with
        | nil =>
          have e : f = a := hc
          exact absurd hA (hf a (by omega))
        | cons c r =>
          obtain ⟨q1, q2, q3, q4⟩ := hc
          have e : c = a := by
            rcases Nat.lt_or_ge a c with z | z
            · exact absurd hA (q3 a (Nat.le_refl _) z)
            · omega
          subst e
          have hb := q2.1
          show _ :: _ = _ :: _
          congr 1
          have ih := parts_spl hy n (c + y.length) (c + y.length) r f (Nat.le_refl _) hb (by omega) q4 hf
          rw [show c + y.length - (c + y.length) = 0 by omega] at ih
          rw [show (c0 :: r0).drop (sg y).length = (sg x).drop (c + y.length) by rw [← hcs, List.drop_drop, sg_len]]
          rw [show ([] : List Nat) = (List.take 0 ((sg x).drop (c + y.length))).reverse by rfl, ← ih]
          cases r with
          | nil => show [sg (Builtin.Str.strSub x _ _)] = _; rw [sub_sg]
          | cons d r => show sg (Builtin.Str.strSub x _ _) :: _ = _; rw [sub_sg]
      · have hp : ¬ (sg y).isPrefixOf (c0 :: r0) = true := fun z => hA ((at_pre hy).mpr (by rw [hcs]; exact z))
        rw [if_neg hp]
        have ih : ∀ hc2, _ := fun hc2 => parts_spl (x := x) hy n (a + 1) s cuts (match cuts with | [] => a + 1 | _ => f) (by omega) (by omega) (by omega) hc2 (by
          cases cuts with
          | nil =>
            have e : f = a := hc
            exact fun k hk => hf k (by have : a + 1 ≤ k := hk; omega)
          | cons c r => exact hf)
        rw [← nxt, step, List.reverse_append] at ih
        refine ih ?_
        cases cuts with
        | nil => rfl
        | cons c r =>
          obtain ⟨q1, q2, q3, q4⟩ := hc
          refine ⟨?_, q2, fun k h5 h6 => q3 k (by omega) h6, q4⟩
          rcases Nat.lt_or_ge a c with z | z
          · omega
          · have e : c = a := by omega
            rw [e] at q2
            exact absurd q2 hA
theorem split_sg {x y : Str} (hy : 1 ≤ y.length) (hk : Builtin.Str.strKind y = 1) {N : Nat} (hN : x.length < N) : (Txt.split x y).map sg = splA (sg y) N (sg x) [] := by
  obtain ⟨f, hc, hf⟩ := StrLaws.occ_tight x y hy
  have h := parts_spl hy N 0 0 _ f (Nat.le_refl _) (Nat.zero_le _) (by omega) hc hf
  rw [show (sg x).drop 0 = sg x by rfl, Nat.sub_self, List.take_zero] at h
  rw [show ([] : List Nat) = ([] : List Nat).reverse from rfl, ← h]
  have one : ([x].map sg) = [(sg x).take (x.length - 0)] := by
    rw [Nat.sub_zero, ← sg_len, List.take_length]; rfl
  have kx : 1 ≤ Builtin.Str.strKind x := by
    unfold Builtin.Str.strKind
    split
    · decide
    · split <;> decide
  unfold Txt.split
  split
  · rename_i q
    rw [hk, Bool.or_eq_true, decide_eq_true_eq, decide_eq_true_eq] at q
    have : Builtin.Str.occurrences x y 0 x.length (x.length + 1) = [] := by
      cases ho : Builtin.Str.occurrences x y 0 x.length (x.length + 1) with
      | nil => rfl
      | cons c r =>
        rw [ho] at hc
        have := hc.2.1.1
        omega
    rw [this]; exact one
  · split
    · rename_i q
      rw [List.isEmpty_iff] at q
      rw [q]; exact one
    · rw [StrLaws.partsBetween_eq]
      cases Builtin.Str.occurrences x y 0 x.length (x.length + 1) with
      | nil => show [sg (Builtin.Str.strSub x _ _)] = _; rw [sub_sg]; rfl
      | cons c r => show sg (Builtin.Str.strSub x _ _) :: _ = _; rw [sub_sg]; rfl
theorem split_eq {x y : Str} (hy : 1 ≤ y.length) (hk : Builtin.Str.strKind y = 1) {N : Nat} (hN : x.length < N) : Txt.split x y = (splA (sg y) N (sg x) []).map mkS := by
  rw [← split_sg hy hk hN, List.map_map]
  conv => lhs; rw [← List.map_id (Txt.split x y)]
  exact List.map_congr_left fun s _ => by show s = mkS (sg s); rfl
end GM

namespace GM
open PySem PySem.Spec L2 DL
open RM (sz)
open PySem.NumText
noncomputable def bE (n N : Nat) (cs : List Nat) : Bool := !decide (cs = [110, 111, 110, 101]) && (decide (n < (splA [59, 32] N cs []).length) || (splA [59, 32] N cs []).any fun p => (rdP p).isNone)
noncomputable def hE (N : Nat) (cs : List Nat) : Bool := match splA [32, 124, 32] N cs [] with
  | [a, b, c] => (rdR a).isNone || bE 8 N b || (rdR c).isNone
  | _ => true
noncomputable def badE (w : Nat) (cs : List Nat) : Bool := match w with
  | 0 => (rdR cs).isNone
  | 1 => bE 12 6000 cs
  | _ => hE 6000 cs
noncomputable def BadD (w : Nat) (d : D) : Prop := oddS d = true ∨ ∃ s, d = .str s ∧ s.length ≤ 5500 ∧ badE w (sg s) = true
theorem bd {w : Nat} {s : Str} (cs : List Nat) (e : sg s = cs) (h : (cs.drop 5500).isEmpty = true) (h2 : badE w cs = true) : BadD w (.str s) := .inr ⟨s, rfl, by
  rw [List.isEmpty_iff, List.drop_eq_nil_iff, ← e, sg_len] at h; exact h, by rw [e]; exact h2⟩
theorem sg_cat (a b : Str) : sg (a ++ b) = sg a ++ sg b := Array.toList_append
theorem rep_fold (c : Nat) : ∀ (n : Nat) (a : Array Nat), ((List.replicate n #[c]).foldl (· ++ ·) a).toList = a.toList ++ List.replicate n c
  | 0, a => by simp
  | n + 1, a => by
    rw [List.replicate_succ, List.foldl_cons, rep_fold c n, List.replicate_succ, Array.toList_append, List.append_assoc]; rfl
theorem sg_mul (c n : Nat) : sg (Txt.mul ⟨#[c]⟩ (n : Int)) = List.replicate n c := by
  unfold Txt.mul
  split
  · rw [show n = 0 by omega]; rfl
  · split
    · rename_i h
      have : n = 1 := by
        rw [Bool.or_eq_true, beq_iff_eq] at h
        rcases h with h | h
        · omega
        · cases h
      rw [this]; rfl
    · show (List.foldl (· ++ ·) #[] (List.replicate (n : Int).toNat #[c])).toList = _
      rw [Int.toNat_natCast, rep_fold]; rfl
theorem nine : Str.ofString "9" = ⟨#[57]⟩ := by decide +kernel
theorem mul_ok {s : Str} {n : Int} (hs : s.length = 1) (h0 : 1 ≤ n) (h1 : n ≤ 10000) : MulOk s n := by
  have l : Builtin.Str.tooLong (s.length * n.toNat) = false := by
    unfold Builtin.Str.tooLong
    rw [hs, sizeLine_eq]
    exact decide_eq_false (by omega)
  refine ⟨by rw [decide_eq_false (by omega), decide_eq_false (by omega)]; rfl, fun _ _ => ?_, fun _ _ => l⟩
  rw [hs]
  have : (1 : Int) ≤ (2 ^ 63 - 1) / n := by rw [Int.le_ediv_iff_mul_le (by omega)]; omega
  omega
theorem sg_nine (n : Nat) : sg (Txt.mul (Str.ofString "9") (n : Int)) = List.replicate n 57 := by rw [nine]; exact sg_mul 57 n
theorem tx_of {cs : List Nat} (h : AllDigits cs) (h2 : ∃ c r, cs = c :: r ∧ 49 ≤ c) : sg (tx ((digitsVal cs : Nat) : Int)) = cs := by
  obtain ⟨c, r, e, h3⟩ := h2
  rw [sg_tx, toDigits_digitsVal r.length cs (by rw [e]; rfl) h (.inr ⟨c, r, e, h3⟩), chars_back h]
theorem tx_fig {cs : List Nat} (h : figL cs = true) : sg (tx ((digitsVal cs : Nat) : Int)) = cs := by
  obtain ⟨⟨h1, h2⟩, h3, h4⟩ := fig_all h
  rcases h4 with e | e
  · rw [e]; decide +kernel
  · cases cs with
    | nil => exact absurd h1 (by decide)
    | cons c r =>
      refine tx_of h3 ⟨c, r, rfl, ?_⟩
      have := h3 c List.mem_cons_self
      have : c ≠ 48 := fun z => e (by rw [z]; rfl)
      omega
theorem fig_lt {cs : List Nat} (h : figL cs = true) : digitsVal cs < 10 ^ 300 := by
  have e := congrArg List.length (tx_fig h)
  rw [sg_tx, List.length_map] at e
  exact (Nat.length_toDigits_le_iff (by decide) (by decide)).mp (by rw [e]; exact (fig_all h).1.2)
theorem sg_rep (c : Nat) (x : Str) (hx : x = ⟨#[c]⟩) (n : Nat) : sg (Txt.mul x (n : Int)) = List.replicate n c := by rw [hx]; exact sg_mul c n
theorem m9 (n : Nat) (h1 : 1 ≤ n) (h2 : n ≤ 10000) : MulOk (Str.ofString "9") (n : Int) := mul_ok (by decide +kernel) (by omega) (by omega)
local macro_rules | `(tactic| walk_at "inj") => `(tactic| (rename_i e h; simp only [List.cons.injEq, and_true, true_and, GM.ratD_iff, GM.partD_iff, GM.partsD_iff, GM.lineD_iff, GM.linesD_iff, D.tup.injEq, D.ref.injEq, D.int.injEq, D.str.injEq, D.bl.injEq, D.vl.injEq, Int.natCast_inj, and_assoc] at e; (repeat (obtain ⟨e1, e⟩ := e; subst e1)); subst e; exact h))
local macro_rules | `(tactic| walk_at "injs") => `(tactic| (rename_i e o h; rcases o with o | o <;> (subst o; first | (exfalso; simp only [D.tup.injEq, List.cons.injEq, reduceCtorEq, false_and, and_false] at e; done) | (simp only [List.cons.injEq, and_true, true_and, GM.ratD_iff, GM.partD_iff, GM.partsD_iff, GM.lineD_iff, GM.linesD_iff, D.tup.injEq, D.ref.injEq, D.int.injEq, D.str.injEq, D.bl.injEq, D.vl.injEq, Int.natCast_inj, and_assoc] at e; (repeat (obtain ⟨e1, e⟩ := e; subst e1)); subst e; exact h))))
end GM

namespace L2
open PySem PySem.Spec PyProof.Rows
section
variable {X : Cx} {a b : Expr} {ta : TE} {tb : TA} {p2 pos pos2 : Pos}
end
end L2
namespace DL
open PySem PySem.Spec L2
open PyProof.Rows hiding St
section
variable {X : Cx} {x : Expr} {t : DTE}
end
section
variable {X : Cx} {a b : Expr} {ta : DTE} {tb : DTA} {p2 pos pos2 : Pos}
end
end DL

namespace DL
open PySem PySem.Spec L2
open PyProof.Rows hiding St
section
variable {X : Cx} {x : Expr} {t : DTE}
end
end DL
namespace GM
open PySem PySem.Spec L2 DL
open RM (sz)
open PySem.NumText
theorem splA_ne (y : List Nat) : ∀ (n : Nat) (cs acc : List Nat), splA y n cs acc ≠ []
  | 0, cs, acc => by unfold splA; simp
  | n + 1, [], acc => by unfold splA; simp
  | n + 1, c :: r, acc => by
    unfold splA
    show (if _ then _ else _) ≠ []
    split
    · simp
    · exact splA_ne y n r _
theorem splA_cons (y : List Nat) (n c : Nat) (r acc : List Nat) : splA y (n + 1) (c :: r) acc = if y.isPrefixOf (c :: r) then acc.reverse :: splA y n ((c :: r).drop y.length) [] else splA y n r (c :: acc) := rfl
theorem splA_one (c : Nat) : ∀ (n : Nat) (cs acc : List Nat), cs.length < n → splA [c] n cs acc = if c ∈ cs then (acc.reverse ++ cs.takeWhile (· != c)) :: splA [c] (n - 1 - (cs.takeWhile (· != c)).length) (cs.dropWhile (· != c)).tail [] else [acc.reverse ++ cs]
  | 0, cs, acc, h => by omega
  | n + 1, [], acc, h => by unfold splA; simp
  | n + 1, c0 :: r, acc, h => by
    have hr : r.length < n := by rw [List.length_cons] at h; omega
    rw [splA_cons]
    by_cases e : c = c0
    · subst e
      have hp : [c].isPrefixOf (c :: r) = true := by simp
      rw [if_pos hp, if_pos List.mem_cons_self, List.takeWhile_cons_of_neg (by simp), List.dropWhile_cons_of_neg (by simp), List.append_nil, List.length_nil]
      show _ :: splA [c] n r [] = _ :: splA [c] (n + 1 - 1 - 0) r []
      rw [show n + 1 - 1 - 0 = n by omega]
    · have hp : ¬ [c].isPrefixOf (c0 :: r) = true := by simp [e]
      have e2 : (c0 != c) = true := by simpa using fun z => e z.symm
      rw [if_neg hp, splA_one c n r (c0 :: acc) hr, List.takeWhile_cons_of_pos (p := (· != c)) e2, List.dropWhile_cons_of_pos (p := (· != c)) e2, List.reverse_cons, List.append_assoc, List.length_cons]
      simp only [List.append_assoc, List.singleton_append]
      by_cases hm : c ∈ r
      · rw [if_pos hm, if_pos (List.mem_cons_of_mem _ hm)]
        show _ :: splA [c] (n - 1 - _) _ _ = _ :: splA [c] (n + 1 - 1 - (_ + 1)) _ _
        rw [show n + 1 - 1 - ((r.takeWhile (· != c)).length + 1) = n - 1 - (r.takeWhile (· != c)).length by omega]
      · rw [if_neg hm, if_neg (fun z => by rcases List.mem_cons.mp z with z | z; exact e z; exact hm z)]
theorem split_cut (s : Str) {c : Nat} (hc : c < 128) : (c ∉ sg s ∧ Txt.split s ⟨#[c]⟩ = [s]) ∨ (c ∈ sg s ∧ c ∉ (cutA c (sg s)).2.2 ∧ Txt.split s ⟨#[c]⟩ = [mkS (cutA c (sg s)).1, mkS (cutA c (sg s)).2.2]) ∨ (c ∈ sg s ∧ c ∈ (cutA c (sg s)).2.2 ∧ ∃ b d rest, Txt.split s ⟨#[c]⟩ = mkS (cutA c (sg s)).1 :: b :: d :: rest) := by
  have hk : Builtin.Str.strKind ⟨#[c]⟩ = 1 := by
    unfold Builtin.Str.strKind
    rw [if_pos (by simp; omega)]
  have e := split_eq (x := s) (y := ⟨#[c]⟩) (Nat.le_refl 1) hk (Nat.lt_succ_self s.length)
  have hl : (sg s).length < s.length.succ := by rw [sg_len]; exact Nat.lt_succ_self _
  rw [show sg (⟨#[c]⟩ : Str) = [c] from rfl, splA_one c _ _ _ hl] at e
  by_cases hm : c ∈ sg s
  · rw [if_pos hm] at e
    have tl := congrArg List.length (List.takeWhile_append_dropWhile (p := (· != c)) (l := sg s))
    rw [List.length_append] at tl
    have ht : (cutA c (sg s)).2.2.length < s.length.succ - 1 - ((sg s).takeWhile (· != c)).length := by
      show ((sg s).dropWhile (· != c)).tail.length < _
      have : (sg s).dropWhile (· != c) ≠ [] := fun z => by
        have h9 := List.takeWhile_append_dropWhile (p := (· != c)) (l := sg s)
        rw [z, List.append_nil] at h9
        have h8 := List.all_takeWhile (p := (· != c)) (l := sg s)
        rw [h9] at h8
        have := List.all_eq_true.mp h8 c hm
        simp at this
      have := List.length_pos_iff.mpr this
      rw [List.length_tail]
      omega
    have e2 := splA_one c _ (cutA c (sg s)).2.2 [] ht
    by_cases h2 : c ∈ (cutA c (sg s)).2.2
    · rw [if_pos h2] at e2
      have e3 : splA [c] (s.length.succ - 1 - ((sg s).takeWhile (· != c)).length) ((sg s).dropWhile (· != c)).tail [] = _ := e2
      rw [e3] at e
      refine .inr (.inr ⟨hm, h2, ?_⟩)
      cases hz : splA [c] (s.length.succ - 1 - ((sg s).takeWhile (· != c)).length - 1 - ((cutA c (sg s)).2.2.takeWhile (· != c)).length) ((cutA c (sg s)).2.2.dropWhile (· != c)).tail [] with
      | nil => exact absurd hz (splA_ne _ _ _ _)
      | cons d rest =>
        rw [hz] at e
        exact ⟨_, _, _, e⟩
    · rw [if_neg h2] at e2
      have e3 : splA [c] (s.length.succ - 1 - ((sg s).takeWhile (· != c)).length) ((sg s).dropWhile (· != c)).tail [] = _ := e2
      rw [e3] at e
      exact .inr (.inl ⟨hm, h2, e⟩)
  · rw [if_neg hm] at e
    exact .inl ⟨hm, e⟩
noncomputable def lfW (cs : List Nat) : Option Int := if figL cs then some ((digitsVal cs : Nat) : Int) else none
noncomputable def optR : Option Rat → D
  | some q => ratD q
  | none => .non
theorem rdW_signs {cs : List Nat} {n : Int} (h : rdW cs = some n) : ∀ x ∈ cs, x = 45 ∨ isF x = true := fun x hx => by
  unfold rdW at h
  have ff : ∀ {l : List Nat}, figL l = true → ∀ y ∈ l, isF y = true := fun hf y hy => by
    have := (fig_all hf).2.1 y hy
    unfold isF; simp; omega
  split at h
  · rename_i hf; exact .inr (ff hf x hx)
  · split at h
    · rename_i r hn
      split at h
      · rename_i hf
        rw [Bool.and_eq_true] at hf
        rcases List.mem_cons.mp hx with e | e
        · exact .inl e
        · exact .inr (ff hf.1 x e)
      · cases h
    · cases h
theorem dval_nil {r : List Nat} (h : figL r = true) : digitsVal r = 0 ↔ r = [48] := by
  refine ⟨fun z => ?_, fun z => by rw [z]; rfl⟩
  have e := tx_fig h
  rw [z] at e
  exact e.symm.trans (by decide +kernel)
theorem dval_one {r : List Nat} (h : figL r = true) : digitsVal r = 1 ↔ r = [49] := by
  refine ⟨fun z => ?_, fun z => by rw [z]; rfl⟩
  have e := tx_fig h
  rw [z] at e
  exact e.symm.trans (by decide +kernel)
theorem lf_top (t : List Nat) : rdW t = if t.take 1 = [45] then (match lfW (t.drop 1) with | some v => if v = 0 then none else some (-v) | none => none) else lfW t := by
  by_cases h : t.take 1 = [45]
  · obtain ⟨r, rfl⟩ := take_one.mp h
    rw [if_pos h]
    have hf : figL (45 :: r) = false := by
      cases hc : figL (45 :: r) with
      | false => rfl
      | true => have := (fig_all hc).2.1 45 List.mem_cons_self; omega
    rw [rdW_neg hf]
    show _ = (match lfW r with | some v => if v = 0 then none else some (-v) | none => none)
    unfold lfW
    cases hr : figL r with
    | false => rfl
    | true =>
      show (if (true && decide (r ≠ [48])) = true then _ else _) = (if ((digitsVal r : Nat) : Int) = 0 then _ else _)
      by_cases z : r = [48]
      · rw [decide_eq_false (show ¬ r ≠ [48] from fun q => q z), if_pos (show ((digitsVal r : Nat) : Int) = 0 by rw [(dval_nil hr).mpr z]; rfl)]; rfl
      · rw [decide_eq_true (show r ≠ [48] from z), if_neg (show ¬ ((digitsVal r : Nat) : Int) = 0 from fun q => z ((dval_nil hr).mp (by omega)))]; rfl
  · rw [if_neg h]
    unfold lfW
    cases hf : figL t with
    | true => rw [rdW_fig hf]; rfl
    | false => rw [rdW_no hf h]; rfl
theorem rdR_top {cs : List Nat} (h : rdW (cutA 47 cs).1 = none) : rdR cs = none := by
  unfold rdR toldR; rw [h]; rfl
theorem rdR_bot {cs : List Nat} (hb : (cutA 47 cs).2.1 = true) (h : rdW (cutA 47 cs).2.2 = none) : rdR cs = none := by
  unfold rdR toldR
  rw [hb, if_pos rfl, h]
  cases rdW (cutA 47 cs).1 <;> rfl
theorem dropW_nil {c : Nat} {cs : List Nat} (h : decide (c ∈ cs) = false) : (cs.dropWhile (· != c)).tail = [] := by
  rw [PyProof.Rows.dropWhile_none (of_decide_eq_false h)]; rfl
theorem rdR_one {cs : List Nat} {n : Int} (hb : (cutA 47 cs).2.1 = false) (h : rdW (cutA 47 cs).1 = some n) : rdR cs = some (mkRat n 1) := by
  have h3 : (cutA 47 cs).2.2 = [] := dropW_nil hb
  unfold rdR toldR
  rw [hb, h, h3]
  show Option.map _ (if (decide ((1 : Int) ≤ 1) && decide (Nat.gcd n.natAbs 1 = 1) && decide (([] : List Nat) ≠ [49])) = true then some (n, 1) else none) = _
  rw [decide_eq_true (Nat.gcd_one_right _)]; rfl
theorem rdR_two {cs : List Nat} {n : Int} (hb : (cutA 47 cs).2.1 = true) (h : rdW (cutA 47 cs).1 = some n) : rdR cs = match lfW (cutA 47 cs).2.2 with
    | some d => if 2 ≤ d ∧ Nat.gcd n.natAbs d.natAbs = 1 then some (mkRat n d.natAbs) else none
    | none => none := by
  generalize hr : (cutA 47 cs).2.2 = r
  have hx : rdR cs = (match rdW r with
    | some d => if (decide (1 ≤ d) && decide (Nat.gcd n.natAbs d.natAbs = 1) && decide (r ≠ [49])) = true then some (mkRat n d.natAbs) else none
    | none => none) := by
    unfold rdR toldR
    rw [hb, if_pos rfl, h, hr]
    cases rdW r with
    | none => rfl
    | some d =>
      show Option.map _ (if _ then _ else _) = if _ then _ else _
      split <;> rfl
  rw [hx]
  unfold lfW
  cases hf : figL r with
  | true =>
    rw [rdW_fig hf]
    show (if _ then _ else _) = (if _ then _ else _)
    have d1 := dval_one hf
    by_cases h1 : r = [49]
    · rw [decide_eq_false (show ¬ r ≠ [49] from fun q => q h1), Bool.and_false, if_neg (by decide), if_neg (fun q => by have := d1.mpr h1; omega)]
    · rw [decide_eq_true (show r ≠ [49] from h1), Bool.and_true]
      have n1 : digitsVal r ≠ 1 := fun z => h1 (d1.mp z)
      by_cases g : 1 ≤ ((digitsVal r : Nat) : Int) ∧ Nat.gcd n.natAbs ((digitsVal r : Nat) : Int).natAbs = 1
      · rw [if_pos (by rw [decide_eq_true g.1, decide_eq_true g.2]; rfl), if_pos ⟨by omega, g.2⟩]
      · rw [if_neg (fun q => g (by simpa using q)), if_neg (fun q => g ⟨by omega, q.2⟩)]
  | false =>
    show _ = none
    cases hw : rdW r with
    | none => rfl
    | some d =>
      have hd : d ≤ 0 := by
        unfold rdW at hw
        rw [if_neg (by rw [hf]; decide)] at hw
        split at hw
        · split at hw
          · have := Option.some.inj hw; omega
          · cases hw
        · cases hw
      show (if _ then _ else _) = none
      rw [decide_eq_false (show ¬ 1 ≤ d by omega)]; rfl
theorem rdW_slash {r : List Nat} (h : 47 ∈ r) : rdW r = none := by
  cases e : rdW r with
  | none => rfl
  | some n =>
    have := rdW_signs e 47 h
    rcases this with z | z
    · cases z
    · cases z
theorem rat_one (n : Int) : ratD (mkRat n 1) = .tup [.int n, .int 1] := (rat_of (d := 1) (by rw [decide_eq_true (show (1 : Int) ≤ 1 by decide), decide_eq_true (show n.natAbs.gcd (Int.natAbs 1) = 1 from Nat.gcd_one_right _)]; rfl)).symm
theorem div_self {n d : Int} (h2 : 2 ≤ d) : ratD (Rat.divInt n d) = .tup [.int n, .int d] ↔ Nat.gcd n.natAbs d.natAbs = 1 := by
  obtain ⟨k, rfl⟩ := Int.eq_ofNat_of_zero_le (show 0 ≤ d by omega)
  refine ⟨fun h => ?_, fun h => ?_⟩
  · unfold ratD at h
    injection h with h
    injection h with ha h
    injection h with hb _
    injection ha with ha
    injection hb with hb
    have hr := (Rat.divInt n (k : Int)).reduced
    rw [Nat.Coprime, ha, show (Rat.divInt n (k : Int)).den = k by omega] at hr
    exact hr
  · rw [rat_of (n := n) (d := (k : Int)) (by rw [decide_eq_true (show (1 : Int) ≤ (k : Int) by omega), decide_eq_true h]; rfl)]
    rfl
noncomputable def Asc (s : Str) : Prop := s.length ≤ 100000 ∧ ∀ c ∈ sg s, c < 128
local macro_rules | `(tactic| walk_at "inj") => `(tactic| (rename_i e h; simp only [List.cons.injEq, and_true, true_and, GM.ratD_iff, GM.partD_iff, GM.partsD_iff, GM.lineD_iff, GM.linesD_iff, D.tup.injEq, D.ref.injEq, D.int.injEq, D.str.injEq, D.bl.injEq, D.vl.injEq, Int.natCast_inj, and_assoc] at e; (repeat (obtain ⟨e1, e⟩ := e; subst e1)); subst e; exact h))
local macro_rules | `(tactic| walk_at "injs") => `(tactic| (rename_i e o h; rcases o with o | o <;> (subst o; first | (exfalso; simp only [D.tup.injEq, List.cons.injEq, reduceCtorEq, false_and, and_false] at e; done) | (simp only [List.cons.injEq, and_true, true_and, GM.ratD_iff, GM.partD_iff, GM.partsD_iff, GM.lineD_iff, GM.linesD_iff, D.tup.injEq, D.ref.injEq, D.int.injEq, D.str.injEq, D.bl.injEq, D.vl.injEq, Int.natCast_inj, and_assoc] at e; (repeat (obtain ⟨e1, e⟩ := e; subst e1)); subst e; exact h))))
noncomputable abbrev sLFig_b (s : Str) (M : Mem) (R : DK) (Y : DXK) : Prop := Asc s ∧ R (optI (lfW (sg s))) M
noncomputable def sLFig : DSp := fun ds M R Y => ∃ (s : Str), ds = [.str s] ∧ sLFig_b s M R Y
theorem z_sLFig {s : Str} {M : Mem} {R : DK} {Y : DXK} : sLFig [.str s] M R Y = (sLFig_b s M R Y) := propext ⟨fun z => by obtain ⟨_, _, _⟩ := z; walk_at "inj", fun h => ⟨s, rfl, h⟩⟩
noncomputable abbrev sLRdR_b (s : Str) (M : Mem) (R : DK) (Y : DXK) : Prop := Asc s ∧ R (optR (rdR (sg s))) M
noncomputable def sLRdR : DSp := fun ds M R Y => ∃ (s : Str), ds = [.str s] ∧ sLRdR_b s M R Y
theorem z_sLRdR {s : Str} {M : Mem} {R : DK} {Y : DXK} : sLRdR [.str s] M R Y = (sLRdR_b s M R Y) := propext ⟨fun z => by obtain ⟨_, _, _⟩ := z; walk_at "inj", fun h => ⟨s, rfl, h⟩⟩
noncomputable abbrev sPickS_b (p : Addr) (s : Str) (M : Mem) (R : DK) (Y : DXK) : Prop := PoolAt M p ∧ (0 < s.length ∧ s.length ≤ 900) ∧ ∀ c ∈ sg s, ∀ M', PStep p M M' → R (.str ⟨#[c]⟩) M'
noncomputable def sPickS : DSp := fun ds M R Y => ∃ (p : Addr) (s : Str), ds = [.ref p, .str s] ∧ sPickS_b p s M R Y
theorem z_sPickS {p : Addr} {s : Str} {M : Mem} {R : DK} {Y : DXK} : sPickS [.ref p, .str s] M R Y = (sPickS_b p s M R Y) := propext ⟨fun z => by obtain ⟨_, _, _, _⟩ := z; walk_at "inj", fun h => ⟨p, s, rfl, h⟩⟩
noncomputable abbrev sSign_b (p : Addr) (s : Str) (M : Mem) (R : DK) (Y : DXK) : Prop := PoolAt M p ∧ ((0 < s.length ∧ s.length ≤ 900) ∧ ∀ c ∈ sg s, c < 128) ∧ ∀ c < 128, ∀ M', PStep p M M' → R (.str ⟨#[c]⟩) M'
noncomputable def sSign : DSp := fun ds M R Y => ∃ (p : Addr) (s : Str), ds = [.ref p, .str s] ∧ sSign_b p s M R Y
theorem z_sSign {p : Addr} {s : Str} {M : Mem} {R : DK} {Y : DXK} : sSign [.ref p, .str s] M R Y = (sSign_b p s M R Y) := propext ⟨fun z => by obtain ⟨_, _, _, _⟩ := z; walk_at "inj", fun h => ⟨p, s, rfl, h⟩⟩
theorem asc_cat {a b : Str} (ha : ∀ c ∈ sg a, c < 128) (hb : ∀ c ∈ sg b, c < 128) : ∀ c ∈ sg (a ++ b), c < 128 := fun c hc => by
  rw [sg_cat] at hc
  rcases List.mem_append.mp hc with q | q
  · exact ha c q
  · exact hb c q
theorem asc_to {s : Str} (h : ∀ c ∈ sg s, c < 128) (j : Nat) : ∀ c ∈ sg (Txt.slice s none (some (j : Int))), c < 128 := fun c hc => by
  rw [sl_to] at hc; exact h c (List.mem_of_mem_take hc)
theorem asc_from {s : Str} (h : ∀ c ∈ sg s, c < 128) (j : Nat) : ∀ c ∈ sg (Txt.slice s (some (j : Int)) none), c < 128 := fun c hc => by
  rw [sl_from] at hc; exact h c (List.mem_of_mem_drop hc)
theorem len_to (s : Str) (j : Nat) : (Txt.slice s none (some (j : Int))).length = min j s.length := by rw [← sg_len, sl_to, List.length_take, sg_len]
theorem len_from (s : Str) (j : Nat) : (Txt.slice s (some (j : Int)) none).length = s.length - j := by rw [← sg_len, sl_from, List.length_drop, sg_len]
theorem tx_asc (n : Int) : ∀ c ∈ sg (tx n), c < 128 := by
  rw [← tx_sign n]
  refine asc_cat ?_ (fun c hc => ?_)
  · split <;> decide +kernel
  · have := tx_dig n.natAbs c hc; omega
theorem rtx_asc (q : Rat) : ∀ c ∈ sg (rtx q), c < 128 := by
  unfold rtx
  split
  · exact tx_asc _
  · exact asc_cat (asc_cat (tx_asc _) (by decide +kernel)) (tx_asc _)
noncomputable def Shw (M : Mem) (x y : D) : Prop := (x = y ∨ ∃ p xs, x = .ref p ∧ y = .vl xs ∧ M p = some (.lst xs)) ∨ ∃ a c p xs, x = .tup [a, .ref p, c] ∧ y = .tup [a, .vl xs, c] ∧ M p = some (.lst xs)
noncomputable def sSameT (k : Nat) : DSp := fun ds M R _ => ∃ x y : D, ds = [x, y] ∧ Shw M x y ∧ clv k y = true ∧ R (.bl true) M
theorem z_sSameT {k : Nat} {x y : D} {M : Mem} {R : DK} {Y : DXK} : sSameT k [x, y] M R Y = (Shw M x y ∧ clv k y = true ∧ R (.bl true) M) := propext ⟨fun ⟨_, _, e, h⟩ => by cases e; exact h, fun h => ⟨_, _, rfl, h⟩⟩
theorem PoolAt.upd {M : Mem} {p l : Addr} {o : MO} (h : PoolAt M p) (hl : M l = none) : PoolAt (updM M l o) p := by
  have hn := h.ne hl
  obtain ⟨x, y, z, e⟩ := h.ex
  exact ⟨x, y, z, by rw [updM_ne (Ne.symm hn)]; exact e⟩
end GM

namespace L2
open PySem PySem.Calls PySem.NumText PyProof.Rows PySem.W
theorem big_max {M : Model} {A : Around} {E : Value → Shared → Prop} {s : Shared} {Q : Nat → Shared → Prop} (hd : s.heap.NoDigits) (h : Q 4300 s) : wpAny M A Builtin.intMaxStrDigits Q E s := by
  obtain ⟨mc, hns, hnone⟩ := hd
  unfold Builtin.intMaxStrDigits
  refine wpAny_bind (wpAny_nsGet hns ?_)
  rw [hnone]
  exact wpAny_pure h
theorem big_text {M : Model} {A : Around} {E : Value → Shared → Prop} {s : Shared} {Q : Value → Shared → Prop} {v : Value} {text : List Nat} {n : Int} (hd : s.heap.NoDigits)
    (hs : ¬ (text.takeWhile (· != 0)).length ≤ 640) (hr : (int_private% "readNumeral") 4300 10 (text.takeWhile (· != 0)) = (int_private% "Numeral.value") n)
    (ha : ((text.takeWhile (· != 0)).length == text.length) = true) (h : Q (.int n s.toks) { s with toks := s.toks + 1 }) :
    wpAny M A ((int_private% "intFromText") v text 10) Q E s := by
  obtain ⟨hp, g, d, tk, os⟩ := s
  repeat (any_goals (first
    | assumption
    | ((with_reducible show wpAny _ _ Builtin.intMaxStrDigits _ _ _); refine big_max hd ?_)
    | (with_reducible refine wpAny_ite_false (decide_eq_false hs) ?_)
    | (with_reducible refine wpAny_ite_true (decide_eq_true ha) ?_)
    | wp_step))
  all_goals (try rw [hr])
  all_goals (try dsimp only)
  repeat (any_goals (first
    | assumption
    | (with_reducible refine wpAny_ite_true (decide_eq_true ha) ?_)
    | wp_step))
end L2
namespace L2
open PySem PySem.Calls PySem.NumText PyProof.Rows PySem.W
set_option maxHeartbeats 4000000 in
theorem big_meets {x : PySem.Str} {u : Tok} {n : Int} (hs : ¬ (numSeenOf x).length ≤ 640) (hr : (int_private% "readNumeral") 4300 10 (numSeenOf x) = (int_private% "Numeral.value") n) (ha : ((numSeenOf x).length == (numTextOf x).length) = true) :
    Meets (Builtin.«int.__new__» ⟨[.type "int", .str x u], []⟩) (fun _ R s => s.heap.NoDigits ∧ R (.ok (.ret (.int n s.toks))) { s with toks := s.toks + 1 }) := by
  intro prog w A R s hh
  obtain ⟨hd, h⟩ := hh
  obtain ⟨hp, g, d, tk, os⟩ := s
  have f1 := PySem.F.conv_sub_int
  have f2 := PySem.F.madeHere_int
  have f3 := KIN.str_int
  have f4 := KIN.str_idx
  have f5 := KIN.str_trunc
  have f6 : typeOf (.str x u) = pure (.type "str") := rfl
  have hk := KIN.Hid.mk (And.intro hs (And.intro hr ha))
  clear hs hr ha
  repeat (any_goals (first
    | assumption
    | ((with_reducible show wpAny _ _ ((int_private% "intFromText") _ _ _) _ _ _); refine big_text hd hk.out.1 hk.out.2.1 hk.out.2.2 ?_)
    | wp_step))
theorem big_call {prog : Program} {w : World} {A : Around} {E : Value → Shared → Prop} {s : Shared} {Q : Value → Shared → Prop} {x : PySem.Str} {t : Tok} {n : Int} (hd : s.heap.NoDigits) (hx : x.length ≤ 4300) (ha : AllDigits x.cps.toList) (hn : PySem.intText? x = some n)
    (h : Q (.int n s.toks) { s with toks := s.toks + 1 }) : wpAny (model prog w) A (call (.type "int") [.str x t]) Q E s := by
  by_cases hs : x.length ≤ 640
  · exact KIN.call_text hn hs h
  · have e : (numSeenOf x).length = x.length := by rw [(numText_signs fun c hc => .inr (ha c hc)).2]; exact Array.length_toList
    rcases read4300 x (Nat.le_trans hx (show 4300 ≤ sizeLine by rw [sizeLine_eq]; decide)) with ⟨m, h1, h2, h3⟩ | ⟨h1, _⟩
    · rw [hn] at h1
      injection h1 with h1
      subst h1
      exact call_int_1 (big_meets (by rw [e]; exact hs) h3 h2) ⟨hd, typeIs_int _ _ _, h⟩
    · rw [hn] at h1; cases h1
theorem cr_intTextL {X : Cx} (hd : X.base.NoDigits) : CallR X (.type "int") (fun xs H Q => ∃ z n, xs = [.str z] ∧ AllDigits z.cps.toList ∧ PySem.intText? z = some n ∧ z.length ≤ 4300 ∧ Q (.int n) H) := by
  intro pins s σ H xs us Q I rv h
  obtain ⟨z, n, rfl, ha, hn, hl, q⟩ := h
  obtain ⟨u, rfl, ru⟩ := Vals.one rv
  obtain ⟨t, rfl⟩ := ru
  exact big_call (hd.keeps I.bk) hl ha hn ⟨.int n, H, I.tok _, ⟨_, rfl⟩, q⟩
end L2
namespace DL
open PySem PySem.Spec PyProof.Rows L2 PySem.NumText
noncomputable def gIntL : DRC := fun ds M R => ∃ (s : Str) (n : Int), ds = [.str s] ∧ AllDigits s.cps.toList ∧ PySem.intText? s = some n ∧ s.length ≤ 4300 ∧ R (.int n) M
theorem c_intTL {X : Cx} (hd : X.base.NoDigits) : DCall X (.type "int") gIntL := CallR.imp (cr_intTextL hd) fun xs H Q ⟨ds, M, R, hl, am, ⟨s, n, z, ha, hn, hk, r⟩, f⟩ => by
  subst z
  obtain ⟨v, rfl, hv⟩ := hl.one
  cases hv
  exact ⟨s, n, rfl, ha, hn, hk, f _ M r _ H (KT.refl H) am (.int _)⟩
end DL

namespace GM
open PySem PySem.Spec L2 DL PySem.NumText
open RM (sz)
theorem fig_tx {m : Nat} (h : m < 10 ^ 300) : figL (sg (tx (m : Int))) = true := by
  have hl : (sg (tx (m : Int))).length ≤ 300 := by
    rw [sg_tx, List.length_map]
    exact (Nat.length_toDigits_le_iff (by decide) (by decide)).mpr h
  have ha : (sg (tx (m : Int))).all isF = true := List.all_eq_true.mpr fun c hc => by
    have := tx_dig m c hc
    unfold isF; simp; omega
  rw [figL_eq, ha, decide_eq_true hl]
  by_cases h0 : m = 0
  · subst h0; decide +kernel
  · obtain ⟨c, r, e, hc⟩ := tx_lead (show 0 < m by omega)
    rw [e]
    simp
    omega
theorem txn_neg {m : Nat} (h : 0 < m) : sg (tx (-(m : Int))) = 45 :: sg (tx (m : Int)) := by
  have e := tx_sign (-(m : Int))
  rw [if_pos (by omega), Int.natAbs_neg, Int.natAbs_natCast] at e
  rw [← e, sg_cat]
  rfl
theorem rdW_tx {n : Int} (h : n.natAbs < 10 ^ 300) : rdW (sg (tx n)) = some n := by
  rcases Int.eq_nat_or_neg n with ⟨m, e | e⟩
  · subst e
    rw [Int.natAbs_natCast] at h
    unfold rdW
    rw [if_pos (fig_tx h), dval_tx]
  · by_cases h0 : m = 0
    · subst h0; subst e; decide +kernel
    · subst e
      rw [Int.natAbs_neg, Int.natAbs_natCast] at h
      have f45 : figL (45 :: sg (tx (m : Int))) = false := by
        rw [figL_eq]
        have : (45 :: sg (tx (m : Int))).all isF = false := by rw [List.all_cons]; rfl
        rw [this, Bool.and_false]; rfl
      have ne : sg (tx (m : Int)) ≠ [48] := fun z => by
        obtain ⟨c, r, e, hc⟩ := tx_lead (show 0 < m by omega)
        rw [e] at z
        have := (List.cons.inj z).1
        omega
      rw [txn_neg (by omega)]
      unfold rdW
      rw [f45]
      show (if (figL (sg (tx (m : Int))) && decide (sg (tx (m : Int)) ≠ [48])) = true then some (-((digitsVal (sg (tx (m : Int))) : Nat) : Int)) else none) = _
      rw [fig_tx h, decide_eq_true ne, dval_tx]; rfl
theorem tx_signs (n : Int) : ∀ c ∈ sg (tx n), c = 45 ∨ (48 ≤ c ∧ c ≤ 57) := fun c hc => by
  rw [← tx_sign n, sg_cat] at hc
  rcases List.mem_append.mp hc with q | q
  · split at q
    · exact .inl (List.mem_singleton.mp q)
    · cases q
  · exact .inr (tx_dig _ c q)
theorem cut_two {a b : List Nat} (h : 47 ∉ a) : cutA 47 (a ++ 47 :: b) = (a, true, b) := by
  have e1 : ∀ a : List Nat, 47 ∉ a → (a ++ 47 :: b).takeWhile (· != 47) = a ∧ (a ++ 47 :: b).dropWhile (· != 47) = 47 :: b := fun a => by
    induction a with
    | nil => exact fun _ => ⟨rfl, rfl⟩
    | cons x a ih =>
      intro hh
      have hx : x ≠ 47 := fun e => hh (e ▸ List.mem_cons_self ..)
      obtain ⟨i1, i2⟩ := ih fun m => hh (List.mem_cons_of_mem _ m)
      rw [List.cons_append, List.takeWhile_cons_of_pos (by simp [hx]), List.dropWhile_cons_of_pos (by simp [hx]), i1, i2]
      exact ⟨rfl, rfl⟩
  unfold cutA
  rw [(e1 a h).1, (e1 a h).2, decide_eq_true (by simp)]; rfl
theorem mk_self (q : Rat) : mkRat q.num q.den = q := Rat.mkRat_self q
theorem rdR_tx {q : Rat} (h1 : q.num.natAbs < 10 ^ 300) (h2 : q.den < 10 ^ 300) : rdR (sg (rtx q)) = some q := by
  have n47 : ∀ n : Int, 47 ∉ sg (tx n) := fun n hm => by
    have := tx_signs n 47 hm; omega
  unfold rtx
  split
  · rename_i hd
    have hc : (cutA 47 (sg (tx q.num))).1 = sg (tx q.num) := take_none (n47 _)
    rw [rdR_one (decide_eq_false (n47 _)) (by rw [hc]; exact rdW_tx h1), ← hd, mk_self]
  · rename_i hd
    have e : sg (tx q.num ++ Str.ofString "/" ++ tx (q.den : Int)) = sg (tx q.num) ++ 47 :: sg (tx (q.den : Int)) := by
      rw [sg_cat, sg_cat, show sg (Str.ofString "/") = [47] by decide +kernel, List.append_assoc]; rfl
    rw [e]
    have c := cut_two (b := sg (tx (q.den : Int))) (n47 q.num)
    have lf : lfW (sg (tx (q.den : Int))) = some (q.den : Int) := by
      unfold lfW
      rw [if_pos (fig_tx h2), dval_tx]
    rw [rdR_two (n := q.num) (by rw [c]) (by rw [c]; exact rdW_tx h1), c]
    show (match lfW (sg (tx (q.den : Int))) with | some d => _ | none => _) = _
    rw [lf]
    have := q.den_pos
    have g := q.reduced
    show (if 2 ≤ (q.den : Int) ∧ Nat.gcd q.num.natAbs (Int.natAbs (q.den : Int)) = 1 then some (mkRat q.num (Int.natAbs (q.den : Int))) else none) = _
    rw [Int.natAbs_natCast, if_pos ⟨by omega, g⟩, mk_self]
theorem rep_dig {k c : Nat} (h : 48 ≤ c ∧ c ≤ 57) : AllDigits (List.replicate k c) := fun x hx => by rw [List.eq_of_mem_replicate hx]; exact h
theorem rep_lt {k c : Nat} (h : 48 ≤ c ∧ c ≤ 57) (h9 : 49 ≤ c) (hk : 1 ≤ k) : digitsVal (List.replicate k c) < 10 ^ k := by
  obtain ⟨j, rfl⟩ : ∃ j, k = j + 1 := ⟨k - 1, by omega⟩
  have e := congrArg List.length (tx_of (rep_dig (k := j + 1) h) ⟨c, List.replicate j c, rfl, h9⟩)
  rw [sg_tx, List.length_map, List.length_replicate] at e
  exact (Nat.length_toDigits_le_iff (by decide) (by omega)).mp (by omega)
theorem rep_int {s : Str} {k c : Nat} (hs : sg s = List.replicate k c) (h : 48 ≤ c ∧ c ≤ 57) (hk : 1 ≤ k) (h4 : k ≤ 4300) : PySem.intText? s = some ((digitsVal (List.replicate k c) : Nat) : Int) := by
  have hl := congrArg List.length hs
  rw [sg_len, List.length_replicate] at hl
  have := intText_digits (x := s) (by show AllDigits (sg s); rw [hs]; exact rep_dig h) (fun e => by rw [show sg s = [] from e] at hs; have := congrArg List.length hs; rw [List.length_replicate] at this; simp at this; omega) (by omega)
  rw [show s.cps.toList = List.replicate k c from hs] at this
  exact this
theorem rep_tx {s : Str} {k c : Nat} (hs : sg s = List.replicate k c) (h : 49 ≤ c ∧ c ≤ 57) (hk : 1 ≤ k) : tx ((digitsVal (List.replicate k c) : Nat) : Int) = s := by
  obtain ⟨j, rfl⟩ : ∃ j, k = j + 1 := ⟨k - 1, by omega⟩
  refine sg_inj ?_
  rw [hs]
  exact tx_of (rep_dig ⟨by omega, h.2⟩) ⟨c, List.replicate j c, rfl, h.1⟩
theorem sev_gcd {k : Nat} (hk : 1 ≤ k) : Nat.gcd (digitsVal (List.replicate k 55)) 10 = 1 := by
  obtain ⟨j, rfl⟩ : ∃ j, k = j + 1 := ⟨k - 1, by omega⟩
  have e : List.replicate (j + 1) 55 = List.replicate j 55 ++ [55] := List.replicate_succ'
  rw [e, digitsVal_snoc, Nat.gcd_comm, Nat.gcd_rec]
  rw [show (digitsVal (List.replicate j 55) * 10 + (55 - 48)) % 10 = 7 by omega]
  decide
noncomputable def Gr (q : Rat) : Prop := q.num.natAbs < 10 ^ 300 ∧ q.den < 10 ^ 300
theorem gr_sz {q : Rat} (h : sz q ≤ 900) : Gr q := by
  have e : 2 ^ 900 < 10 ^ 300 := by decide +kernel
  exact ⟨Nat.lt_of_lt_of_le (num_lt' q h) (by decide +kernel), Nat.lt_of_lt_of_le (den_lt' q h) (by decide +kernel)⟩
theorem gr_five {q : Rat} (h : Gr q) : q.num.natAbs < 10 ^ 5000 ∧ q.den < 10 ^ 5000 := by
  have big : (10 : Nat) ^ 300 ≤ 10 ^ 5000 := Nat.pow_le_pow_right (by decide) (by decide)
  exact ⟨Nat.lt_of_lt_of_le h.1 big, Nat.lt_of_lt_of_le h.2 big⟩
theorem gr_log {m : Nat} (h : m < 10 ^ 300) : m.log2 < 1920 := Nat.lt_of_lt_of_le (log_lt (k := 1000) (Nat.lt_of_lt_of_le h (show 10 ^ 300 ≤ 2 ^ 1000 by decide +kernel)) (by decide)) (by decide)
theorem gr_len {q : Rat} (h : Gr q) : (rtx q).length ≤ 603 := by
  have h1 := tx_len (by decide) h.1
  have h2 := tx_len (n := (q.den : Int)) (k := 300) (by decide) (by rw [Int.natAbs_natCast]; exact h.2)
  unfold rtx
  split
  · omega
  · rw [cat_len, cat_len, show (Str.ofString "/").length = 1 by decide +kernel]; omega
theorem mk_one (n : Int) : (mkRat n 1).num = n ∧ (mkRat n 1).den = 1 := by
  have e : mkRat n 1 = ⟨n, 1, by omega, Nat.gcd_one_right _⟩ := Rat.mkRat_self ⟨n, 1, by omega, Nat.gcd_one_right _⟩
  rw [e]; exact ⟨rfl, rfl⟩
theorem gr_neg {n : Nat} (h : n < 10 ^ 300) : Gr (mkRat (-(n : Int)) 1) := by
  rw [Gr, (mk_one _).1, (mk_one _).2, Int.natAbs_neg, Int.natAbs_natCast]
  exact ⟨h, by decide +kernel⟩
local macro_rules | `(tactic| walk_at "inj") => `(tactic| (rename_i e h; simp only [List.cons.injEq, and_true, true_and, GM.ratD_iff, GM.partD_iff, GM.partsD_iff, GM.lineD_iff, GM.linesD_iff, D.tup.injEq, D.ref.injEq, D.int.injEq, D.str.injEq, D.bl.injEq, D.vl.injEq, Int.natCast_inj, and_assoc] at e; (repeat (obtain ⟨e1, e⟩ := e; subst e1)); subst e; exact h))
local macro_rules | `(tactic| walk_at "injs") => `(tactic| (rename_i e o h; rcases o with o | o <;> (subst o; first | (exfalso; simp only [D.tup.injEq, List.cons.injEq, reduceCtorEq, false_and, and_false] at e; done) | (simp only [List.cons.injEq, and_true, true_and, GM.ratD_iff, GM.partD_iff, GM.partsD_iff, GM.lineD_iff, GM.linesD_iff, D.tup.injEq, D.ref.injEq, D.int.injEq, D.str.injEq, D.bl.injEq, D.vl.injEq, Int.natCast_inj, and_assoc] at e; (repeat (obtain ⟨e1, e⟩ := e; subst e1)); subst e; exact h))))
noncomputable abbrev sGreat_b (p : Addr) (M : Mem) (R : DK) (Y : DXK) : Prop := PoolAt M p ∧ ∀ (q : Rat) M', Gr q → PStep p M M' → R (ratD q) M'
noncomputable def sGreat : DSp := fun ds M R Y => ∃ (p : Addr), ds = [.ref p] ∧ sGreat_b p M R Y
theorem z_sGreat {p : Addr} {M : Mem} {R : DK} {Y : DXK} : sGreat [.ref p] M R Y = (sGreat_b p M R Y) := propext ⟨fun z => by obtain ⟨_, _, _⟩ := z; walk_at "inj", fun h => ⟨p, rfl, h⟩⟩
noncomputable abbrev sRtL_b (q : Rat) (M : Mem) (R : DK) (Y : DXK) : Prop := Gr q ∧ R (.str (rtx q)) M
noncomputable def sRtL : DSp := fun ds M R Y => ∃ (q : Rat), ds = [ratD q] ∧ sRtL_b q M R Y
theorem z_sRtL {q : Rat} {M : Mem} {R : DK} {Y : DXK} : sRtL [ratD q] M R Y = (sRtL_b q M R Y) := propext ⟨fun z => by obtain ⟨_, _, _⟩ := z; walk_at "inj", fun h => ⟨q, rfl, h⟩⟩
noncomputable abbrev sFnd55_b (s : Str) (M : Mem) (R : DK) (Y : DXK) : Prop := s.length ≤ 100000 ∧ R (optR (rdR (sg s))) M
noncomputable def sFnd55 : DSp := fun ds M R Y => ∃ (s : Str), ds = [.str s] ∧ sFnd55_b s M R Y
theorem z_sFnd55 {s : Str} {M : Mem} {R : DK} {Y : DXK} : sFnd55 [.str s] M R Y = (sFnd55_b s M R Y) := propext ⟨fun z => by obtain ⟨_, _, _⟩ := z; walk_at "inj", fun h => ⟨s, rfl, h⟩⟩
noncomputable abbrev sSp55_b (p : Addr) (s : Str) (M : Mem) (R : DK) (Y : DXK) : Prop := PoolAt M p ∧ (Asc s ∧ 1 ≤ s.length ∧ s.length ≤ 3000) ∧ ∀ t M', Asc t → t.length ≤ 2 * s.length + 2 → PStep p M M' → R (.str t) M'
noncomputable def sSp55 : DSp := fun ds M R Y => ∃ (p : Addr) (s : Str), ds = [.ref p, .str s] ∧ sSp55_b p s M R Y
theorem z_sSp55 {p : Addr} {s : Str} {M : Mem} {R : DK} {Y : DXK} : sSp55 [.ref p, .str s] M R Y = (sSp55_b p s M R Y) := propext ⟨fun z => by obtain ⟨_, _, _, _⟩ := z; walk_at "inj", fun h => ⟨p, s, rfl, h⟩⟩
theorem sev_rat {k : Nat} (hk : 1 ≤ k) : D.tup [.int ((digitsVal (List.replicate k 55) : Nat) : Int), .int 10] = ratD (mkRat ((digitsVal (List.replicate k 55) : Nat) : Int) 10) := by
  have g := sev_gcd hk
  exact rat_of (d := 10) (by rw [Int.natAbs_natCast, decide_eq_true (show (1 : Int) ≤ 10 by decide), decide_eq_true (show Nat.gcd (digitsVal (List.replicate k 55)) (Int.natAbs 10) = 1 from g)]; rfl)
theorem sev_mk {k : Nat} (hk : 1 ≤ k) : (mkRat ((digitsVal (List.replicate k 55) : Nat) : Int) 10).num = ((digitsVal (List.replicate k 55) : Nat) : Int) ∧ (mkRat ((digitsVal (List.replicate k 55) : Nat) : Int) 10).den = 10 := by
  have g : Nat.gcd (Int.natAbs ((digitsVal (List.replicate k 55) : Nat) : Int)) 10 = 1 := by rw [Int.natAbs_natCast]; exact sev_gcd hk
  have e : mkRat ((digitsVal (List.replicate k 55) : Nat) : Int) 10 = ⟨_, 10, by omega, g⟩ := Rat.mkRat_self ⟨_, 10, by omega, g⟩
  rw [e]; exact ⟨rfl, rfl⟩
theorem sev_txt {k : Nat} {s : Str} (hs : sg s = List.replicate k 55) (hk : 1 ≤ k) : rtx (mkRat ((digitsVal (List.replicate k 55) : Nat) : Int) 10) = s ++ Str.ofString "/10" ∧ rtx (mkRat (-((digitsVal (List.replicate k 55) : Nat) : Int)) 1) = Str.ofString "-" ++ s := by
  have e := rep_tx hs (by decide) hk
  refine ⟨?_, ?_⟩
  · unfold rtx
    rw [(sev_mk hk).1, (sev_mk hk).2, if_neg (by decide), e, cat_assoc]
    exact congrArg (s ++ ·) (by decide +kernel)
  · unfold rtx
    rw [(mk_one _).1, (mk_one _).2, if_pos rfl]
    have h0 : 0 < digitsVal (List.replicate k 55) := by
      obtain ⟨j, rfl⟩ : ∃ j, k = j + 1 := ⟨k - 1, by omega⟩
      exact digitsVal_pos (by decide)
    have t := tx_sign (-((digitsVal (List.replicate k 55) : Nat) : Int))
    rw [if_pos (by omega), Int.natAbs_neg, Int.natAbs_natCast, e] at t
    exact t.symm
theorem zero_mul (b : Bool) : MulOk (Str.ofString "0") (if b then 1 else 0) ∧ Txt.mul (Str.ofString "0") (if b then 1 else 0) = (if b then Str.ofString "0" else Str.empty) := by
  cases b
  · exact ⟨⟨by decide, fun h => absurd (show (0 : Int) < 1 by decide) h, fun h => absurd (show (0 : Int) < 1 by decide) h⟩, rfl⟩
  · exact ⟨mul_ok (by decide +kernel) (by decide) (by decide), rfl⟩
end GM


namespace K55
open PySem PySem.Spec L2 DL GM
open RM (sz)
open PyProof.Rows hiding St
local macro_rules | `(tactic| walk_at "sim") => `(tactic| (try simp only [↓DL.z_C, ↓DL.z_Op, ↓DL.z_Un, ↓DL.z_fI, ↓DL.z_fB, ↓DL.z_fS, ↓DL.z_gI, ↓DL.z_gU, ↓DL.z_Test, ↓DL.z_BlK, ↓DL.z_And, ↓DL.z_Or, ↓DL.z_Not, ↓DL.z_AndV, ↓DL.z_OrV, ↓DL.z_NotV, ↓DL.z_If, ↓DL.z_IfS, ↓DL.z_Nil, ↓DL.z_Cons, ↓DL.z_Tup, ↓DL.z_Lst, ↓DL.z_Call, ↓DL.z_CB, ↓DL.z_Next, ↓DL.z_Seq, ↓DL.z_Drop, ↓DL.z_Ret, ↓DL.z_Never, ↓DL.z_gName, ↓DL.z_gNil, ↓DL.z_gCons, ↓DL.z_gTup, ↓DL.z_Asg, ↓DL.z_Par, ↓DL.z_ParK, ↓DL.z_Abs, ↓DL.z_Max, ↓DL.z_IntB, ↓DL.z_IfT, ↓DL.z_IfF, ↓DL.z_IfK, ↓DL.z_LstV, ↓DL.z_CatV, ↓DL.z_NoPart, ↓DL.z_Part, ↓DL.z_PartK, ↓DL.z_gCatVl, ↓DL.z_gSub, ↓DL.z_Fgt, ↓DL.z_CompV, ↓DL.z_Yes, ↓DL.z_diSeq, ↓DL.z_SeqT, ↓DL.z_SeqV, ↓DL.z_diZip, ↓DL.z_ZipTT, ↓DL.z_ZipVV, ↓DL.z_ZipTV, ↓DL.z_ZipVT, ↓DL.z_diRng, ↓DL.z_RngK, ↓DL.z_For, ↓DL.z_EqC, ↓DL.z_LenV, ↓DL.z_LenT, ↓DL.z_LM, ↓DL.z_AllV, ↓DL.z_AnyV, ↓DL.z_isi2T, ↓DL.z_isi2V, ↓DL.z_isi2I, ↓DL.z_isi2N, ↓DL.z_isi2S, ↓DL.z_isi2B, ↓DL.z_isi2D, ↓DL.z_StrK, ↓DL.z_Chain, ↓DL.z_Raise, ↓DL.z_CallX, ↓DL.z_isi3T, ↓DL.z_isi3V, ↓DL.z_isi3I, ↓DL.z_isi3N, ↓DL.z_isi3S, ↓DL.z_isi3B, ↓DL.z_isi3D, ↓DL.z_isiTTuple, ↓DL.z_isiTList, ↓DL.z_isiTInt, ↓DL.z_isiTBool, ↓DL.z_isiTStr, ↓DL.z_isiVTuple, ↓DL.z_isiVList, ↓DL.z_isiVInt, ↓DL.z_isiVBool, ↓DL.z_isiVStr, ↓DL.z_isiITuple, ↓DL.z_isiIList, ↓DL.z_isiIInt, ↓DL.z_isiIBool, ↓DL.z_isiIStr, ↓DL.z_isiNTuple, ↓DL.z_isiNList, ↓DL.z_isiNInt, ↓DL.z_isiNBool, ↓DL.z_isiNStr, ↓DL.z_isiSTuple, ↓DL.z_isiSList, ↓DL.z_isiSInt, ↓DL.z_isiSBool, ↓DL.z_isiSStr, ↓DL.z_isiBTuple, ↓DL.z_isiBList, ↓DL.z_isiBInt, ↓DL.z_isiBBool, ↓DL.z_isiBStr, ↓DL.z_isiDTuple, ↓DL.z_isiDList, ↓DL.z_isiDInt, ↓DL.z_isiDBool, ↓DL.z_isiDStr, ↓DL.z_v0, ↓DL.z_v1, ↓DL.z_v2, ↓DL.z_v3, ↓DL.z_v4, ↓DL.z_v5, ↓DL.z_v6, ↓DL.z_v7, ↓DL.z_v8, ↓DL.z_v9, ↓DL.z_v10, ↓DL.z_s0, ↓DL.z_s1, ↓DL.z_s2, ↓DL.z_s3, ↓DL.z_s4, ↓DL.z_s5, ↓DL.z_s6, ↓DL.z_s7, ↓DL.z_s8, ↓DL.z_s9, ↓DL.z_s10, ↓DL.z_ixT0, ↓DL.z_ixT1, ↓DL.z_ixT2, ↓DL.z_ixT3, ↓DL.z_ixT4, ↓DL.z_ixT5, ↓DL.z_ixT6, ↓DL.z_ixT7, ↓DL.z_ixV0, ↓DL.z_ixV1, ↓DL.z_ixV2, ↓DL.z_ixV3, ↓DL.z_ixV4, ↓DL.z_ixV5, ↓DL.z_ixV6, ↓DL.z_ixV7, ↓DL.z_sz0, ↓DL.z_sz1, ↓DL.z_sz2, ↓DL.z_sz3, ↓DL.z_sz4, ↓DL.z_sz5, ↓DL.z_sz6, ↓DL.z_sz7, ↓DL.z_sz8, ↓DL.z_sz9, ↓DL.z_CatX, ↓DL.z_StrI, ↓DL.z_JoinR, ↓DL.z_IsX, ↓DL.z_offR, ↓DL.z_offN, ↓DL.z_LenS, ↓DL.z_IntT, ↓DL.z_MulS, ↓DL.z_InS, ↓DL.z_IxS, ↓DL.z_SlS, ↓DL.z_gSlS, ↓DL.z_StrW, ↓DL.z_diStr, ↓DL.z_StrM, ↓DL.z_MtS, ↓DL.z_gPart, ↓DL.z_gSplit, ↓DL.z_gDivmod, ↓DL.z_noX, ↓GM.z_ratIsT, ↓GM.z_partIsT, ↓GM.z_partL, ↓GM.z_rat0, ↓GM.z_rat1, ↓GM.z_ratG, ↓GM.z_ratL, ↓GM.z_part0, ↓GM.z_part1, ↓GM.z_partG, ↓GM.z_lineG, ↓GM.z_line0, ↓GM.z_line1, ↓GM.z_line2, ↓GM.z_sFigs, ↓GM.z_sFlI, ↓GM.z_sFnd55, ↓GM.z_sGreat, ↓GM.z_sIntI, ↓GM.z_sIsO, ↓GM.z_sIsRat, ↓GM.z_sLFig, ↓GM.z_sLRdR, ↓GM.z_sPick, ↓GM.z_sPickS, ↓GM.z_sReadR, ↓GM.z_sReadW, ↓GM.z_sRtG, ↓GM.z_sRtL, ↓GM.z_sSame, ↓GM.z_sSameR, ↓GM.z_sSameT, ↓GM.z_sSign, ↓GM.z_sSp55, ↓GM.z_sWhG, ↓GM.z_sWholeD, ↓GM.z_spDivisor, ↓GM.z_spLow, ↓GM.z_spNext, ↓GM.z_spNumber, ↓GM.z_spPool, ↓GM.sFigs_b, ↓GM.sFnd55_b, ↓GM.sGreat_b, ↓GM.sIsRat_b, ↓GM.sLFig_b, ↓GM.sLRdR_b, ↓GM.sPickS_b, ↓GM.sPick_b, ↓GM.sReadR_b, ↓GM.sReadW_b, ↓GM.sRtG_b, ↓GM.sRtL_b, ↓GM.sSign_b, ↓GM.sSp55_b, ↓GM.sWhG_b, ↓GM.sWholeD_b, GM.z_ratIsT, GM.z_partIsT, GM.z_partL, GM.z_rat0, GM.z_rat1, GM.z_ratG, GM.z_ratL, GM.z_part0, GM.z_part1, GM.z_partG, GM.z_lineG, GM.z_line0, GM.z_line1, GM.z_line2, GM.z_sFigs, GM.z_sFlI, GM.z_sFnd55, GM.z_sGreat, GM.z_sIntI, GM.z_sIsO, GM.z_sIsRat, GM.z_sLFig, GM.z_sLRdR, GM.z_sPick, GM.z_sPickS, GM.z_sReadR, GM.z_sReadW, GM.z_sRtG, GM.z_sRtL, GM.z_sSame, GM.z_sSameR, GM.z_sSameT, GM.z_sSign, GM.z_sSp55, GM.z_sWhG, GM.z_sWholeD, GM.z_spDivisor, GM.z_spLow, GM.z_spNext, GM.z_spNumber, GM.z_spPool, GM.sFigs_b, GM.sFnd55_b, GM.sGreat_b, GM.sIsRat_b, GM.sLFig_b, GM.sLRdR_b, GM.sPickS_b, GM.sPick_b, GM.sReadR_b, GM.sReadW_b, GM.sRtG_b, GM.sRtL_b, GM.sSign_b, GM.sSp55_b, GM.sWhG_b, GM.sWholeD_b, DL.z_C, DL.z_Op, DL.z_Un, DL.z_fI, DL.z_fB, DL.z_fS, DL.z_gI, DL.z_gU, DL.z_Test, DL.z_BlK, DL.z_And, DL.z_Or, DL.z_Not, DL.z_AndV, DL.z_OrV, DL.z_NotV, DL.z_If, DL.z_IfS, DL.z_Nil, DL.z_Cons, DL.z_Tup, DL.z_Lst, DL.z_Call, DL.z_CB, DL.z_Next, DL.z_Seq, DL.z_Drop, DL.z_Ret, DL.z_Never, DL.z_gName, DL.z_gNil, DL.z_gCons, DL.z_gTup, DL.z_Asg, DL.z_Par, DL.z_ParK, DL.z_Abs, DL.z_Max, DL.z_IntB, DL.z_IfT, DL.z_IfF, DL.z_IfK, DL.z_LstV, DL.z_CatV, DL.z_NoPart, DL.z_Part, DL.z_PartK, DL.z_gCatVl, DL.z_gSub, DL.z_Fgt, DL.z_CompV, DL.z_Yes, DL.z_diSeq, DL.z_SeqT, DL.z_SeqV, DL.z_diZip, DL.z_ZipTT, DL.z_ZipVV, DL.z_ZipTV, DL.z_ZipVT, DL.z_diRng, DL.z_RngK, DL.z_For, DL.z_EqC, DL.z_LenV, DL.z_LenT, DL.z_LM, DL.z_AllV, DL.z_AnyV, DL.z_isi2T, DL.z_isi2V, DL.z_isi2I, DL.z_isi2N, DL.z_isi2S, DL.z_isi2B, DL.z_isi2D, DL.z_StrK, DL.z_Chain, DL.z_Raise, DL.z_CallX, DL.z_isi3T, DL.z_isi3V, DL.z_isi3I, DL.z_isi3N, DL.z_isi3S, DL.z_isi3B, DL.z_isi3D, DL.z_isiTTuple, DL.z_isiTList, DL.z_isiTInt, DL.z_isiTBool, DL.z_isiTStr, DL.z_isiVTuple, DL.z_isiVList, DL.z_isiVInt, DL.z_isiVBool, DL.z_isiVStr, DL.z_isiITuple, DL.z_isiIList, DL.z_isiIInt, DL.z_isiIBool, DL.z_isiIStr, DL.z_isiNTuple, DL.z_isiNList, DL.z_isiNInt, DL.z_isiNBool, DL.z_isiNStr, DL.z_isiSTuple, DL.z_isiSList, DL.z_isiSInt, DL.z_isiSBool, DL.z_isiSStr, DL.z_isiBTuple, DL.z_isiBList, DL.z_isiBInt, DL.z_isiBBool, DL.z_isiBStr, DL.z_isiDTuple, DL.z_isiDList, DL.z_isiDInt, DL.z_isiDBool, DL.z_isiDStr, DL.z_v0, DL.z_v1, DL.z_v2, DL.z_v3, DL.z_v4, DL.z_v5, DL.z_v6, DL.z_v7, DL.z_v8, DL.z_v9, DL.z_v10, DL.z_s0, DL.z_s1, DL.z_s2, DL.z_s3, DL.z_s4, DL.z_s5, DL.z_s6, DL.z_s7, DL.z_s8, DL.z_s9, DL.z_s10, DL.z_ixT0, DL.z_ixT1, DL.z_ixT2, DL.z_ixT3, DL.z_ixT4, DL.z_ixT5, DL.z_ixT6, DL.z_ixT7, DL.z_ixV0, DL.z_ixV1, DL.z_ixV2, DL.z_ixV3, DL.z_ixV4, DL.z_ixV5, DL.z_ixV6, DL.z_ixV7, DL.z_sz0, DL.z_sz1, DL.z_sz2, DL.z_sz3, DL.z_sz4, DL.z_sz5, DL.z_sz6, DL.z_sz7, DL.z_sz8, DL.z_sz9, DL.z_CatX, DL.z_StrI, DL.z_JoinR, DL.z_IsX, DL.z_offR, DL.z_offN, DL.z_LenS, DL.z_IntT, DL.z_MulS, DL.z_InS, DL.z_IxS, DL.z_SlS, DL.z_gSlS, DL.z_StrW, DL.z_diStr, DL.z_StrM, DL.z_MtS, DL.z_gPart, DL.z_gSplit, DL.z_gDivmod, DL.z_noX, DL.z_clI60, DL.z_clN60, DL.z_clT60, DL.z_clV60, DL.z_clI59, DL.z_clN59, DL.z_clT59, DL.z_clV59, DL.z_clI58, DL.z_clN58, DL.z_clT58, DL.z_clV58, DL.z_clI57, DL.z_clN57, DL.z_clT57, DL.z_clV57, DL.z_clI56, DL.z_clN56, DL.z_clT56, DL.z_clV56, DL.z_clI55, DL.z_clN55, DL.z_clT55, DL.z_clV55, DL.z_cln59, DL.z_clc59, DL.z_cln58, DL.z_clc58, DL.z_cln57, DL.z_clc57, DL.z_cln56, DL.z_clc56, DL.z_cln55, DL.z_clc55, DL.z_cln54, DL.z_clc54, GM.z_clR60, GM.z_clR59, GM.z_clR58, GM.z_clR57, DL.z_szk1, DL.z_szk2, DL.z_szk3, DL.z_szk4, DL.z_szk5, DL.z_szk6, DL.z_szk7, DL.z_szk8, DL.z_szk9, DL.z_szk10, DL.z_szk11, DL.z_szk12, Nat.reduceAdd, Nat.reduceLT, Nat.reduceLeDiff, Nat.zero_add, Int.reduceLT, Int.reduceLE, Int.reduceEq, eq_self, decide_true, decide_false, D.int.injEq, D.str.injEq, beq_self_eq_true, and_self, true_and, and_true, not_true_eq_false, not_false_eq_true, false_implies, true_implies, forall_const, dstart, List.map_cons, List.map_nil, List.cons_append, List.nil_append, List.append_nil, List.length_cons, List.length_nil, List.replicate, capE, List.getElem?_cons_zero, List.getElem?_cons_succ, Option.getD_some, decide_eq_true_eq, decide_eq_false_iff_not, Bool.not_eq_true', Bool.not_eq_false', Bool.and_self, Bool.true_and, Bool.and_true, Bool.xor_false, Bool.false_xor, Bool.true_xor, Bool.not_true, Bool.not_false, Bool.false_eq_true, Bool.true_eq_false, reduceIte, GM.r0, GM.r1, GM.r2, GM.r4, GM.rm1, GM.rm2, GM.ratD_iff, GM.r_line, GM.r_abs, GM.r_neg, GM.r_self]))
local macro_rules | `(tactic| walk_at "len") => `(tactic| (intro ds M R Y h; repeat (first | exact congrArg List.length h.1 | (obtain ⟨_, h⟩ := h))))
local macro_rules | `(tactic| walk_at "size") => `(tactic| first | omega | grind only [RM.sz_mul, RM.sz_add, RM.sz_sub, RM.sz_neg, RM.sz_one, RM.sz_zero, GM.sz_abs])
local macro_rules | `(tactic| walk_at "sc") => `(tactic| exact ⟨rfl, rfl, rfl, by decide +kernel, rfl, by decide +kernel, by decide +kernel⟩)
noncomputable def top (i : Nat) : Stmt := PySem.Challenge.pw_roundglass_k55_whole_ratios_written_and.main.body.getD i (.Pass ⟨0, 0, 0, 0⟩)
noncomputable abbrev s__law_same : Stmt := top 31
noncomputable abbrev s__law_ratio : Stmt := top 19
noncomputable abbrev s__law_figures : Stmt := top 28
noncomputable abbrev s__law_read_ratio : Stmt := top 29
noncomputable abbrev s_divisor : Stmt := top 5
noncomputable abbrev s_is_whole : Stmt := top 4
noncomputable abbrev s_is_ratio : Stmt := top 6
noncomputable abbrev s_are_figures : Stmt := top 12
noncomputable abbrev s_read_whole : Stmt := top 13
noncomputable abbrev s_read_ratio : Stmt := top 14
noncomputable abbrev s__law_found : Stmt := top 34
noncomputable abbrev s__law_draw : Stmt := top 17
noncomputable abbrev s__law_pick : Stmt := top 18
noncomputable abbrev s__law_sign : Stmt := top 32
noncomputable abbrev s__law_spoilt : Stmt := top 33
noncomputable abbrev s_whole_text : Stmt := top 10
noncomputable abbrev s_ratio_text : Stmt := top 11
noncomputable abbrev s__law_ratio_text : Stmt := top 26
noncomputable abbrev s__law_number : Stmt := top 24
noncomputable abbrev s__law_great : Stmt := top 25
noncomputable abbrev s__law_pool : Stmt := top 16
noncomputable abbrev s_law : Stmt := top 35
theorem sc__law_same : FnScope ["found", "due"] ["found", "due"] (defScope s__law_same) := by walk_at "sc"
theorem sc__law_ratio : FnScope ["top", "bottom", "one", "other"] ["top", "bottom"] (defScope s__law_ratio) := by walk_at "sc"
theorem sc__law_figures : FnScope ["text"] ["text"] (defScope s__law_figures) := by walk_at "sc"
theorem sc__law_read_ratio : FnScope ["text", "parts", "under", "top", "bottom"] ["text"] (defScope s__law_read_ratio) := by walk_at "sc"
theorem sc_divisor : FnScope ["one", "other"] ["one", "other"] (defScope s_divisor) := by walk_at "sc"
theorem sc_is_whole : FnScope ["thing"] ["thing"] (defScope s_is_whole) := by walk_at "sc"
theorem sc_is_ratio : FnScope ["thing", "top", "bottom"] ["thing"] (defScope s_is_ratio) := by walk_at "sc"
theorem sc_are_figures : FnScope ["text"] ["text"] (defScope s_are_figures) := by walk_at "sc"
theorem sc_read_whole : FnScope ["text"] ["text"] (defScope s_read_whole) := by walk_at "sc"
theorem sc_read_ratio : FnScope ["text", "top_text", "slash", "bottom_text", "told"] ["text"] (defScope s_read_ratio) := by walk_at "sc"
theorem sc__law_found : FnScope ["text", "caught", "found", "e"] ["text"] (defScope s__law_found) := by walk_at "sc"
theorem sc__law_draw : FnScope ["pool", "base", "digit", "near"] ["pool", "base"] (defScope s__law_draw) := by walk_at "sc"
theorem sc__law_pick : FnScope ["pool", "some"] ["pool", "some"] (defScope s__law_pick) := by walk_at "sc"
theorem sc__law_sign : FnScope ["pool", "some"] ["pool", "some"] (defScope s__law_sign) := by walk_at "sc"
theorem sc__law_spoilt : FnScope ["pool", "text", "at", "sign", "style"] ["pool", "text"] (defScope s__law_spoilt) := by walk_at "sc"
theorem sc_whole_text : FnScope ["number", "unit", "rest", "pieces", "piece"] ["number"] (defScope s_whole_text) := by walk_at "sc"
theorem sc_ratio_text : FnScope ["one", "top", "bottom"] ["one"] (defScope s_ratio_text) := by walk_at "sc"
theorem sc__law_ratio_text : FnScope ["one"] ["one"] (defScope s__law_ratio_text) := by walk_at "sc"
theorem sc__law_number : FnScope ["pool", "style"] ["pool"] (defScope s__law_number) := by walk_at "sc"
theorem sc__law_great : FnScope ["pool", "style"] ["pool"] (defScope s__law_great) := by walk_at "sc"
theorem sc__law_pool : FnScope ["cell"] ["cell"] (defScope s__law_pool) := by walk_at "sc"
theorem sc_law : FnScope ["script", "cell", "pool", "one", "text", "wide", "turn"] ["script"] (defScope s_law) := by walk_at "sc"
structure Txt (K : PySem.W.Frag) (mg : Str → Option Value) : Prop where
  b_ValueError : mg "ValueError" = none
  b_abs : mg "abs" = none
  b_all : mg "all" = none
  b_any : mg "any" = none
  b_bool : mg "bool" = none
  b_divmod : mg "divmod" = none
  b_int : mg "int" = none
  b_isinstance : mg "isinstance" = none
  b_len : mg "len" = none
  b_list : mg "list" = none
  b_max : mg "max" = none
  b_range : mg "range" = none
  b_reversed : mg "reversed" = none
  b_str : mg "str" = none
  b_tuple : mg "tuple" = none
  b_zip : mg "zip" = none
  sub : SubOk K
  c_FIGURES : GlD K mg "FIGURES" (.str "0123456789")
  c_MOST_FIGURES : GlD K mg "MOST_FIGURES" (.int 300)
  x_NoText : ExD K mg "NoText"
  kn_GlassError__NoText : TkN K mg "GlassError" "NoText"
  ke_NoText : ExcK K "NoText"
  ki_NoText__NoText : IsN K mg ["NoText"] [("NoText", true)]
  kb_ValueError__NoText : IsR K [.type "ValueError"] [("NoText", true)]
section
variable {P : Program} {w : World} {K : PySem.W.Frag} {mg : Str → Option Value} {base : Heap}
theorem ok__law_same_0 (T : Txt K mg) (d : Df K mg "_law_same" s__law_same ["found", "due"]) : Fn P w K mg base "_law_same" 1 ["found", "due"] (sSame 0) := by
  have sc := sc__law_same
  refine fn_by d sc (fun ds M R Y h => by obtain ⟨_, rfl, _⟩ := h; rfl) (fun f cdv A outer s H E ds M R Y hr h => ?_)
  obtain ⟨x, rfl, hx, k⟩ := h
  have hu := hr.units
  refine ⟨_, (jds_cons (jds_if (jd_tval (jd_blt (c_isi2 T.sub) rfl T.b_isinstance bt_isinstance (jda_cons (jd_var 1) (jda_cons (jd_tup (jda_cons (jd_ty rfl T.b_tuple bt_tuple) (jda_cons (jd_ty rfl T.b_list bt_list) jda_nil))) jda_nil)))) jdss_never jds_nil) (jds_one (jds_ret (jd_vand (jd_vnot (jd_blt (c_isi T.sub) rfl T.b_isinstance bt_isinstance (jda_cons (jd_var 0) (jda_cons (jd_ty rfl T.b_bool bt_bool) jda_nil)))) (jd_vone (jm (o_eqC hu) (jd_var 0) (jd_var 1))))))), ?_⟩
  cases x with
  | int n => walk_at "sim"; exact k
  | non => walk_at "sim"; exact k
  | str x =>
    walk_at "sim"
    have hc : cl 60 (D.str x) = true := hx
    exact ⟨hc, hc, k⟩
  | _ => simp [clv] at hx
theorem ok__law_same_s {k : Nat} (T : Txt K mg) (d : Df K mg "_law_same" s__law_same ["found", "due"]) (G__law_same : Fn P w K mg base "_law_same" (k + 1) ["found", "due"] (sSame k)) : Fn P w K mg base "_law_same" (k + 2) ["found", "due"] (sSame (k + 1)) := by
  have sc := sc__law_same
  refine fn_by d sc (fun ds M R Y h => by obtain ⟨_, rfl, _⟩ := h; rfl) (fun f cdv A outer s H E ds M R Y hr h => ?_)
  obtain ⟨x, rfl, hx, kk⟩ := h
  have hu := hr.units
  refine ⟨_, (jds_cons (jds_if (jd_tval (jd_blt (c_isi2 T.sub) rfl T.b_isinstance bt_isinstance (jda_cons (jd_var 1) (jda_cons (jd_tup (jda_cons (jd_ty rfl T.b_tuple bt_tuple) (jda_cons (jd_ty rfl T.b_list bt_list) jda_nil))) jda_nil)))) (jds_cons (jds_if (jd_tw (jd_or (jtm o_neB (jd_blt (c_isi T.sub) rfl T.b_isinstance bt_isinstance (jda_cons (jd_var 0) (jda_cons (jd_ty rfl T.b_list bt_list) jda_nil))) (jd_blt (c_isi T.sub) rfl T.b_isinstance bt_isinstance (jda_cons (jd_var 1) (jda_cons (jd_ty rfl T.b_list bt_list) jda_nil)))) (jd_or1 (jd_not (jd_tval (jd_blt (c_isi2 T.sub) rfl T.b_isinstance bt_isinstance (jda_cons (jd_var 0) (jda_cons (jd_tup (jda_cons (jd_ty rfl T.b_tuple bt_tuple) (jda_cons (jd_ty rfl T.b_list bt_list) jda_nil))) jda_nil)))))))) (jds_one (jds_ret jd_bl)) jds_nil) (jds_cons (jds_if (jtm o_neI (jd_blt c_len rfl T.b_len bt_len (jda_cons (jd_var 0) jda_nil)) (jd_blt c_len rfl T.b_len bt_len (jda_cons (jd_var 1) jda_nil))) (jds_one (jds_ret jd_bl)) jds_nil) (jds_one (jds_ret (jd_blt (c_all rfl) rfl T.b_all bt_all (jda_cons (jd_compV [] ["one", "other"] [] rfl (by decide +kernel) rfl (by decide +kernel) (by decide +kernel) rfl all0 all0 (jpd_zip rfl T.b_zip (jda_cons (jd_var 0) (jda_cons (jd_var 1) jda_nil))) (fun _ _ _ _ _ _ => (jdg_tup (n := 2) rfl (jdgs_cons (jn 0 (show (["one", "other"] : List Str).Nodup by decide +kernel)) (jdgs_cons (jn 1 (show (["one", "other"] : List Str).Nodup by decide +kernel)) jdgs_nil)))) (fun _ _ _ _ _ _ => jdifs_nil) (fun _ _ _ _ _ _ => (jcO G__law_same hr (jda_cons (jd_var 0) (jda_cons (jd_var 1) jda_nil))))) jda_nil)))))) jds_nil) (jds_one (jds_ret (jd_vand (jd_vnot (jd_blt (c_isi T.sub) rfl T.b_isinstance bt_isinstance (jda_cons (jd_var 0) (jda_cons (jd_ty rfl T.b_bool bt_bool) jda_nil)))) (jd_vone (jm (o_eqC hu) (jd_var 0) (jd_var 1))))))), ?_⟩
  cases x with
  | int n => walk_at "sim"; exact kk
  | non => walk_at "sim"; exact kk
  | str x =>
    walk_at "sim"
    have hc : cl 60 (D.str x) = true := hx
    exact ⟨hc, hc, kk⟩
  | tup xs =>
    have hx' : xs.length ≤ 900 ∧ clvL k xs = true := by simpa [clv] using hx
    walk_at "sim"
    rw [zipD_self]
    refine compV_map (fun _ => .bl true) (by omega) (by simp only [seqD_tup, seqD_vl, and_self]) (fun z hz Q hQ => ?_) ?_
    · walk_at "sim"
      exact ⟨clvL_mem hx'.2 hz, hQ⟩
    · rw [z_mapB]
      show gAll [D.vl _] M R
      rw [z_AllV, all_true]
      exact kk
  | vl xs =>
    have hx' : xs.length ≤ 900 ∧ clvL k xs = true := by simpa [clv] using hx
    walk_at "sim"
    rw [zipD_self]
    refine compV_map (fun _ => .bl true) (by omega) (by simp only [seqD_tup, seqD_vl, and_self]) (fun z hz Q hQ => ?_) ?_
    · walk_at "sim"
      exact ⟨clvL_mem hx'.2 hz, hQ⟩
    · rw [z_mapB]
      show gAll [D.vl _] M R
      rw [z_AllV, all_true]
      exact kk
  | _ => simp [clv] at hx
theorem ok__law_same_r {k : Nat} (T : Txt K mg) (d : Df K mg "_law_same" s__law_same ["found", "due"]) (G__law_same : Fn P w K mg base "_law_same" (k + 1) ["found", "due"] (sSame k)) : Fn P w K mg base "_law_same" (k + 2) ["found", "due"] (sSameR (k + 1)) := by
  have sc := sc__law_same
  refine fn_by d sc (fun ds M R Y h => by obtain ⟨_, _, rfl, _⟩ := h; rfl) (fun f cdv A outer s H E ds M R Y hr h => ?_)
  obtain ⟨x0, x, rfl, h0, hx, kk⟩ := h
  have hu := hr.units
  rcases h0 with rfl | ⟨p, xs, rfl, rfl, hp⟩
  rotate_left
  · refine ⟨_, (jds_cons (jds_if (jd_tval (jd_blt (c_isi2 T.sub) rfl T.b_isinstance bt_isinstance (jda_cons (jd_var 1) (jda_cons (jd_tup (jda_cons (jd_ty rfl T.b_tuple bt_tuple) (jda_cons (jd_ty rfl T.b_list bt_list) jda_nil))) jda_nil)))) (jds_cons (jds_if (jd_tw (jd_or (jtm o_neB (jd_blt (c_isi T.sub) rfl T.b_isinstance bt_isinstance (jda_cons (jd_var 0) (jda_cons (jd_ty rfl T.b_list bt_list) jda_nil))) (jd_blt (c_isi T.sub) rfl T.b_isinstance bt_isinstance (jda_cons (jd_var 1) (jda_cons (jd_ty rfl T.b_list bt_list) jda_nil)))) (jd_or1 (jd_not (jd_tval (jd_blt (c_isi2 T.sub) rfl T.b_isinstance bt_isinstance (jda_cons (jd_var 0) (jda_cons (jd_tup (jda_cons (jd_ty rfl T.b_tuple bt_tuple) (jda_cons (jd_ty rfl T.b_list bt_list) jda_nil))) jda_nil)))))))) (jds_one (jds_ret jd_bl)) jds_nil) (jds_cons (jds_if (jtm o_neI (jd_blt c_len rfl T.b_len bt_len (jda_cons (jd_var 0) jda_nil)) (jd_blt c_len rfl T.b_len bt_len (jda_cons (jd_var 1) jda_nil))) (jds_one (jds_ret jd_bl)) jds_nil) (jds_one (jds_ret (jd_blt (c_all rfl) rfl T.b_all bt_all (jda_cons (jd_compV [] ["one", "other"] [] rfl (by decide +kernel) rfl (by decide +kernel) (by decide +kernel) rfl all0 all0 (jpd_zip rfl T.b_zip (jda_cons (jd_var 0) (jda_cons (jd_var 1) jda_nil))) (fun _ _ _ _ _ _ => (jdg_tup (n := 2) rfl (jdgs_cons (jn 0 (show (["one", "other"] : List Str).Nodup by decide +kernel)) (jdgs_cons (jn 1 (show (["one", "other"] : List Str).Nodup by decide +kernel)) jdgs_nil)))) (fun _ _ _ _ _ _ => jdifs_nil) (fun _ _ _ _ _ _ => (jcO G__law_same hr (jda_cons (jd_var 0) (jda_cons (jd_var 1) jda_nil))))) jda_nil)))))) jds_nil) (jds_one (jds_ret (jd_vand (jd_vnot (jd_blt (c_isi T.sub) rfl T.b_isinstance bt_isinstance (jda_cons (jd_var 0) (jda_cons (jd_ty rfl T.b_bool bt_bool) jda_nil)))) (jd_vone (jm (o_eqC hu) (jd_var 0) (jd_var 1))))))), ?_⟩
    have hx' : xs.length ≤ 900 ∧ clvL k xs = true := by simpa [clv] using hx
    walk_at "sim"
    rw [z_Isi (tyD_lst hp) rfl]
    walk_at "sim"
    rw [z_Isi2 (tyD_lst hp) rfl]
    walk_at "sim"
    rw [z_Len (lenD_lst hp)]
    walk_at "sim"
    refine ⟨_, _, _, _, rfl, seqD_ref hp, by rw [seqD_vl], ?_⟩
    rw [zipD_self]
    refine compV_map (fun _ => .bl true) (by omega) ⟨seqD_ref hp, by rw [seqD_vl]⟩ (fun z hz Q hQ => ?_) ?_
    · walk_at "sim"
      exact ⟨clvL_mem hx'.2 hz, hQ⟩
    · rw [z_mapB]
      show gAll [D.vl _] M R
      rw [z_AllV, all_true]
      exact kk
  refine ⟨_, (jds_cons (jds_if (jd_tval (jd_blt (c_isi2 T.sub) rfl T.b_isinstance bt_isinstance (jda_cons (jd_var 1) (jda_cons (jd_tup (jda_cons (jd_ty rfl T.b_tuple bt_tuple) (jda_cons (jd_ty rfl T.b_list bt_list) jda_nil))) jda_nil)))) (jds_cons (jds_if (jd_tw (jd_or (jtm o_neB (jd_blt (c_isi T.sub) rfl T.b_isinstance bt_isinstance (jda_cons (jd_var 0) (jda_cons (jd_ty rfl T.b_list bt_list) jda_nil))) (jd_blt (c_isi T.sub) rfl T.b_isinstance bt_isinstance (jda_cons (jd_var 1) (jda_cons (jd_ty rfl T.b_list bt_list) jda_nil)))) (jd_or1 (jd_not (jd_tval (jd_blt (c_isi2 T.sub) rfl T.b_isinstance bt_isinstance (jda_cons (jd_var 0) (jda_cons (jd_tup (jda_cons (jd_ty rfl T.b_tuple bt_tuple) (jda_cons (jd_ty rfl T.b_list bt_list) jda_nil))) jda_nil)))))))) (jds_one (jds_ret jd_bl)) jds_nil) (jds_cons (jds_if (jtm o_neI (jd_blt c_len rfl T.b_len bt_len (jda_cons (jd_var 0) jda_nil)) (jd_blt c_len rfl T.b_len bt_len (jda_cons (jd_var 1) jda_nil))) (jds_one (jds_ret jd_bl)) jds_nil) (jds_one (jds_ret (jd_blt (c_all rfl) rfl T.b_all bt_all (jda_cons (jd_compV [] ["one", "other"] [] rfl (by decide +kernel) rfl (by decide +kernel) (by decide +kernel) rfl all0 all0 (jpd_zip rfl T.b_zip (jda_cons (jd_var 0) (jda_cons (jd_var 1) jda_nil))) (fun _ _ _ _ _ _ => (jdg_tup (n := 2) rfl (jdgs_cons (jn 0 (show (["one", "other"] : List Str).Nodup by decide +kernel)) (jdgs_cons (jn 1 (show (["one", "other"] : List Str).Nodup by decide +kernel)) jdgs_nil)))) (fun _ _ _ _ _ _ => jdifs_nil) (fun _ _ _ _ _ _ => (jcO G__law_same hr (jda_cons (jd_var 0) (jda_cons (jd_var 1) jda_nil))))) jda_nil)))))) jds_nil) (jds_one (jds_ret (jd_vand (jd_vnot (jd_blt (c_isi T.sub) rfl T.b_isinstance bt_isinstance (jda_cons (jd_var 0) (jda_cons (jd_ty rfl T.b_bool bt_bool) jda_nil)))) (jd_vone (jm (o_eqC hu) (jd_var 0) (jd_var 1))))))), ?_⟩
  cases x0 with
  | int n => walk_at "sim"; exact kk
  | non => walk_at "sim"; exact kk
  | str x =>
    walk_at "sim"
    have hc : cl 60 (D.str x) = true := hx
    exact ⟨hc, hc, kk⟩
  | tup xs =>
    have hx' : xs.length ≤ 900 ∧ clvL k xs = true := by simpa [clv] using hx
    walk_at "sim"
    rw [zipD_self]
    refine compV_map (fun _ => .bl true) (by omega) (by simp only [seqD_tup, seqD_vl, and_self]) (fun z hz Q hQ => ?_) ?_
    · walk_at "sim"
      exact ⟨clvL_mem hx'.2 hz, hQ⟩
    · rw [z_mapB]
      show gAll [D.vl _] M R
      rw [z_AllV, all_true]
      exact kk
  | vl xs =>
    have hx' : xs.length ≤ 900 ∧ clvL k xs = true := by simpa [clv] using hx
    walk_at "sim"
    rw [zipD_self]
    refine compV_map (fun _ => .bl true) (by omega) (by simp only [seqD_tup, seqD_vl, and_self]) (fun z hz Q hQ => ?_) ?_
    · walk_at "sim"
      exact ⟨clvL_mem hx'.2 hz, hQ⟩
    · rw [z_mapB]
      show gAll [D.vl _] M R
      rw [z_AllV, all_true]
      exact kk
  | _ => simp [clv] at hx
theorem ok__law_same_t {k : Nat} (T : Txt K mg) (d : Df K mg "_law_same" s__law_same ["found", "due"]) (G__law_same : Fn P w K mg base "_law_same" (k + 2) ["found", "due"] (sSameR (k + 1))) : Fn P w K mg base "_law_same" (k + 3) ["found", "due"] (sSameT (k + 2)) := by
  have sc := sc__law_same
  refine fn_by d sc (fun ds M R Y h => by obtain ⟨_, _, rfl, _⟩ := h; rfl) (fun f cdv A outer s H E ds M R Y hr h => ?_)
  obtain ⟨x0, x, rfl, h0, hx, kk⟩ := h
  have hu := hr.units
  rcases h0 with h0 | ⟨a, c, p, xs, rfl, rfl, hp⟩
  rotate_left
  · refine ⟨_, (jds_cons (jds_if (jd_tval (jd_blt (c_isi2 T.sub) rfl T.b_isinstance bt_isinstance (jda_cons (jd_var 1) (jda_cons (jd_tup (jda_cons (jd_ty rfl T.b_tuple bt_tuple) (jda_cons (jd_ty rfl T.b_list bt_list) jda_nil))) jda_nil)))) (jds_cons (jds_if (jd_tw (jd_or (jtm o_neB (jd_blt (c_isi T.sub) rfl T.b_isinstance bt_isinstance (jda_cons (jd_var 0) (jda_cons (jd_ty rfl T.b_list bt_list) jda_nil))) (jd_blt (c_isi T.sub) rfl T.b_isinstance bt_isinstance (jda_cons (jd_var 1) (jda_cons (jd_ty rfl T.b_list bt_list) jda_nil)))) (jd_or1 (jd_not (jd_tval (jd_blt (c_isi2 T.sub) rfl T.b_isinstance bt_isinstance (jda_cons (jd_var 0) (jda_cons (jd_tup (jda_cons (jd_ty rfl T.b_tuple bt_tuple) (jda_cons (jd_ty rfl T.b_list bt_list) jda_nil))) jda_nil)))))))) (jds_one (jds_ret jd_bl)) jds_nil) (jds_cons (jds_if (jtm o_neI (jd_blt c_len rfl T.b_len bt_len (jda_cons (jd_var 0) jda_nil)) (jd_blt c_len rfl T.b_len bt_len (jda_cons (jd_var 1) jda_nil))) (jds_one (jds_ret jd_bl)) jds_nil) (jds_one (jds_ret (jd_blt (c_all rfl) rfl T.b_all bt_all (jda_cons (jd_compV [] ["one", "other"] [] rfl (by decide +kernel) rfl (by decide +kernel) (by decide +kernel) rfl all0 all0 (jpd_zip rfl T.b_zip (jda_cons (jd_var 0) (jda_cons (jd_var 1) jda_nil))) (fun _ _ _ _ _ _ => (jdg_tup (n := 2) rfl (jdgs_cons (jn 0 (show (["one", "other"] : List Str).Nodup by decide +kernel)) (jdgs_cons (jn 1 (show (["one", "other"] : List Str).Nodup by decide +kernel)) jdgs_nil)))) (fun _ _ _ _ _ _ => jdifs_nil) (fun _ _ _ _ _ _ => (jcO G__law_same hr (jda_cons (jd_var 0) (jda_cons (jd_var 1) jda_nil))))) jda_nil)))))) jds_nil) (jds_one (jds_ret (jd_vand (jd_vnot (jd_blt (c_isi T.sub) rfl T.b_isinstance bt_isinstance (jda_cons (jd_var 0) (jda_cons (jd_ty rfl T.b_bool bt_bool) jda_nil)))) (jd_vone (jm (o_eqC hu) (jd_var 0) (jd_var 1))))))), ?_⟩
    have h3 : clv (k + 1) a = true ∧ clv (k + 1) (.vl xs) = true ∧ clv (k + 1) c = true := by
      have : (decide ([a, .vl xs, c].length ≤ 900) && clvL (k + 1) [a, .vl xs, c]) = true := hx
      rw [Bool.and_eq_true] at this
      have := this.2
      exact ⟨clvL_mem this (by simp), clvL_mem this (by simp), clvL_mem this (by simp)⟩
    walk_at "sim"
    rw [show zipD [a, D.ref p, c] [a, D.vl xs, c] = [(a, a), (D.ref p, D.vl xs), (c, c)].map (fun z : D × D => D.tup [z.1, z.2]) from rfl]
    refine compV_map (fun _ => .bl true) (by show 3 ≤ 1000; decide) (by simp only [seqD_tup, seqD_vl, and_self]) (fun z hz Q hQ => ?_) ?_
    · walk_at "sim"
      simp only [List.mem_cons, List.not_mem_nil, or_false] at hz
      rcases hz with rfl | rfl | rfl
      · exact ⟨.inl rfl, h3.1, hQ⟩
      · exact ⟨.inr ⟨p, xs, rfl, rfl, hp⟩, h3.2.1, hQ⟩
      · exact ⟨.inl rfl, h3.2.2, hQ⟩
    · rw [z_mapB]
      show gAll [D.vl _] M R
      rw [z_AllV, all_true]
      exact kk
  · skip
    rcases h0 with rfl | ⟨p, xs, rfl, rfl, hp⟩
    rotate_left
    · refine ⟨_, (jds_cons (jds_if (jd_tval (jd_blt (c_isi2 T.sub) rfl T.b_isinstance bt_isinstance (jda_cons (jd_var 1) (jda_cons (jd_tup (jda_cons (jd_ty rfl T.b_tuple bt_tuple) (jda_cons (jd_ty rfl T.b_list bt_list) jda_nil))) jda_nil)))) (jds_cons (jds_if (jd_tw (jd_or (jtm o_neB (jd_blt (c_isi T.sub) rfl T.b_isinstance bt_isinstance (jda_cons (jd_var 0) (jda_cons (jd_ty rfl T.b_list bt_list) jda_nil))) (jd_blt (c_isi T.sub) rfl T.b_isinstance bt_isinstance (jda_cons (jd_var 1) (jda_cons (jd_ty rfl T.b_list bt_list) jda_nil)))) (jd_or1 (jd_not (jd_tval (jd_blt (c_isi2 T.sub) rfl T.b_isinstance bt_isinstance (jda_cons (jd_var 0) (jda_cons (jd_tup (jda_cons (jd_ty rfl T.b_tuple bt_tuple) (jda_cons (jd_ty rfl T.b_list bt_list) jda_nil))) jda_nil)))))))) (jds_one (jds_ret jd_bl)) jds_nil) (jds_cons (jds_if (jtm o_neI (jd_blt c_len rfl T.b_len bt_len (jda_cons (jd_var 0) jda_nil)) (jd_blt c_len rfl T.b_len bt_len (jda_cons (jd_var 1) jda_nil))) (jds_one (jds_ret jd_bl)) jds_nil) (jds_one (jds_ret (jd_blt (c_all rfl) rfl T.b_all bt_all (jda_cons (jd_compV [] ["one", "other"] [] rfl (by decide +kernel) rfl (by decide +kernel) (by decide +kernel) rfl all0 all0 (jpd_zip rfl T.b_zip (jda_cons (jd_var 0) (jda_cons (jd_var 1) jda_nil))) (fun _ _ _ _ _ _ => (jdg_tup (n := 2) rfl (jdgs_cons (jn 0 (show (["one", "other"] : List Str).Nodup by decide +kernel)) (jdgs_cons (jn 1 (show (["one", "other"] : List Str).Nodup by decide +kernel)) jdgs_nil)))) (fun _ _ _ _ _ _ => jdifs_nil) (fun _ _ _ _ _ _ => (jcO G__law_same hr (jda_cons (jd_var 0) (jda_cons (jd_var 1) jda_nil))))) jda_nil)))))) jds_nil) (jds_one (jds_ret (jd_vand (jd_vnot (jd_blt (c_isi T.sub) rfl T.b_isinstance bt_isinstance (jda_cons (jd_var 0) (jda_cons (jd_ty rfl T.b_bool bt_bool) jda_nil)))) (jd_vone (jm (o_eqC hu) (jd_var 0) (jd_var 1))))))), ?_⟩
      have hx' : xs.length ≤ 900 ∧ clvL (k + 1) xs = true := by simpa [clv] using hx
      walk_at "sim"
      rw [z_Isi (tyD_lst hp) rfl]
      walk_at "sim"
      rw [z_Isi2 (tyD_lst hp) rfl]
      walk_at "sim"
      rw [z_Len (lenD_lst hp)]
      walk_at "sim"
      refine ⟨_, _, _, _, rfl, seqD_ref hp, by rw [seqD_vl], ?_⟩
      rw [zipD_self]
      refine compV_map (fun _ => .bl true) (by omega) ⟨seqD_ref hp, by rw [seqD_vl]⟩ (fun z hz Q hQ => ?_) ?_
      · walk_at "sim"
        exact ⟨.inl trivial, clvL_mem hx'.2 hz, hQ⟩
      · rw [z_mapB]
        show gAll [D.vl _] M R
        rw [z_AllV, all_true]
        exact kk
    refine ⟨_, (jds_cons (jds_if (jd_tval (jd_blt (c_isi2 T.sub) rfl T.b_isinstance bt_isinstance (jda_cons (jd_var 1) (jda_cons (jd_tup (jda_cons (jd_ty rfl T.b_tuple bt_tuple) (jda_cons (jd_ty rfl T.b_list bt_list) jda_nil))) jda_nil)))) (jds_cons (jds_if (jd_tw (jd_or (jtm o_neB (jd_blt (c_isi T.sub) rfl T.b_isinstance bt_isinstance (jda_cons (jd_var 0) (jda_cons (jd_ty rfl T.b_list bt_list) jda_nil))) (jd_blt (c_isi T.sub) rfl T.b_isinstance bt_isinstance (jda_cons (jd_var 1) (jda_cons (jd_ty rfl T.b_list bt_list) jda_nil)))) (jd_or1 (jd_not (jd_tval (jd_blt (c_isi2 T.sub) rfl T.b_isinstance bt_isinstance (jda_cons (jd_var 0) (jda_cons (jd_tup (jda_cons (jd_ty rfl T.b_tuple bt_tuple) (jda_cons (jd_ty rfl T.b_list bt_list) jda_nil))) jda_nil)))))))) (jds_one (jds_ret jd_bl)) jds_nil) (jds_cons (jds_if (jtm o_neI (jd_blt c_len rfl T.b_len bt_len (jda_cons (jd_var 0) jda_nil)) (jd_blt c_len rfl T.b_len bt_len (jda_cons (jd_var 1) jda_nil))) (jds_one (jds_ret jd_bl)) jds_nil) (jds_one (jds_ret (jd_blt (c_all rfl) rfl T.b_all bt_all (jda_cons (jd_compV [] ["one", "other"] [] rfl (by decide +kernel) rfl (by decide +kernel) (by decide +kernel) rfl all0 all0 (jpd_zip rfl T.b_zip (jda_cons (jd_var 0) (jda_cons (jd_var 1) jda_nil))) (fun _ _ _ _ _ _ => (jdg_tup (n := 2) rfl (jdgs_cons (jn 0 (show (["one", "other"] : List Str).Nodup by decide +kernel)) (jdgs_cons (jn 1 (show (["one", "other"] : List Str).Nodup by decide +kernel)) jdgs_nil)))) (fun _ _ _ _ _ _ => jdifs_nil) (fun _ _ _ _ _ _ => (jcO G__law_same hr (jda_cons (jd_var 0) (jda_cons (jd_var 1) jda_nil))))) jda_nil)))))) jds_nil) (jds_one (jds_ret (jd_vand (jd_vnot (jd_blt (c_isi T.sub) rfl T.b_isinstance bt_isinstance (jda_cons (jd_var 0) (jda_cons (jd_ty rfl T.b_bool bt_bool) jda_nil)))) (jd_vone (jm (o_eqC hu) (jd_var 0) (jd_var 1))))))), ?_⟩
    cases x0 with
    | int n => walk_at "sim"; exact kk
    | non => walk_at "sim"; exact kk
    | str x =>
      walk_at "sim"
      have hc : cl 60 (D.str x) = true := hx
      exact ⟨hc, hc, kk⟩
    | tup xs =>
      have hx' : xs.length ≤ 900 ∧ clvL (k + 1) xs = true := by simpa [clv] using hx
      walk_at "sim"
      rw [zipD_self]
      refine compV_map (fun _ => .bl true) (by omega) (by simp only [seqD_tup, seqD_vl, and_self]) (fun z hz Q hQ => ?_) ?_
      · walk_at "sim"
        exact ⟨.inl trivial, clvL_mem hx'.2 hz, hQ⟩
      · rw [z_mapB]
        show gAll [D.vl _] M R
        rw [z_AllV, all_true]
        exact kk
    | vl xs =>
      have hx' : xs.length ≤ 900 ∧ clvL (k + 1) xs = true := by simpa [clv] using hx
      walk_at "sim"
      rw [zipD_self]
      refine compV_map (fun _ => .bl true) (by omega) (by simp only [seqD_tup, seqD_vl, and_self]) (fun z hz Q hQ => ?_) ?_
      · walk_at "sim"
        exact ⟨.inl trivial, clvL_mem hx'.2 hz, hQ⟩
      · rw [z_mapB]
        show gAll [D.vl _] M R
        rw [z_AllV, all_true]
        exact kk
    | _ => simp [clv] at hx
theorem ok__law_same (T : Txt K mg) (d : Df K mg "_law_same" s__law_same ["found", "due"]) : Fn P w K mg base "_law_same" 5 ["found", "due"] (sSameT 4) := by
  exact ok__law_same_t T d (ok__law_same_r T d (ok__law_same_s T d (ok__law_same_s T d (ok__law_same_0 T d))))
theorem ok__law_ratio (T : Txt K mg) (d : Df K mg "_law_ratio" s__law_ratio ["top", "bottom"]) : Fn P w K mg base "_law_ratio" 1 ["top", "bottom"] spLow := by
  have sc := sc__law_ratio
  refine fn_by d sc (fun ds M R Y h => ?_) (fun f cdv A outer s H E ds M R Y hr h => ?_)
  · obtain ⟨p, b, rfl, _⟩ := h; rfl
  · obtain ⟨a, b, rfl, hb, hl, k⟩ := h
    refine ⟨_, (jds_cons (jst 2 sc.nd (jd_blt c_abs rfl T.b_abs bt_abs (jda_cons (jd_var 0) jda_nil))) (jds_cons (jst 3 sc.nd (jd_blt c_abs rfl T.b_abs bt_abs (jda_cons (jd_var 1) jda_nil))) (jds_cons (jds_while PassesOwn.never (jtm o_gt (jd_var 3) jd_int) (jds_one (jds_par (i := 2) (j := 3) rfl sc.nd rfl rfl (by decide) rfl rfl (jda_cons (jd_var 3) (jda_cons (jd_op o_mod (jd_var 2) (jd_var 3)) jda_nil))))) (jds_cons (jst 2 sc.nd (jd_op o_mul (jd_var 2) (jd_op o_sub jd_int (jd_op o_mul jd_int (jd_blty c_intB rfl T.b_int bt_int (jda_cons (jm o_lt (jd_var 1) jd_int) jda_nil)))))) (jds_one (jds_ret (jd_tup (jda_cons (jd_op o_fdiv (jd_var 0) (jd_var 2)) (jda_cons (jd_op o_fdiv (jd_var 1) (jd_var 2)) jda_nil))))))))), ?_⟩
    refine ⟨_, rfl, _, rfl, ?_⟩
    refine ⟨_, rfl, _, rfl, ?_⟩
    refine ⟨fun m e M' => M' = M ∧ ∃ u : Nat, e = [some (.int a), some (.int b), some (.int (u : Int)), some (.int (m : Int))] ∧ Nat.gcd u m = Nat.gcd a.natAbs b.natAbs, ⟨b.natAbs, rfl, a.natAbs, rfl, rfl⟩, ?_⟩
    rintro v e M' ⟨rfl, u, rfl, hg⟩
    refine ⟨_, rfl, _, rfl, _, rfl, ?_⟩
    refine iteD (fun h0 => ?_) (fun h0 => ?_)
    · have hv : 0 < v := by omega
      refine ⟨_, rfl, _, rfl, _, rfl, _, _, rfl, rfl, h0, _, _, rfl, ?_⟩
      exact ⟨u % v, Nat.mod_lt _ hv, rfl, v, rfl, by rw [← RM.gcd_step u v (by omega)]; exact hg⟩
    · have hv : v = 0 := by omega
      subst hv
      rw [Nat.gcd_zero_right] at hg
      subst hg
      have hn := gcd_ne (a := a) hb
      have hlg := gcd_log (a := a) hb hl
      have es := sgn_eq ((Nat.gcd a.natAbs b.natAbs : Nat) : Int) b
      have c1 : ∀ i : Int, CFd i (((Nat.gcd a.natAbs b.natAbs : Nat) : Int) * (1 - 2 * (if decide (b < 0) = true then 1 else 0))) := fun i => by
        rw [es]
        split
        · exact ⟨by omega, by rw [Int.natAbs_neg]; exact hlg⟩
        · exact ⟨hn, hlg⟩
      have bd : ∀ c : Bool, (-(2 ^ 64) < 1 - 2 * (if c = true then (1 : Int) else 0)) ∧ (1 - 2 * (if c = true then (1 : Int) else 0)) < 2 ^ 64 := fun c => by cases c <;> decide
      refine ⟨_, rfl, _, rfl, _, rfl, _, rfl, _, _, rfl, rfl, m64l (by decide) (by decide), _, rfl, _, _, rfl, rfl, m64r (bd _).1 (bd _).2, ?_⟩
      refine ⟨_, rfl, _, rfl, _, _, rfl, rfl, c1 _, _, rfl, _, rfl, _, _, rfl, rfl, c1 _, sl 2, ?_⟩
      exact low_fin hb es k
theorem ok__law_figures (T : Txt K mg) (d : Df K mg "_law_figures" s__law_figures ["text"])  : Fn P w K mg base "_law_figures" 1 ["text"] sLFig := by
  have sc := sc__law_figures
  refine fn_by d sc (by walk_at "len") (fun f cdv A outer s H E ds M R Y hr h => ?_)
  have hu := hr.units
  obtain ⟨s, rfl, ⟨hs, ha⟩, k⟩ := h
  refine ⟨_, (jds_cons (jds_if (jd_tw (jd_or (jd_not (jd_tchain o_lt o_lt jd_int (jd_blt c_lenS rfl T.b_len bt_len (jda_cons (jd_var 0) jda_nil)) jd_int)) (jd_or1 (jtm (o_neC hu) (jd_compV [] ["sign"] [] rfl (by decide +kernel) rfl (by decide +kernel) (by decide +kernel) rfl all0 all0 (jpd_str (jd_var 0)) (fun _ _ _ _ _ _ => (jn 0 (show (["sign"] : List Str).Nodup by decide +kernel))) (fun _ _ _ _ _ _ => (jdifs_one (jtm o_notinS (jd_var 0) jd_str))) (fun _ _ _ _ _ _ => (jd_var 0))) (jd_lstV jda_nil))))) (jds_one (jds_ret jd_non)) jds_nil) (jds_cons (jds_if (jd_tw (jd_and (jtm o_eqS (jd_ixS (jd_var 0) jd_int) jd_str) (jd_and1 (jtm o_neS (jd_var 0) jd_str)))) (jds_one (jds_ret jd_non)) jds_nil) (jds_one (jds_ret (jd_blty c_intT rfl T.b_int bt_int (jda_cons (jd_var 0) jda_nil)))))), ?_⟩
  walk_at "sim"
  have hl := sg_len s
  have no : figL (sg s) = false → R D.non M := fun h => by
    have k : R (optI (lfW (sg s))) M := k
    unfold lfW at k; rw [h] at k; exact k
  have yes : figL (sg s) = true → ∃ n, intText? s = some n ∧ s.length ≤ 640 ∧ R (D.int n) M := fun h => by
    have k : R (optI (lfW (sg s))) M := k
    unfold lfW at k; rw [h] at k
    exact ⟨_, fig_int h, by have := (fig_all h).1.2; omega, k⟩
  refine ⟨sz_line hs, fun h0 => ⟨fun h1 => no ?_, fun h1 => ?_⟩, fun h0 => no ?_⟩
  · rw [figL_eq]; rw [decide_eq_false (show ¬ (sg s).length ≤ 300 by omega), Bool.and_false]; rfl
  · refine compV_filter (xs := sg s) (enc := fun c => D.str ⟨#[c]⟩) (fun c => !isF c) (fun c => D.str ⟨#[c]⟩) (by omega) trivial (fun c hc Q N hQ hN => ?_) ?_
    · walk_at "sim"
      rw [fig_in]
      cases hf : isF c with
      | true => exact ⟨fun z => (by cases z), fun _ => hN (by rw [hf]; rfl)⟩
      | false => exact ⟨fun _ => hQ (by rw [hf]; rfl), fun z => (by cases z)⟩
    show cl 60 (D.vl (List.map (fun c => D.str ⟨#[c]⟩) (List.filter (fun c => !isF c) (sg s)))) = true ∧ _
    have cc : ∀ l : List Nat, (∀ c ∈ l, c < 128) → clL 59 (l.map fun c => D.str ⟨#[c]⟩) = true := fun l => by
      induction l with
      | nil => exact fun _ => rfl
      | cons c r ih =>
        intro hh
        rw [List.map_cons]
        show (PyData.canLay0 (.str ⟨#[c]⟩) && clL 59 _) = true
        rw [ih fun x hx => hh x (List.mem_cons_of_mem _ hx), Bool.and_true]
        show (#[c].all (· < 0x110000)) = true
        have := hh c List.mem_cons_self
        simp; omega
    have em : (D.vl (List.map (fun c => D.str ⟨#[c]⟩) (List.filter (fun c => !isF c) (sg s))) = D.vl []) ↔ (sg s).all isF = true := by
      rw [D.vl.injEq, List.map_eq_nil_iff, List.filter_eq_nil_iff, List.all_eq_true]
      exact ⟨fun h x hx => by simpa using h x hx, fun h x hx => by simpa using h x hx⟩
    refine ⟨cc _ (fun c hc => ha c (List.mem_filter.mp hc).1), fun h => no ?_, fun h => ?_⟩
    · have : (sg s).all isF = false := by
        cases hc : (sg s).all isF with
        | false => rfl
        | true => exact absurd (em.mpr hc) h
      rw [figL_eq]; rw [this, Bool.and_false]; rfl
    have hf := em.mp h
    have z0 : sg (Str.ofString "0") = [48] := by decide +kernel
    have d1 : decide ((sg s).length ≠ 0) = true := decide_eq_true (by omega)
    have d2 : decide ((sg s).length ≤ 300) = true := decide_eq_true (by omega)
    have s0 : s = Str.ofString "0" ↔ sg s = [48] := by rw [sg_is, z0]
    cases hc : sg s with
    | nil => rw [hc] at hl; exact absurd hl.symm (by show ¬ s.length = 0; omega)
    | cons c r =>
      have g0 : s.cps[(0 : Int).toNat]? = some c := by rw [← Array.getElem?_toList]; show (sg s)[0]? = _; rw [hc]; rfl
      have fg : figL (sg s) = (decide (sg s = [48]) || decide (c ≠ 48)) := by
        rw [figL_eq, d1, d2, hf, hc]
        have : decide ((c :: r).head? ≠ some 48) = decide (c ≠ 48) := decide_eq_decide.mpr (by simp)
        rw [this]; rfl
      have c0 : (⟨#[c]⟩ : Str) = Str.ofString "0" ↔ c = 48 := by
        rw [sg_is, z0]; exact ⟨fun h => (List.cons.inj h).1, fun h => by rw [h]⟩
      refine gIxS_of (by decide) (by decide) g0 ?_
      walk_at "sim"
      rw [c0]
      refine ⟨fun q => ⟨fun q2 => no ?_, fun q2 => yes ?_⟩, fun q => yes ?_⟩
      · rw [fg, decide_eq_false (fun z => q2 (s0.mpr z)), decide_eq_false (fun z => z q)]; rfl
      · rw [fg, decide_eq_true (s0.mp q2)]; rfl
      · rw [fg, decide_eq_true (show c ≠ 48 from q), Bool.or_true]
  · rw [figL_eq]; rw [decide_eq_false (show ¬ (sg s).length ≠ 0 by omega)]; rfl
theorem ok__law_read_ratio (T : Txt K mg) (d : Df K mg "_law_read_ratio" s__law_read_ratio ["text"]) (G__law_ratio : Fn P w K mg base "_law_ratio" 1 ["top", "bottom"] spLow) (G__law_figures : Fn P w K mg base "_law_figures" 1 ["text"] sLFig) : Fn P w K mg base "_law_read_ratio" 2 ["text"] sLRdR := by
  have sc := sc__law_read_ratio
  refine fn_by d sc (by walk_at "len") (fun f cdv A outer s H E ds M R Y hr h => ?_)
  have hu := hr.units
  obtain ⟨s, rfl, ⟨hs, ha⟩, k⟩ := h
  refine ⟨_, (jds_cons (jst 1 sc.nd (jd_split rfl PySem.F.slot_str_split (jd_var 0) (jda_cons jd_str jda_nil))) (jds_cons (jst 2 sc.nd (jm o_eqS (jd_slS (jx (jd_var 1) jd_int) jdpo_none (jdpo_some jd_int)) jd_str)) (jds_cons (jst 3 sc.nd (jc G__law_figures hr (jda_cons (jd_slS (jx (jd_var 1) jd_int) (jdpo_some (jd_blty c_intB rfl T.b_int bt_int (jda_cons (jd_var 2) jda_nil))) jdpo_none) jda_nil))) (jds_cons (jds_if (jd_tw (jd_or (jtm o_is (jd_var 3) jd_non) (jd_or (jtm o_gt (jd_blt c_len rfl T.b_len bt_len (jda_cons (jd_var 1) jda_nil)) jd_int) (jd_or1 (jd_tw (jd_and (jd_tval (jd_var 2)) (jd_and1 (jtm o_eqI (jd_var 3) jd_int)))))))) (jds_one (jds_ret jd_non)) jds_nil) (jds_cons (jst 3 sc.nd (jd_op o_mul (jd_var 3) (jd_op o_sub jd_int (jd_op o_mul jd_int (jd_blty c_intB rfl T.b_int bt_int (jda_cons (jd_var 2) jda_nil)))))) (jds_cons (jds_if (jtm o_eqI (jd_blt c_len rfl T.b_len bt_len (jda_cons (jd_var 1) jda_nil)) jd_int) (jds_one (jds_ret (jd_tup (jda_cons (jd_var 3) (jda_cons jd_int jda_nil))))) jds_nil) (jds_cons (jst 4 sc.nd (jc G__law_figures hr (jda_cons (jx (jd_var 1) jd_int) jda_nil))) (jds_cons (jds_if (jd_tw (jd_or (jtm o_is (jd_var 4) jd_non) (jd_or (jtm o_lt (jd_var 4) jd_int) (jd_or1 (jtm (o_neC hu) (jc G__law_ratio hr (jda_cons (jd_var 3) (jda_cons (jd_var 4) jda_nil))) (jd_tup (jda_cons (jd_var 3) (jda_cons (jd_var 4) jda_nil)))))))) (jds_one (jds_ret jd_non)) jds_nil) (jds_one (jds_ret (jd_tup (jda_cons (jd_var 3) (jda_cons (jd_var 4) jda_nil))))))))))))), ?_⟩
  walk_at "sim"
  have k : R (optR (rdR (sg s))) M := k
  have sl : Str.ofString "/" = ⟨#[47]⟩ := by decide +kernel
  have m0 : sg (Str.ofString "-") = [45] := by decide +kernel
  rw [sl]
  refine ⟨by decide, by rw [sizeLine_eq]; omega, ?_⟩
  have sub : ∀ l : List Nat, (∀ x ∈ l, x ∈ sg s) → l.length ≤ s.length → Asc (mkS l) := fun l h1 h2 => ⟨by show l.toArray.size ≤ _; rw [List.size_toArray]; omega, fun c hc => ha c (h1 c hc)⟩
  have key : ∃ a tl, Txt.split s ⟨#[47]⟩ = a :: tl ∧ sg a = (cutA 47 (sg s)).1 ∧ ((tl = [] ∧ (cutA 47 (sg s)).2.1 = false) ∨ (tl = [mkS (cutA 47 (sg s)).2.2] ∧ (cutA 47 (sg s)).2.1 = true) ∨ (2 ≤ tl.length ∧ (cutA 47 (sg s)).2.1 = true ∧ 47 ∈ (cutA 47 (sg s)).2.2)) := by
    rcases split_cut s (c := 47) (by decide) with ⟨hm, e⟩ | ⟨hm, h2, e⟩ | ⟨hm, h2, b, d, rest, e⟩
    · exact ⟨s, [], e, (take_none hm).symm, .inl ⟨rfl, decide_eq_false hm⟩⟩
    · exact ⟨_, _, e, rfl, .inr (.inl ⟨rfl, decide_eq_true hm⟩)⟩
    · exact ⟨_, _, e, rfl, .inr (.inr ⟨by show 2 ≤ rest.length + 1 + 1; omega, decide_eq_true hm, h2⟩)⟩
  obtain ⟨a, tl, e, ea, ht⟩ := key
  have la := (cutA_le 47 (sg s)).1
  rw [e]
  have aa : Asc a := by
    have : a = mkS (sg a) := rfl
    rw [this]
    refine sub _ (fun x hx => ?_) (by rw [ea, ← sg_len]; exact la)
    rw [ea] at hx
    exact (List.takeWhile_sublist _).subset hx
  have lt := lf_top (cutA 47 (sg s)).1
  have e1 : sg (Txt.slice a none (some 1)) = (sg a).take 1 := sl_to a 1
  have e2 : sg (Txt.slice a (some 1) none) = (sg a).drop 1 := sl_from a 1
  have e3 : sg (Txt.slice a (some 0) none) = sg a := sl_from a 0
  have un : Txt.slice a none (some 1) = Str.ofString "-" ↔ (cutA 47 (sg s)).1.take 1 = [45] := by rw [sg_is, e1, m0, ea]
  rw [List.map_cons]
  have kn : rdR (sg s) = none → R D.non M := fun h => by rw [h] at k; exact k
  have lr := (cutA_le 47 (sg s)).2
  have ar : Asc (mkS (cutA 47 (sg s)).2.2) := sub _ (fun x hx => (List.dropWhile_sublist _).subset (List.mem_of_mem_tail hx)) (by rw [← sg_len]; exact lr)
  have lg300 : ∀ {d : Int}, d.natAbs < 10 ^ 300 → d.natAbs.log2 < 9000 := fun h => Nat.lt_of_lt_of_le (log_lt (k := 1000) (Nat.lt_of_lt_of_le h (show 10 ^ 300 ≤ 2 ^ 1000 by decide +kernel)) (by decide)) (by decide)
  have al : a.length ≤ sizeLine := sz_line aa.1
  have long : 2 ≤ tl.length → rdR (sg s) = none := fun h => by
    rcases ht with ⟨rfl, hb⟩ | ⟨rfl, hb⟩ | ⟨_, hb, hm⟩
    · exact absurd h (by decide)
    · exact absurd h (by show ¬ 2 ≤ 1; decide)
    · exact rdR_bot hb (rdW_slash hm)
  by_cases hu : Txt.slice a none (some 1) = Str.ofString "-"
  · have hu2 := un.mp hu
    rw [if_pos hu2] at lt
    walk_at "sim"
    rw [if_pos hu]
    have e4 : sg (Txt.slice a (some 1) none) = (cutA 47 (sg s)).1.drop 1 := by rw [e2, ea]
    have as1 : Asc (Txt.slice a (some 1) none) := ⟨Nat.le_trans (Txt.slice_le a _ _) aa.1, fun c hc => aa.2 c (by rw [e2] at hc; exact List.mem_of_mem_drop hc)⟩
    refine ⟨al, al, as1, ?_⟩
    rw [e4]
    cases hv : lfW ((cutA 47 (sg s)).1.drop 1) with
    | none =>
      rw [hv] at lt
      refine ⟨_, rfl, ?_⟩
      walk_at "sim"
      exact kn (rdR_top lt)
    | some v =>
      rw [hv] at lt
      refine ⟨_, rfl, ?_⟩
      simp only [optI]
      walk_at "sim"
      refine ⟨fun h0 => kn (long (by rw [List.length_map] at h0; omega)), fun h0 => ⟨fun _ => ?_, fun q => absurd hu q⟩⟩
      refine ⟨fun hz => kn (rdR_top (by rw [lt]; exact if_pos hz)), fun hz => ?_⟩
      have lt : rdW (cutA 47 (sg s)).1 = some (-v) := lt.trans (if_neg hz)
      refine ⟨m64l (by decide) (by decide), m64r (by decide) (by decide), ?_⟩
      · rw [show v * (1 - 2 * 1) = -v by omega]
        refine ⟨fun h1 => ?_, fun h1 => ?_⟩
        · rcases ht with ⟨rfl, hb⟩ | ⟨rfl, hb⟩ | ⟨ht, hb, _⟩
          · rw [rdR_one hb lt] at k
            have k : R (ratD (mkRat _ 1)) M := k
            rw [rat_one] at k; exact k
          · exact absurd h1 (by show ¬ ((1 + 1 : Nat) : Int) = 1; decide)
          · rw [List.length_map] at h1; omega
        · rcases ht with ⟨rfl, hb⟩ | ⟨rfl, hb⟩ | ⟨ht, hb, _⟩
          · exact absurd rfl h1
          · rw [rdR_two hb lt] at k
            rw [List.map_cons, List.map_nil]
            walk_at "sim"
            refine ⟨ar, ?_⟩
            rw [show sg (mkS (cutA 47 (sg s)).2.2) = (cutA 47 (sg s)).2.2 from rfl]
            cases hw : lfW (cutA 47 (sg s)).2.2 with
            | none =>
              rw [hw] at k
              refine ⟨_, rfl, ?_⟩
              walk_at "sim"
              exact k
            | some d =>
              rw [hw] at k
              have hd : 0 ≤ d ∧ d.natAbs < 10 ^ 300 := by
                unfold lfW at hw
                split at hw
                · rename_i hf
                  have := Option.some.inj hw
                  rw [← this]
                  exact ⟨Int.natCast_nonneg _, by rw [Int.natAbs_natCast]; exact fig_lt hf⟩
                · cases hw
              refine ⟨_, rfl, ?_⟩
              simp only [optI]
              walk_at "sim"
              have k : R (optR (if 2 ≤ d ∧ Nat.gcd (Int.natAbs _) d.natAbs = 1 then some (mkRat _ d.natAbs) else none)) M := k
              refine ⟨fun h2 => ?_, fun h2 => ?_⟩
              · rw [if_neg (fun q => by omega)] at k; exact k
              · refine ⟨by omega, lg300 hd.2, ?_⟩
                refine ⟨fun h3 => ?_, fun h3 => ?_⟩
                · rw [if_neg (fun q => h3 ((div_self (by omega)).mpr q.2))] at k; exact k
                · have g := (div_self (n := _) (d := d) (by omega)).mp h3
                  rw [if_pos ⟨by omega, g⟩] at k
                  have k : R (ratD (mkRat _ d.natAbs)) M := k
                  rw [← rat_of (by rw [decide_eq_true (show 1 ≤ d by omega), decide_eq_true g]; rfl)] at k
                  exact k
          · rw [List.length_map] at h0; omega
  · have hu2 : ¬ (cutA 47 (sg s)).1.take 1 = [45] := fun z => hu (un.mpr z)
    rw [if_neg hu2] at lt
    walk_at "sim"
    rw [if_neg hu]
    have e4 : sg (Txt.slice a (some 0) none) = (cutA 47 (sg s)).1 := by rw [e3, ea]
    have as1 : Asc (Txt.slice a (some 0) none) := ⟨Nat.le_trans (Txt.slice_le a _ _) aa.1, fun c hc => aa.2 c (by rw [e3] at hc; exact hc)⟩
    refine ⟨al, al, as1, ?_⟩
    rw [e4]
    cases hv : lfW (cutA 47 (sg s)).1 with
    | none =>
      rw [hv] at lt
      refine ⟨_, rfl, ?_⟩
      walk_at "sim"
      exact kn (rdR_top lt)
    | some v =>
      rw [hv] at lt
      refine ⟨_, rfl, ?_⟩
      simp only [optI]
      walk_at "sim"
      refine ⟨fun h0 => kn (long (by rw [List.length_map] at h0; omega)), fun h0 => ⟨fun q => absurd q hu, fun _ => ?_⟩⟩
      refine ⟨m64l (by decide) (by decide), m64r (by decide) (by decide), ?_⟩
      · rw [show v * (1 - 2 * 0) = v by omega]
        refine ⟨fun h1 => ?_, fun h1 => ?_⟩
        · rcases ht with ⟨rfl, hb⟩ | ⟨rfl, hb⟩ | ⟨ht, hb, _⟩
          · rw [rdR_one hb lt] at k
            have k : R (ratD (mkRat _ 1)) M := k
            rw [rat_one] at k; exact k
          · exact absurd h1 (by show ¬ ((1 + 1 : Nat) : Int) = 1; decide)
          · rw [List.length_map] at h1; omega
        · rcases ht with ⟨rfl, hb⟩ | ⟨rfl, hb⟩ | ⟨ht, hb, _⟩
          · exact absurd rfl h1
          · rw [rdR_two hb lt] at k
            rw [List.map_cons, List.map_nil]
            walk_at "sim"
            refine ⟨ar, ?_⟩
            rw [show sg (mkS (cutA 47 (sg s)).2.2) = (cutA 47 (sg s)).2.2 from rfl]
            cases hw : lfW (cutA 47 (sg s)).2.2 with
            | none =>
              rw [hw] at k
              refine ⟨_, rfl, ?_⟩
              walk_at "sim"
              exact k
            | some d =>
              rw [hw] at k
              have hd : 0 ≤ d ∧ d.natAbs < 10 ^ 300 := by
                unfold lfW at hw
                split at hw
                · rename_i hf
                  have := Option.some.inj hw
                  rw [← this]
                  exact ⟨Int.natCast_nonneg _, by rw [Int.natAbs_natCast]; exact fig_lt hf⟩
                · cases hw
              refine ⟨_, rfl, ?_⟩
              simp only [optI]
              walk_at "sim"
              have k : R (optR (if 2 ≤ d ∧ Nat.gcd (Int.natAbs _) d.natAbs = 1 then some (mkRat _ d.natAbs) else none)) M := k
              refine ⟨fun h2 => ?_, fun h2 => ?_⟩
              · rw [if_neg (fun q => by omega)] at k; exact k
              · refine ⟨by omega, lg300 hd.2, ?_⟩
                refine ⟨fun h3 => ?_, fun h3 => ?_⟩
                · rw [if_neg (fun q => h3 ((div_self (by omega)).mpr q.2))] at k; exact k
                · have g := (div_self (n := _) (d := d) (by omega)).mp h3
                  rw [if_pos ⟨by omega, g⟩] at k
                  have k : R (ratD (mkRat _ d.natAbs)) M := k
                  rw [← rat_of (by rw [decide_eq_true (show 1 ≤ d by omega), decide_eq_true g]; rfl)] at k
                  exact k
          · rw [List.length_map] at h0; omega
theorem ok_divisor (T : Txt K mg) (d : Df K mg "divisor" s_divisor ["one", "other"]) : Fn P w K mg base "divisor" 1 ["one", "other"] spDivisor := by
  have sc := sc_divisor
  refine fn_by d sc (fun ds M R Y h => ?_) (fun f cdv A outer s H E ds M R Y hr h => ?_)
  · obtain ⟨a, b, rfl, _⟩ := h; rfl
  · obtain ⟨a, b, rfl, k⟩ := h
    refine ⟨_, (jds_cons (jds_while PassesOwn.never (jtm o_neI (jd_var 1) jd_int) (jds_one (jds_par (i := 0) (j := 1) rfl sc.nd rfl rfl (by decide) rfl rfl (jda_cons (jd_var 1) (jda_cons (jd_op o_mod (jd_var 0) (jd_var 1)) jda_nil))))) (jds_one (jds_ret (jd_var 0)))), ?_⟩
    refine ⟨fun m e M' => M' = M ∧ ∃ u : Nat, e = [some (.int (u : Int)), some (.int (m : Int))] ∧ Nat.gcd u m = Nat.gcd a b, ⟨b, rfl, a, rfl, rfl⟩, ?_⟩
    rintro v e M' ⟨rfl, u, rfl, hg⟩
    refine ⟨_, rfl, _, rfl, _, rfl, ?_⟩
    refine iteND (fun h0 => ?_) (fun h0 => ?_)
    · have hv : 0 < v := by omega
      refine ⟨_, rfl, _, rfl, _, rfl, _, _, rfl, rfl, by omega, _, _, rfl, ?_⟩
      exact ⟨u % v, Nat.mod_lt _ hv, rfl, v, rfl, by rw [← RM.gcd_step u v (by omega)]; exact hg⟩
    · have hv : v = 0 := by omega
      subst hv
      rw [Nat.gcd_zero_right] at hg
      subst hg
      exact ⟨_, rfl, k⟩
theorem ok_is_whole (T : Txt K mg) (d : Df K mg "is_whole" s_is_whole ["thing"])  : Fn P w K mg base "is_whole" 1 ["thing"] sWholeD := by
  have sc := sc_is_whole
  refine fn_by d sc (by walk_at "len") (fun f cdv A outer s H E ds M R Y hr h => ?_)
  have hu := hr.units
  obtain ⟨x, rfl, hx, k⟩ := h
  cases x with
  | ref a => cases hx
  | ty a => cases hx
  | exc a => cases hx
  | int i =>
    refine ⟨_, (jds_one (jds_ret (jd_vand (jd_blt (c_isi T.sub) rfl T.b_isinstance bt_isinstance (jda_cons (jd_var 0) (jda_cons (jd_ty rfl T.b_int bt_int) jda_nil))) (jd_vone (jd_vnot (jd_blt (c_isi T.sub) rfl T.b_isinstance bt_isinstance (jda_cons (jd_var 0) (jda_cons (jd_ty rfl T.b_bool bt_bool) jda_nil)))))))), ?_⟩
    walk_at "sim"
    exact k
  | bl i =>
    refine ⟨_, (jds_one (jds_ret (jd_vand (jd_blt (c_isi T.sub) rfl T.b_isinstance bt_isinstance (jda_cons (jd_var 0) (jda_cons (jd_ty rfl T.b_int bt_int) jda_nil))) (jd_vone (jd_vnot (jd_blt (c_isi T.sub) rfl T.b_isinstance bt_isinstance (jda_cons (jd_var 0) (jda_cons (jd_ty rfl T.b_bool bt_bool) jda_nil)))))))), ?_⟩
    walk_at "sim"
    exact k
  | non =>
    refine ⟨_, (jds_one (jds_ret (jd_vand (jd_blt (c_isi T.sub) rfl T.b_isinstance bt_isinstance (jda_cons (jd_var 0) (jda_cons (jd_ty rfl T.b_int bt_int) jda_nil))) (jd_vone (jd_vnot (jd_blt (c_isi T.sub) rfl T.b_isinstance bt_isinstance (jda_cons (jd_var 0) (jda_cons (jd_ty rfl T.b_bool bt_bool) jda_nil)))))))), ?_⟩
    walk_at "sim"
    exact k
  | str i =>
    refine ⟨_, (jds_one (jds_ret (jd_vand (jd_blt (c_isi T.sub) rfl T.b_isinstance bt_isinstance (jda_cons (jd_var 0) (jda_cons (jd_ty rfl T.b_int bt_int) jda_nil))) (jd_vone (jd_vnot (jd_blt (c_isi T.sub) rfl T.b_isinstance bt_isinstance (jda_cons (jd_var 0) (jda_cons (jd_ty rfl T.b_bool bt_bool) jda_nil)))))))), ?_⟩
    walk_at "sim"
    exact k
  | tup i =>
    refine ⟨_, (jds_one (jds_ret (jd_vand (jd_blt (c_isi T.sub) rfl T.b_isinstance bt_isinstance (jda_cons (jd_var 0) (jda_cons (jd_ty rfl T.b_int bt_int) jda_nil))) (jd_vone (jd_vnot (jd_blt (c_isi T.sub) rfl T.b_isinstance bt_isinstance (jda_cons (jd_var 0) (jda_cons (jd_ty rfl T.b_bool bt_bool) jda_nil)))))))), ?_⟩
    walk_at "sim"
    exact k
  | vl i =>
    refine ⟨_, (jds_one (jds_ret (jd_vand (jd_blt (c_isi T.sub) rfl T.b_isinstance bt_isinstance (jda_cons (jd_var 0) (jda_cons (jd_ty rfl T.b_int bt_int) jda_nil))) (jd_vone (jd_vnot (jd_blt (c_isi T.sub) rfl T.b_isinstance bt_isinstance (jda_cons (jd_var 0) (jda_cons (jd_ty rfl T.b_bool bt_bool) jda_nil)))))))), ?_⟩
    walk_at "sim"
    exact k
  | dic =>
    refine ⟨_, (jds_one (jds_ret (jd_vand (jd_blt (c_isi T.sub) rfl T.b_isinstance bt_isinstance (jda_cons (jd_var 0) (jda_cons (jd_ty rfl T.b_int bt_int) jda_nil))) (jd_vone (jd_vnot (jd_blt (c_isi T.sub) rfl T.b_isinstance bt_isinstance (jda_cons (jd_var 0) (jda_cons (jd_ty rfl T.b_bool bt_bool) jda_nil)))))))), ?_⟩
    walk_at "sim"
    exact k
theorem ok_is_ratio (T : Txt K mg) (d : Df K mg "is_ratio" s_is_ratio ["thing"]) (G_divisor : Fn P w K mg base "divisor" 1 ["one", "other"] spDivisor) (G_is_whole : Fn P w K mg base "is_whole" 1 ["thing"] sWholeD) : Fn P w K mg base "is_ratio" 2 ["thing"] sIsRat := by
  have sc := sc_is_ratio
  refine fn_by d sc (by walk_at "len") (fun f cdv A outer s H E ds M R Y hr h => ?_)
  have hu := hr.units
  obtain ⟨x, rfl, hx, k⟩ := h
  cases x with
  | ref a => cases hx
  | ty a => cases hx
  | exc a => cases hx
  | int i =>
    refine ⟨_, (jds_cons (jds_if (jd_tw (jd_or (jd_not (jd_tval (jd_blt (c_isi T.sub) rfl T.b_isinstance bt_isinstance (jda_cons (jd_var 0) (jda_cons (jd_ty rfl T.b_tuple bt_tuple) jda_nil))))) (jd_or1 (jtm o_neI (jd_blt c_len rfl T.b_len bt_len (jda_cons (jd_var 0) jda_nil)) jd_int)))) (jds_one (jds_ret jd_bl)) jds_nil) (jds_cons (jds_asg (jd_var 0) (jdg_tup (n := 2) rfl (jdgs_cons (jn 1 sc.nd) (jdgs_cons (jn 2 sc.nd) jdgs_nil)))) (jds_cons (jds_if (jd_tw (jd_or (jd_not (jd_tval (jc G_is_whole hr (jda_cons (jd_var 1) jda_nil)))) (jd_or (jd_not (jd_tval (jc G_is_whole hr (jda_cons (jd_var 2) jda_nil)))) (jd_or1 (jtm o_lt (jd_var 2) jd_int))))) (jds_one (jds_ret jd_bl)) jds_nil) (jds_one (jds_ret (jm o_eqI (jc G_divisor hr (jda_cons (jd_blt c_abs rfl T.b_abs bt_abs (jda_cons (jd_var 1) jda_nil)) (jda_cons (jd_var 2) jda_nil))) jd_int)))))), ?_⟩
    walk_at "sim"
    exact k
  | bl i =>
    refine ⟨_, (jds_cons (jds_if (jd_tw (jd_or (jd_not (jd_tval (jd_blt (c_isi T.sub) rfl T.b_isinstance bt_isinstance (jda_cons (jd_var 0) (jda_cons (jd_ty rfl T.b_tuple bt_tuple) jda_nil))))) (jd_or1 (jtm o_neI (jd_blt c_len rfl T.b_len bt_len (jda_cons (jd_var 0) jda_nil)) jd_int)))) (jds_one (jds_ret jd_bl)) jds_nil) (jds_cons (jds_asg (jd_var 0) (jdg_tup (n := 2) rfl (jdgs_cons (jn 1 sc.nd) (jdgs_cons (jn 2 sc.nd) jdgs_nil)))) (jds_cons (jds_if (jd_tw (jd_or (jd_not (jd_tval (jc G_is_whole hr (jda_cons (jd_var 1) jda_nil)))) (jd_or (jd_not (jd_tval (jc G_is_whole hr (jda_cons (jd_var 2) jda_nil)))) (jd_or1 (jtm o_lt (jd_var 2) jd_int))))) (jds_one (jds_ret jd_bl)) jds_nil) (jds_one (jds_ret (jm o_eqI (jc G_divisor hr (jda_cons (jd_blt c_abs rfl T.b_abs bt_abs (jda_cons (jd_var 1) jda_nil)) (jda_cons (jd_var 2) jda_nil))) jd_int)))))), ?_⟩
    walk_at "sim"
    exact k
  | non =>
    refine ⟨_, (jds_cons (jds_if (jd_tw (jd_or (jd_not (jd_tval (jd_blt (c_isi T.sub) rfl T.b_isinstance bt_isinstance (jda_cons (jd_var 0) (jda_cons (jd_ty rfl T.b_tuple bt_tuple) jda_nil))))) (jd_or1 (jtm o_neI (jd_blt c_len rfl T.b_len bt_len (jda_cons (jd_var 0) jda_nil)) jd_int)))) (jds_one (jds_ret jd_bl)) jds_nil) (jds_cons (jds_asg (jd_var 0) (jdg_tup (n := 2) rfl (jdgs_cons (jn 1 sc.nd) (jdgs_cons (jn 2 sc.nd) jdgs_nil)))) (jds_cons (jds_if (jd_tw (jd_or (jd_not (jd_tval (jc G_is_whole hr (jda_cons (jd_var 1) jda_nil)))) (jd_or (jd_not (jd_tval (jc G_is_whole hr (jda_cons (jd_var 2) jda_nil)))) (jd_or1 (jtm o_lt (jd_var 2) jd_int))))) (jds_one (jds_ret jd_bl)) jds_nil) (jds_one (jds_ret (jm o_eqI (jc G_divisor hr (jda_cons (jd_blt c_abs rfl T.b_abs bt_abs (jda_cons (jd_var 1) jda_nil)) (jda_cons (jd_var 2) jda_nil))) jd_int)))))), ?_⟩
    walk_at "sim"
    exact k
  | str i =>
    refine ⟨_, (jds_cons (jds_if (jd_tw (jd_or (jd_not (jd_tval (jd_blt (c_isi T.sub) rfl T.b_isinstance bt_isinstance (jda_cons (jd_var 0) (jda_cons (jd_ty rfl T.b_tuple bt_tuple) jda_nil))))) (jd_or1 (jtm o_neI (jd_blt c_len rfl T.b_len bt_len (jda_cons (jd_var 0) jda_nil)) jd_int)))) (jds_one (jds_ret jd_bl)) jds_nil) (jds_cons (jds_asg (jd_var 0) (jdg_tup (n := 2) rfl (jdgs_cons (jn 1 sc.nd) (jdgs_cons (jn 2 sc.nd) jdgs_nil)))) (jds_cons (jds_if (jd_tw (jd_or (jd_not (jd_tval (jc G_is_whole hr (jda_cons (jd_var 1) jda_nil)))) (jd_or (jd_not (jd_tval (jc G_is_whole hr (jda_cons (jd_var 2) jda_nil)))) (jd_or1 (jtm o_lt (jd_var 2) jd_int))))) (jds_one (jds_ret jd_bl)) jds_nil) (jds_one (jds_ret (jm o_eqI (jc G_divisor hr (jda_cons (jd_blt c_abs rfl T.b_abs bt_abs (jda_cons (jd_var 1) jda_nil)) (jda_cons (jd_var 2) jda_nil))) jd_int)))))), ?_⟩
    walk_at "sim"
    exact k
  | vl i =>
    refine ⟨_, (jds_cons (jds_if (jd_tw (jd_or (jd_not (jd_tval (jd_blt (c_isi T.sub) rfl T.b_isinstance bt_isinstance (jda_cons (jd_var 0) (jda_cons (jd_ty rfl T.b_tuple bt_tuple) jda_nil))))) (jd_or1 (jtm o_neI (jd_blt c_len rfl T.b_len bt_len (jda_cons (jd_var 0) jda_nil)) jd_int)))) (jds_one (jds_ret jd_bl)) jds_nil) (jds_cons (jds_asg (jd_var 0) (jdg_tup (n := 2) rfl (jdgs_cons (jn 1 sc.nd) (jdgs_cons (jn 2 sc.nd) jdgs_nil)))) (jds_cons (jds_if (jd_tw (jd_or (jd_not (jd_tval (jc G_is_whole hr (jda_cons (jd_var 1) jda_nil)))) (jd_or (jd_not (jd_tval (jc G_is_whole hr (jda_cons (jd_var 2) jda_nil)))) (jd_or1 (jtm o_lt (jd_var 2) jd_int))))) (jds_one (jds_ret jd_bl)) jds_nil) (jds_one (jds_ret (jm o_eqI (jc G_divisor hr (jda_cons (jd_blt c_abs rfl T.b_abs bt_abs (jda_cons (jd_var 1) jda_nil)) (jda_cons (jd_var 2) jda_nil))) jd_int)))))), ?_⟩
    walk_at "sim"
    exact k
  | dic =>
    refine ⟨_, (jds_cons (jds_if (jd_tw (jd_or (jd_not (jd_tval (jd_blt (c_isi T.sub) rfl T.b_isinstance bt_isinstance (jda_cons (jd_var 0) (jda_cons (jd_ty rfl T.b_tuple bt_tuple) jda_nil))))) (jd_or1 (jtm o_neI (jd_blt c_len rfl T.b_len bt_len (jda_cons (jd_var 0) jda_nil)) jd_int)))) (jds_one (jds_ret jd_bl)) jds_nil) (jds_cons (jds_asg (jd_var 0) (jdg_tup (n := 2) rfl (jdgs_cons (jn 1 sc.nd) (jdgs_cons (jn 2 sc.nd) jdgs_nil)))) (jds_cons (jds_if (jd_tw (jd_or (jd_not (jd_tval (jc G_is_whole hr (jda_cons (jd_var 1) jda_nil)))) (jd_or (jd_not (jd_tval (jc G_is_whole hr (jda_cons (jd_var 2) jda_nil)))) (jd_or1 (jtm o_lt (jd_var 2) jd_int))))) (jds_one (jds_ret jd_bl)) jds_nil) (jds_one (jds_ret (jm o_eqI (jc G_divisor hr (jda_cons (jd_blt c_abs rfl T.b_abs bt_abs (jda_cons (jd_var 1) jda_nil)) (jda_cons (jd_var 2) jda_nil))) jd_int)))))), ?_⟩
    walk_at "sim"
    exact k
  | tup ds =>
    match ds, hx, k with
    | [], hx, k =>
      refine ⟨_, (jds_cons (jds_if (jd_tw (jd_or (jd_not (jd_tval (jd_blt (c_isi T.sub) rfl T.b_isinstance bt_isinstance (jda_cons (jd_var 0) (jda_cons (jd_ty rfl T.b_tuple bt_tuple) jda_nil))))) (jd_or1 (jtm o_neI (jd_blt c_len rfl T.b_len bt_len (jda_cons (jd_var 0) jda_nil)) jd_int)))) (jds_one (jds_ret jd_bl)) jds_nil) (jds_cons (jds_asg (jd_var 0) (jdg_tup (n := 2) rfl (jdgs_cons (jn 1 sc.nd) (jdgs_cons (jn 2 sc.nd) jdgs_nil)))) (jds_cons (jds_if (jd_tw (jd_or (jd_not (jd_tval (jc G_is_whole hr (jda_cons (jd_var 1) jda_nil)))) (jd_or (jd_not (jd_tval (jc G_is_whole hr (jda_cons (jd_var 2) jda_nil)))) (jd_or1 (jtm o_lt (jd_var 2) jd_int))))) (jds_one (jds_ret jd_bl)) jds_nil) (jds_one (jds_ret (jm o_eqI (jc G_divisor hr (jda_cons (jd_blt c_abs rfl T.b_abs bt_abs (jda_cons (jd_var 1) jda_nil)) (jda_cons (jd_var 2) jda_nil))) jd_int)))))), ?_⟩
      walk_at "sim"
      exact ⟨fun _ => k, fun z => absurd z (by decide)⟩
    | [a], hx, k =>
      rw [show isRt (.tup [a]) = false by cases a <;> rfl] at k
      refine ⟨_, (jds_cons (jds_if (jd_tw (jd_or (jd_not (jd_tval (jd_blt (c_isi T.sub) rfl T.b_isinstance bt_isinstance (jda_cons (jd_var 0) (jda_cons (jd_ty rfl T.b_tuple bt_tuple) jda_nil))))) (jd_or1 (jtm o_neI (jd_blt c_len rfl T.b_len bt_len (jda_cons (jd_var 0) jda_nil)) jd_int)))) (jds_one (jds_ret jd_bl)) jds_nil) (jds_cons (jds_asg (jd_var 0) (jdg_tup (n := 2) rfl (jdgs_cons (jn 1 sc.nd) (jdgs_cons (jn 2 sc.nd) jdgs_nil)))) (jds_cons (jds_if (jd_tw (jd_or (jd_not (jd_tval (jc G_is_whole hr (jda_cons (jd_var 1) jda_nil)))) (jd_or (jd_not (jd_tval (jc G_is_whole hr (jda_cons (jd_var 2) jda_nil)))) (jd_or1 (jtm o_lt (jd_var 2) jd_int))))) (jds_one (jds_ret jd_bl)) jds_nil) (jds_one (jds_ret (jm o_eqI (jc G_divisor hr (jda_cons (jd_blt c_abs rfl T.b_abs bt_abs (jda_cons (jd_var 1) jda_nil)) (jda_cons (jd_var 2) jda_nil))) jd_int)))))), ?_⟩
      walk_at "sim"
      exact ⟨fun _ => k, fun z => absurd z (by decide)⟩
    | a :: b :: c :: r, hx, k =>
      rw [show isRt (.tup (a :: b :: c :: r)) = false by cases a <;> first | rfl | (cases b <;> rfl)] at k
      refine ⟨_, (jds_cons (jds_if (jd_tw (jd_or (jd_not (jd_tval (jd_blt (c_isi T.sub) rfl T.b_isinstance bt_isinstance (jda_cons (jd_var 0) (jda_cons (jd_ty rfl T.b_tuple bt_tuple) jda_nil))))) (jd_or1 (jtm o_neI (jd_blt c_len rfl T.b_len bt_len (jda_cons (jd_var 0) jda_nil)) jd_int)))) (jds_one (jds_ret jd_bl)) jds_nil) (jds_cons (jds_asg (jd_var 0) (jdg_tup (n := 2) rfl (jdgs_cons (jn 1 sc.nd) (jdgs_cons (jn 2 sc.nd) jdgs_nil)))) (jds_cons (jds_if (jd_tw (jd_or (jd_not (jd_tval (jc G_is_whole hr (jda_cons (jd_var 1) jda_nil)))) (jd_or (jd_not (jd_tval (jc G_is_whole hr (jda_cons (jd_var 2) jda_nil)))) (jd_or1 (jtm o_lt (jd_var 2) jd_int))))) (jds_one (jds_ret jd_bl)) jds_nil) (jds_one (jds_ret (jm o_eqI (jc G_divisor hr (jda_cons (jd_blt c_abs rfl T.b_abs bt_abs (jda_cons (jd_var 1) jda_nil)) (jda_cons (jd_var 2) jda_nil))) jd_int)))))), ?_⟩
      walk_at "sim"
      exact ⟨fun _ => k, fun z => absurd z (by omega)⟩
    | [a, b], hx, k =>
      refine ⟨_, (jds_cons (jds_if (jd_tw (jd_or (jd_not (jd_tval (jd_blt (c_isi T.sub) rfl T.b_isinstance bt_isinstance (jda_cons (jd_var 0) (jda_cons (jd_ty rfl T.b_tuple bt_tuple) jda_nil))))) (jd_or1 (jtm o_neI (jd_blt c_len rfl T.b_len bt_len (jda_cons (jd_var 0) jda_nil)) jd_int)))) (jds_one (jds_ret jd_bl)) jds_nil) (jds_cons (jds_asg (jd_var 0) (jdg_tup (n := 2) rfl (jdgs_cons (jn 1 sc.nd) (jdgs_cons (jn 2 sc.nd) jdgs_nil)))) (jds_cons (jds_if (jd_tw (jd_or (jd_not (jd_tval (jc G_is_whole hr (jda_cons (jd_var 1) jda_nil)))) (jd_or (jd_not (jd_tval (jc G_is_whole hr (jda_cons (jd_var 2) jda_nil)))) (jd_or1 (jtm o_lt (jd_var 2) jd_int))))) (jds_one (jds_ret jd_bl)) jds_nil) (jds_one (jds_ret (jm o_eqI (jc G_divisor hr (jda_cons (jd_blt c_abs rfl T.b_abs bt_abs (jda_cons (jd_var 1) jda_nil)) (jda_cons (jd_var 2) jda_nil))) jd_int)))))), ?_⟩
      walk_at "sim"
      have hx' : fl0 a = true ∧ fl0 b = true := by simpa [fl1] using hx
      refine ⟨fun z => absurd rfl z, fun _ => ⟨hx'.1, fun h1 => ?_, fun h1 => ⟨hx'.2, fun h2 => ?_, fun h2 => ?_⟩⟩⟩
      · rw [isRt_f1 h1] at k; exact k
      · rw [isRt_f2 h2] at k; exact k
      · obtain ⟨n, rfl⟩ := isInt_ex h1
        obtain ⟨m, rfl⟩ := isInt_ex h2
        walk_at "sim"
        refine ⟨fun h => ?_, fun h => ?_⟩
        · rw [show isRt (.tup [.int n, .int m]) = false by show (decide (1 ≤ m) && _) = false; rw [decide_eq_false (by omega)]; rfl] at k
          exact k
        · obtain ⟨d, rfl⟩ := Int.eq_ofNat_of_zero_le (show 0 ≤ m by omega)
          walk_at "sim"
          rw [show isRt (.tup [.int n, .int (d : Int)]) = decide (Nat.gcd n.natAbs d = 1) by show (decide (1 ≤ (d : Int)) && _) = _; rw [decide_eq_true (by omega)]; rfl] at k
          rw [show decide (((Nat.gcd n.natAbs d : Nat) : Int) = 1) = decide (Nat.gcd n.natAbs d = 1) from decide_eq_decide.mpr (by omega)]
          exact k
theorem ok_are_figures (T : Txt K mg) (d : Df K mg "are_figures" s_are_figures ["text"])  : Fn P w K mg base "are_figures" 1 ["text"] sFigs := by
  have sc := sc_are_figures
  refine fn_by d sc (by walk_at "len") (fun f cdv A outer s H E ds M R Y hr h => ?_)
  have hu := hr.units
  obtain ⟨s, rfl, hs, k⟩ := h
  refine ⟨_, (jds_cons (jds_if (jd_tw (jd_or (jtm o_eqI (jd_blt c_lenS rfl T.b_len bt_len (jda_cons (jd_var 0) jda_nil)) jd_int) (jd_or (jtm o_gt (jd_blt c_lenS rfl T.b_len bt_len (jda_cons (jd_var 0) jda_nil)) (jd_globD rfl T.c_MOST_FIGURES)) (jd_or1 (jd_tval (jd_blt (c_any rfl) rfl T.b_any bt_any (jda_cons (jd_compV [] ["sign"] [] rfl (by decide +kernel) rfl (by decide +kernel) (by decide +kernel) rfl all0 all0 (jpd_str (jd_var 0)) (fun _ _ _ _ _ _ => (jn 0 (show (["sign"] : List Str).Nodup by decide +kernel))) (fun _ _ _ _ _ _ => jdifs_nil) (fun _ _ _ _ _ _ => (jm o_notinS (jd_var 0) (jd_globD rfl T.c_FIGURES)))) jda_nil))))))) (jds_one (jds_ret jd_bl)) jds_nil) (jds_one (jds_ret (jd_vor (jm o_eqS (jd_var 0) jd_str) (jd_vone (jm o_neS (jd_ixS (jd_var 0) jd_int) jd_str)))))), ?_⟩
  walk_at "sim"
  have hl := sg_len s
  have sl := sz_line hs
  have no : ∀ M', figL (sg s) = false → M' = M → R (D.bl false) M' := fun M' h e => by rw [e, ← h]; exact k
  refine ⟨sl, fun h0 => no M ?_ rfl, fun h0 => ⟨sl, fun h1 => no M ?_ rfl, fun h1 => ?_⟩⟩
  · rw [figL_eq]; rw [decide_eq_false (show ¬ (sg s).length ≠ 0 by omega)]; rfl
  · rw [figL_eq]; rw [decide_eq_false (show ¬ (sg s).length ≤ 300 by omega), Bool.and_false]; rfl
  refine compV_map (xs := sg s) (enc := fun c => D.str ⟨#[c]⟩) (fun c => .bl (!isF c)) (by omega) trivial (fun c hc Q hQ => ?_) ?_
  · walk_at "sim"
    rw [fig_in]
    exact hQ
  have em : (sg s).map (fun c => D.bl (!isF c)) = ((sg s).map fun c => !isF c).map D.bl := by rw [List.map_map]; rfl
  rw [em]
  show gAny [_] M _
  rw [z_AnyV]
  walk_at "sim"
  have ea : ((sg s).map fun c => !isF c).any id = !(sg s).all isF := by rw [List.any_map, List.all_eq_not_any_not, Bool.not_not]; rfl
  have d1 : decide ((sg s).length ≠ 0) = true := decide_eq_true (by omega)
  have d2 : decide ((sg s).length ≤ 300) = true := decide_eq_true (by omega)
  refine ⟨fun h => no M ?_ rfl, fun h => ?_⟩
  · have : (sg s).all isF = false := by rw [ea] at h; simpa using h
    rw [figL_eq]; rw [this, Bool.and_false]; rfl
  · have hf : (sg s).all isF = true := by
      cases hc : (sg s).all isF with
      | true => rfl
      | false => (have h9 := h; rw [ea, hc] at h9; cases h9)
    have z0 : sg (Str.ofString "0") = [48] := by decide +kernel
    refine ⟨fun e => ?_, fun e => ?_⟩
    · have e2 : sg s = [48] := by rw [e]; exact z0
      have : figL (sg s) = true := by rw [e2]; decide
      rw [← this]; exact k
    · have ne : sg s ≠ [48] := fun e2 => e (sg_inj (e2.trans z0.symm))
      cases hc : sg s with
      | nil => rw [hc] at hl; exact absurd hl.symm (by show ¬ s.length = 0; omega)
      | cons c r =>
        have g0 : s.cps[(0 : Int).toNat]? = some c := by rw [← Array.getElem?_toList]; show (sg s)[0]? = _; rw [hc]; rfl
        refine gIxS_of (by decide) (by decide) g0 ?_
        walk_at "sim"
        have : figL (sg s) = !decide ((⟨#[c]⟩ : Str) = Str.ofString "0") := by
          rw [figL_eq]
          rw [d1, d2, hf, decide_eq_false ne, hc]
          by_cases q : c = 48
          · subst q
            rw [decide_eq_true (show (⟨#[48]⟩ : Str) = Str.ofString "0" by decide +kernel)]; rfl
          · rw [decide_eq_false (show ¬ (⟨#[c]⟩ : Str) = Str.ofString "0" from fun z => q (by have := congrArg sg z; rw [z0] at this; exact (List.cons.inj this).1))]
            show (true && true && true && (false || decide (some c ≠ some 48))) = true
            rw [decide_eq_true (show some c ≠ some 48 from fun z => q (Option.some.inj z))]; rfl
        rw [← this]; exact k
theorem ok_read_whole (T : Txt K mg) (d : Df K mg "read_whole" s_read_whole ["text"]) (G_are_figures : Fn P w K mg base "are_figures" 1 ["text"] sFigs) : Fn P w K mg base "read_whole" 2 ["text"] sReadW := by
  have sc := sc_read_whole
  refine fn_by d sc (by walk_at "len") (fun f cdv A outer s H E ds M R Y hr h => ?_)
  have hu := hr.units
  obtain ⟨s, rfl, hs, k⟩ := h
  refine ⟨_, (jds_cons (jds_if (jd_tval (jc G_are_figures hr (jda_cons (jd_var 0) jda_nil))) (jds_one (jds_ret (jd_blty c_intT rfl T.b_int bt_int (jda_cons (jd_var 0) jda_nil)))) jds_nil) (jds_cons (jds_if (jd_tw (jd_and (jtm o_eqS (jd_slS (jd_var 0) jdpo_none (jdpo_some jd_int)) jd_str) (jd_and (jd_tval (jc G_are_figures hr (jda_cons (jd_slS (jd_var 0) (jdpo_some jd_int) jdpo_none) jda_nil))) (jd_and1 (jtm o_neS (jd_var 0) jd_str))))) (jds_one (jds_ret (jd_neg (jd_blty c_intT rfl T.b_int bt_int (jda_cons (jd_slS (jd_var 0) (jdpo_some jd_int) jdpo_none) jda_nil))))) jds_nil) (jds_one (jds_ret jd_non)))), ?_⟩
  walk_at "sim"
  have sl := sz_line hs
  have m0 : sg (Str.ofString "-") = [45] := by decide +kernel
  have e1 : sg (Txt.slice s none (some 1)) = (sg s).take 1 := sl_to s 1
  have e2 : sg (Txt.slice s (some 1) none) = (sg s).drop 1 := sl_from s 1
  refine ⟨hs, fun h => ⟨_, fig_int h, by rw [← sg_len]; have := (fig_all h).1; omega, by rw [rdW_fig h] at k; exact k⟩, fun h => ⟨sl, fun e => ?_, fun e => ?_⟩⟩
  · have e3 : (sg s).take 1 = [45] := by rw [← e1, e, m0]
    obtain ⟨r, hr⟩ := take_one.mp e3
    have e4 : sg (Txt.slice s (some 1) none) = r := by rw [e2, hr]; rfl
    rw [hr] at h k
    rw [rdW_neg h] at k
    refine ⟨sl, Nat.le_trans (Txt.slice_le s _ _) hs, ?_⟩
    have q0 : s = Str.ofString "-0" ↔ r = [48] := by
      rw [sg_is, hr, show sg (Str.ofString "-0") = [45, 48] by decide +kernel]; simp
    refine ⟨fun h1 => ⟨fun h2 => ⟨sl, _, fig_int h1, by rw [← sg_len]; have := (fig_all h1).1; omega, ?_⟩, fun h2 => ?_⟩, fun h1 => ?_⟩
    · rw [e4] at h1 ⊢
      rw [h1, decide_eq_true (show r ≠ [48] from fun z => h2 (q0.mpr z))] at k; exact k
    · rw [decide_eq_false (show ¬ r ≠ [48] from fun z => z (q0.mp h2)), Bool.and_false] at k; exact k
    · rw [e4] at h1
      rw [h1] at k; exact k
  · rw [rdW_no h (fun z => e (sg_inj (by rw [e1, z, m0])))] at k; exact k
theorem okx_read_ratio (T : Txt K mg) (d : Df K mg "read_ratio" s_read_ratio ["text"]) (G_is_ratio : Fn P w K mg base "is_ratio" 2 ["thing"] sIsRat) (G_read_whole : Fn P w K mg base "read_whole" 2 ["text"] sReadW) : FnX P w K mg base "read_ratio" 3 ["text"] sReadR := by
  have sc := sc_read_ratio
  refine fn_byX d sc (by walk_at "len") (fun f cdv A outer s H E ds M R Y hr h => ?_)
  have hu := hr.units
  obtain ⟨x, rfl, k⟩ := h
  rcases k with ⟨s, rfl, hs, k1, k2⟩ | ⟨ho, k⟩
  · skip
    refine ⟨_, (x_cons (x_if (jd_not (jd_tval (jd_blt (c_isi T.sub) rfl T.b_isinstance bt_isinstance (jda_cons (jd_var 0) (jda_cons (jd_ty rfl T.b_str bt_str) jda_nil))))) (x_one (x_raise T.x_NoText rfl rfl jd_str)) x_nil) (x_cons (x_emb (jds_asg (jd_mtS PySem.F.slot_str_partition PySem.F.type_str_partition mt_partition r_partition (jd_var 0) (jda_cons jd_str jda_nil)) (jdg_tup (n := 3) rfl (jdgs_cons (jn 1 sc.nd) (jdgs_cons (jn 2 sc.nd) (jdgs_cons (jn 3 sc.nd) jdgs_nil)))))) (x_cons (x_emb (jst 4 sc.nd (jd_tup (jda_cons (jc G_read_whole hr (jda_cons (jd_var 1) jda_nil)) (jda_cons (jd_ifExp (jtm o_eqS (jd_var 2) jd_str) (jc G_read_whole hr (jda_cons (jd_var 3) jda_nil)) jd_int) jda_nil))))) (x_cons (x_if (jd_tw (jd_or (jd_not (jd_tval (jc G_is_ratio hr (jda_cons (jd_var 4) jda_nil)))) (jd_or1 (jtm o_eqS (jd_var 3) jd_str)))) (x_one (x_raise T.x_NoText rfl rfl jd_str)) x_nil) (x_one (x_emb (jds_ret (jd_var 4)))))))), ?_⟩
    walk_at "sim"
    have sl : Str.ofString "/" = ⟨#[47]⟩ := by decide +kernel
    rw [sl]
    obtain ⟨p1, p2, p3⟩ := part_sg s 47
    obtain ⟨c1, c2⟩ := cutA_le 47 (sg s)
    rw [sg_len] at c1 c2
    rw [p1, p2, p3]
    have one : (Txt.partition s ⟨#[47]⟩).2.2 = Str.ofString "1" ↔ (cutA 47 (sg s)).2.2 = [49] := by
      rw [sg_is, p3, show sg (Str.ofString "1") = [49] by decide +kernel]
    rw [one]
    have fin : ∀ b : Option Int, b = (if (cutA 47 (sg s)).2.1 then rdW (cutA 47 (sg s)).2.2 else some 1) → ((isRt (.tup [optI (rdW (cutA 47 (sg s)).1), optI b]) = false → Y (xN (Str.ofString "NoText")) M) ∧ (isRt (.tup [optI (rdW (cutA 47 (sg s)).1), optI b]) = true →
        ((cutA 47 (sg s)).2.2 = [49] → Y (xN (Str.ofString "NoText")) M) ∧ (¬ (cutA 47 (sg s)).2.2 = [49] → R (D.tup [optI (rdW (cutA 47 (sg s)).1), optI b]) M))) := fun b hb => by
      unfold rdR toldR at k1 k2
      rw [← hb] at k1 k2
      rw [isRt_opt]
      cases ha : rdW (cutA 47 (sg s)).1 with
      | none => rw [ha] at k2; exact ⟨fun _ => k2 rfl, fun z => by cases z⟩
      | some n =>
        cases b with
        | none => rw [ha] at k2; exact ⟨fun _ => k2 rfl, fun z => by cases z⟩
        | some d =>
          rw [ha] at k1 k2
          refine ⟨fun z => k2 ?_, fun z => ⟨fun e => k2 ?_, fun e => ?_⟩⟩
          · have z2 : (decide (1 ≤ d) && decide (Nat.gcd n.natAbs d.natAbs = 1)) = false := z
            show Option.map _ (if (_ && _) = true then _ else _) = none
            rw [z2]; rfl
          · show Option.map _ (if (_ && _) = true then _ else _) = none
            rw [decide_eq_false (show ¬ (cutA 47 (sg s)).2.2 ≠ [49] from fun h => h e), Bool.and_false]; rfl
          · have z2 : (decide (1 ≤ d) && decide (Nat.gcd n.natAbs d.natAbs = 1)) = true := z
            have := k1 (mkRat n d.natAbs) (by
              show Option.map _ (if (_ && _) = true then _ else _) = _
              rw [z2, decide_eq_true (show (cutA 47 (sg s)).2.2 ≠ [49] from e)]; rfl)
            rw [← rat_of z2] at this
            exact this
    refine ⟨by decide, sz_line hs, by rw [← sg_len, p1]; omega, fun h => ⟨by rw [← sg_len, p3]; omega, fl_opt _ _, ?_⟩, fun h => ⟨fl_opt _ (some 1), ?_⟩⟩
    · refine fin _ ?_
      cases hb : (cutA 47 (sg s)).2.1 with
      | true => rfl
      | false => rw [hb] at h; exact absurd h (by decide +kernel)
    · refine fin (some 1) ?_
      cases hb : (cutA 47 (sg s)).2.1 with
      | true => rw [hb] at h; exact absurd rfl h
      | false => rfl
  · cases x with
    | non =>
      refine ⟨_, (x_cons (x_if (jd_not (jd_tval (jd_blt (c_isi T.sub) rfl T.b_isinstance bt_isinstance (jda_cons (jd_var 0) (jda_cons (jd_ty rfl T.b_str bt_str) jda_nil))))) (x_one (x_raise T.x_NoText rfl rfl jd_str)) x_nil) (x_cons (x_emb (jds_asg (jd_mtS PySem.F.slot_str_partition PySem.F.type_str_partition mt_partition r_partition (jd_var 0) (jda_cons jd_str jda_nil)) (jdg_tup (n := 3) rfl (jdgs_cons (jn 1 sc.nd) (jdgs_cons (jn 2 sc.nd) (jdgs_cons (jn 3 sc.nd) jdgs_nil)))))) (x_cons (x_emb (jst 4 sc.nd (jd_tup (jda_cons (jc G_read_whole hr (jda_cons (jd_var 1) jda_nil)) (jda_cons (jd_ifExp (jtm o_eqS (jd_var 2) jd_str) (jc G_read_whole hr (jda_cons (jd_var 3) jda_nil)) jd_int) jda_nil))))) (x_cons (x_if (jd_tw (jd_or (jd_not (jd_tval (jc G_is_ratio hr (jda_cons (jd_var 4) jda_nil)))) (jd_or1 (jtm o_eqS (jd_var 3) jd_str)))) (x_one (x_raise T.x_NoText rfl rfl jd_str)) x_nil) (x_one (x_emb (jds_ret (jd_var 4)))))))), ?_⟩
      walk_at "sim"
      exact k
    | bl b =>
      refine ⟨_, (x_cons (x_if (jd_not (jd_tval (jd_blt (c_isi T.sub) rfl T.b_isinstance bt_isinstance (jda_cons (jd_var 0) (jda_cons (jd_ty rfl T.b_str bt_str) jda_nil))))) (x_one (x_raise T.x_NoText rfl rfl jd_str)) x_nil) (x_cons (x_emb (jds_asg (jd_mtS PySem.F.slot_str_partition PySem.F.type_str_partition mt_partition r_partition (jd_var 0) (jda_cons jd_str jda_nil)) (jdg_tup (n := 3) rfl (jdgs_cons (jn 1 sc.nd) (jdgs_cons (jn 2 sc.nd) (jdgs_cons (jn 3 sc.nd) jdgs_nil)))))) (x_cons (x_emb (jst 4 sc.nd (jd_tup (jda_cons (jc G_read_whole hr (jda_cons (jd_var 1) jda_nil)) (jda_cons (jd_ifExp (jtm o_eqS (jd_var 2) jd_str) (jc G_read_whole hr (jda_cons (jd_var 3) jda_nil)) jd_int) jda_nil))))) (x_cons (x_if (jd_tw (jd_or (jd_not (jd_tval (jc G_is_ratio hr (jda_cons (jd_var 4) jda_nil)))) (jd_or1 (jtm o_eqS (jd_var 3) jd_str)))) (x_one (x_raise T.x_NoText rfl rfl jd_str)) x_nil) (x_one (x_emb (jds_ret (jd_var 4)))))))), ?_⟩
      walk_at "sim"
      exact k
    | int b =>
      refine ⟨_, (x_cons (x_if (jd_not (jd_tval (jd_blt (c_isi T.sub) rfl T.b_isinstance bt_isinstance (jda_cons (jd_var 0) (jda_cons (jd_ty rfl T.b_str bt_str) jda_nil))))) (x_one (x_raise T.x_NoText rfl rfl jd_str)) x_nil) (x_cons (x_emb (jds_asg (jd_mtS PySem.F.slot_str_partition PySem.F.type_str_partition mt_partition r_partition (jd_var 0) (jda_cons jd_str jda_nil)) (jdg_tup (n := 3) rfl (jdgs_cons (jn 1 sc.nd) (jdgs_cons (jn 2 sc.nd) (jdgs_cons (jn 3 sc.nd) jdgs_nil)))))) (x_cons (x_emb (jst 4 sc.nd (jd_tup (jda_cons (jc G_read_whole hr (jda_cons (jd_var 1) jda_nil)) (jda_cons (jd_ifExp (jtm o_eqS (jd_var 2) jd_str) (jc G_read_whole hr (jda_cons (jd_var 3) jda_nil)) jd_int) jda_nil))))) (x_cons (x_if (jd_tw (jd_or (jd_not (jd_tval (jc G_is_ratio hr (jda_cons (jd_var 4) jda_nil)))) (jd_or1 (jtm o_eqS (jd_var 3) jd_str)))) (x_one (x_raise T.x_NoText rfl rfl jd_str)) x_nil) (x_one (x_emb (jds_ret (jd_var 4)))))))), ?_⟩
      walk_at "sim"
      exact k
    | tup b =>
      refine ⟨_, (x_cons (x_if (jd_not (jd_tval (jd_blt (c_isi T.sub) rfl T.b_isinstance bt_isinstance (jda_cons (jd_var 0) (jda_cons (jd_ty rfl T.b_str bt_str) jda_nil))))) (x_one (x_raise T.x_NoText rfl rfl jd_str)) x_nil) (x_cons (x_emb (jds_asg (jd_mtS PySem.F.slot_str_partition PySem.F.type_str_partition mt_partition r_partition (jd_var 0) (jda_cons jd_str jda_nil)) (jdg_tup (n := 3) rfl (jdgs_cons (jn 1 sc.nd) (jdgs_cons (jn 2 sc.nd) (jdgs_cons (jn 3 sc.nd) jdgs_nil)))))) (x_cons (x_emb (jst 4 sc.nd (jd_tup (jda_cons (jc G_read_whole hr (jda_cons (jd_var 1) jda_nil)) (jda_cons (jd_ifExp (jtm o_eqS (jd_var 2) jd_str) (jc G_read_whole hr (jda_cons (jd_var 3) jda_nil)) jd_int) jda_nil))))) (x_cons (x_if (jd_tw (jd_or (jd_not (jd_tval (jc G_is_ratio hr (jda_cons (jd_var 4) jda_nil)))) (jd_or1 (jtm o_eqS (jd_var 3) jd_str)))) (x_one (x_raise T.x_NoText rfl rfl jd_str)) x_nil) (x_one (x_emb (jds_ret (jd_var 4)))))))), ?_⟩
      walk_at "sim"
      exact k
    | vl b =>
      refine ⟨_, (x_cons (x_if (jd_not (jd_tval (jd_blt (c_isi T.sub) rfl T.b_isinstance bt_isinstance (jda_cons (jd_var 0) (jda_cons (jd_ty rfl T.b_str bt_str) jda_nil))))) (x_one (x_raise T.x_NoText rfl rfl jd_str)) x_nil) (x_cons (x_emb (jds_asg (jd_mtS PySem.F.slot_str_partition PySem.F.type_str_partition mt_partition r_partition (jd_var 0) (jda_cons jd_str jda_nil)) (jdg_tup (n := 3) rfl (jdgs_cons (jn 1 sc.nd) (jdgs_cons (jn 2 sc.nd) (jdgs_cons (jn 3 sc.nd) jdgs_nil)))))) (x_cons (x_emb (jst 4 sc.nd (jd_tup (jda_cons (jc G_read_whole hr (jda_cons (jd_var 1) jda_nil)) (jda_cons (jd_ifExp (jtm o_eqS (jd_var 2) jd_str) (jc G_read_whole hr (jda_cons (jd_var 3) jda_nil)) jd_int) jda_nil))))) (x_cons (x_if (jd_tw (jd_or (jd_not (jd_tval (jc G_is_ratio hr (jda_cons (jd_var 4) jda_nil)))) (jd_or1 (jtm o_eqS (jd_var 3) jd_str)))) (x_one (x_raise T.x_NoText rfl rfl jd_str)) x_nil) (x_one (x_emb (jds_ret (jd_var 4)))))))), ?_⟩
      walk_at "sim"
      exact k
    | _ => cases ho
theorem ok__law_found (T : Txt K mg) (d : Df K mg "_law_found" s__law_found ["text"]) (GX_read_ratio : FnX P w K mg base "read_ratio" 3 ["text"] sReadR) : Fn P w K mg base "_law_found" 4 ["text"] sFnd55 := by
  have sc := sc__law_found
  refine fn_by d sc (by walk_at "len") (fun f cdv A outer s H E ds M R Y hr h => ?_)
  have hu := hr.units
  obtain ⟨s, rfl, hs, k⟩ := h
  refine ⟨_, (jds_cons (jst 1 sc.nd jd_non) (jds_cons (jst 2 sc.nd jd_non) (jds_cons (jds_tryN (i := 3) ["NoText"] rfl rfl rfl rfl (tkns_cons T.kn_GlassError__NoText tkns_nil) sc.nd rfl rfl (Or.inl rfl) (fun _ _ _ => (x_one (x_set (i := 2) sc.nd rfl (Or.inl rfl) (x_callE GX_read_ratio (hr.mono (by decide)) rfl (jda_cons (jd_var 0) jda_nil))))) (fun _ _ => (jds_one (jst 1 sc.nd (jd_var 3))))) (jds_cons (jds_if (jtm o_is (jd_var 1) jd_non) (jds_one (jds_ret (jd_fgt (jd_var 2)))) jds_nil) (jds_one (jds_ret (jd_fgt (jx (jd_lstV (jda_cons jd_str (jda_cons jd_non jda_nil))) (jd_blty c_intB rfl T.b_int bt_int (jda_cons (jd_vand (jd_isO [("NoText", true)] rfl T.b_isinstance bt_isinstance rfl T.ki_NoText__NoText (exs_cons T.ke_NoText exs_nil) (jd_var 1)) (jd_vone (jd_isB [("NoText", true)] rfl T.b_isinstance bt_isinstance rfl T.b_ValueError bt_ValueError T.kb_ValueError__NoText (exs_cons T.ke_NoText exs_nil) (jd_var 1)))) jda_nil)))))))))), ?_⟩
  walk_at "sim"
  refine ⟨fun c M' => c = xN "NoText" ∧ M' = M ∧ rdR (sg s) = none, ?_, ?_⟩
  · walk_at "sim"
    refine .inl ⟨s, rfl, hs, fun x hx => ?_, fun hx => hx⟩
    refine ⟨_, rfl, ?_⟩
    walk_at "sim"
    rw [hx] at k
    exact Fgt_of (fun _ _ h => h) k
  · rintro y M' ⟨h, rfl, hn⟩
    have hy : y = "NoText" := by
      unfold xN at h
      injection h
    subst hy
    rw [hn] at k
    refine ⟨List.mem_cons_self, ?_⟩
    walk_at "sim"
    refine ⟨_, rfl, ?_⟩
    walk_at "sim"
    exact ⟨_, true, rfl, List.mem_cons_self, fun _ => ⟨_, true, rfl, List.mem_cons_self, _, rfl, Fgt_of (fun _ _ h => h) k⟩, fun z => (by cases z)⟩
theorem ok__law_draw (T : Txt K mg) (d : Df K mg "_law_draw" s__law_draw ["pool", "base"]) : Fn P w K mg base "_law_draw" 1 ["pool", "base"] spNext := by
  have sc := sc__law_draw
  refine fn_by d sc (fun ds M R Y h => ?_) (fun f cdv A outer s H E ds M R Y hr h => ?_)
  · obtain ⟨p, b, rfl, _⟩ := h; rfl
  · obtain ⟨p, b, rfl, ⟨x, y, z, hM⟩, hb, hl, k⟩ := h
    refine ⟨_, (jds_cons (jds_if (jtm o_gt (jx (jd_var 0) jd_int) jd_int) (jds_cons (jst 2 sc.nd (jd_op o_mod (jx (jd_var 0) jd_int) (jd_var 1))) (jds_cons (jds_asg (jd_op o_fdiv (jx (jd_var 0) jd_int) (jd_var 1)) (jdg_sub (jd_var 0) jd_int)) (jds_one (jds_ret (jd_var 2))))) jds_nil) (jds_cons (jds_asg (jd_op o_add (jx (jd_var 0) jd_int) jd_int) (jdg_sub (jd_var 0) jd_int)) (jds_cons (jst 3 sc.nd (jd_op o_mod (jd_op o_add (jx (jd_var 0) jd_int) (jd_op o_mul jd_int (jx (jd_var 0) jd_int))) jd_int)) (jds_cons (jst 3 sc.nd (jd_op o_mod (jd_op o_mul (jd_op o_add (jd_var 3) jd_int) (jd_op o_add (jd_var 3) jd_int)) jd_int)) (jds_one (jds_ret (jd_op o_mod (jd_op o_fdiv (jd_op o_mod (jd_op o_mul (jd_var 3) (jd_var 3)) jd_int) jd_int) (jd_var 1)))))))), ?_⟩
    refine ⟨_, rfl, _, ixD_lst hM rfl, _, rfl, _, rfl, ?_⟩
    refine iteD (fun h0 => ?_) (fun h0 => ?_)
    · refine ⟨_, rfl, _, ixD_lst hM rfl, _, rfl, _, _, rfl, rfl, hb, ?_⟩
      refine ⟨_, rfl, _, ixD_lst hM rfl, _, rfl, _, _, rfl, rfl, ⟨by omega, hl⟩, _, rfl, _, _, _, _, rfl, rfl, hM, rfl, ?_⟩
      exact ⟨_, rfl, k _ _ (Int.emod_nonneg _ (by omega)) (Int.emod_lt_of_pos _ hb) (PStep.upd _ _ _)⟩
    · refine ⟨_, rfl, _, ixD_lst hM rfl, _, rfl, _, rfl, _, _, _, _, rfl, rfl, hM, rfl, ?_⟩
      refine ⟨_, rfl, _, ixD_lst updM_same rfl, _, rfl, _, ixD_lst updM_same rfl, _, _, rfl, rfl, m64l (by decide) (by decide), _, rfl, _, _, rfl, rfl, (by show (0 : Int) < 1000000007; decide), ?_⟩
      refine ⟨_, rfl, _, rfl, _, rfl, _, rfl, _, _, rfl, rfl, mmod (by decide) (by decide) (by decide) (by decide), _, _, rfl, rfl, (by show (0 : Int) < 998244353; decide), ?_⟩
      refine ⟨_, rfl, _, rfl, _, _, rfl, rfl, mmod0 (by decide) (by decide), _, _, rfl, rfl, (by show (0 : Int) < 2147483647; decide), _, _, rfl, rfl, cfd8, _, rfl, _, _, rfl, rfl, hb, ?_⟩
      exact k _ _ (Int.emod_nonneg _ (by omega)) (Int.emod_lt_of_pos _ hb) (PStep.upd _ _ _)
theorem ok__law_pick__2 (T : Txt K mg) (d : Df K mg "_law_pick" s__law_pick ["pool", "some"]) (G__law_draw : Fn P w K mg base "_law_draw" 1 ["pool", "base"] spNext) : Fn P w K mg base "_law_pick" 2 ["pool", "some"] sPickS := by
  have sc := sc__law_pick
  refine fn_by d sc (by walk_at "len") (fun f cdv A outer s H E ds M R Y hr h => ?_)
  have hu := hr.units
  obtain ⟨p, s, rfl, hp, ⟨h0, h9⟩, k⟩ := h
  refine ⟨_, (jds_one (jds_ret (jd_ixS (jd_var 1) (jc G__law_draw hr (jda_cons (jd_var 0) (jda_cons (jd_blt c_lenS rfl T.b_len bt_len (jda_cons (jd_var 1) jda_nil)) jda_nil)))))), ?_⟩
  walk_at "sim"
  refine ⟨sz_line (by omega), hp, by omega, ?_, fun r M' r0 r1 st => ?_⟩
  · rw [Int.natAbs_natCast]
    exact log_lt (k := 9000) (Nat.lt_of_le_of_lt h9 (Nat.lt_of_lt_of_le (show 900 < 2 ^ 10 by decide) (Nat.pow_le_pow_right (by decide) (by decide)))) (by decide)
  · have hl : r.toNat < (sg s).length := by rw [sg_len]; omega
    have hc : s.cps[r.toNat]? = some (sg s)[r.toNat] := by rw [← Array.getElem?_toList]; exact List.getElem?_eq_getElem hl
    exact gIxS_of r0 (by omega) hc (k _ (List.getElem_mem hl) M' st)
theorem ok__law_sign (T : Txt K mg) (d : Df K mg "_law_sign" s__law_sign ["pool", "some"]) (G__law_pick__2 : Fn P w K mg base "_law_pick" 2 ["pool", "some"] sPickS) (G__law_draw : Fn P w K mg base "_law_draw" 1 ["pool", "base"] spNext) : Fn P w K mg base "_law_sign" 3 ["pool", "some"] sSign := by
  have sc := sc__law_sign
  refine fn_by d sc (by walk_at "len") (fun f cdv A outer s H E ds M R Y hr h => ?_)
  have hu := hr.units
  obtain ⟨p, s, rfl, hp, ⟨⟨h0, h9⟩, ha⟩, k⟩ := h
  refine ⟨_, (jds_cons (jds_if (jtm o_eqI (jc G__law_draw hr (jda_cons (jd_var 0) (jda_cons jd_int jda_nil))) jd_int) (jds_one (jst 1 sc.nd jd_str)) jds_nil) (jds_one (jds_ret (jc G__law_pick__2 hr (jda_cons (jd_var 0) (jda_cons (jd_var 1) jda_nil)))))), ?_⟩
  walk_at "sim"
  refine ⟨hp, by decide, fun r M1 r0 r4 st => ⟨fun _ => ⟨st.pool, ⟨by decide +kernel, by decide +kernel⟩, fun c hc M2 s2 => k c ?_ M2 (st.trans s2)⟩, fun _ => ⟨st.pool, ⟨h0, h9⟩, fun c hc M2 s2 => k c (ha c hc) M2 (st.trans s2)⟩⟩⟩
  revert c
  decide +kernel
theorem ok__law_spoilt (T : Txt K mg) (d : Df K mg "_law_spoilt" s__law_spoilt ["pool", "text"]) (G__law_draw : Fn P w K mg base "_law_draw" 1 ["pool", "base"] spNext) (G__law_sign : Fn P w K mg base "_law_sign" 3 ["pool", "some"] sSign) : Fn P w K mg base "_law_spoilt" 4 ["pool", "text"] sSp55 := by
  have sc := sc__law_spoilt
  refine fn_by d sc (by walk_at "len") (fun f cdv A outer s H E ds M R Y hr h => ?_)
  have hu := hr.units
  obtain ⟨p, s, rfl, hp, ⟨⟨h0, ha⟩, h1, h9⟩, k⟩ := h
  refine ⟨_, (jds_cons (jst 2 sc.nd (jc G__law_draw hr (jda_cons (jd_var 0) (jda_cons (jd_blt c_lenS rfl T.b_len bt_len (jda_cons (jd_var 1) jda_nil)) jda_nil)))) (jds_cons (jst 3 sc.nd (jc G__law_sign hr (jda_cons (jd_var 0) (jda_cons jd_str jda_nil)))) (jds_cons (jst 4 sc.nd (jc G__law_draw hr (jda_cons (jd_var 0) (jda_cons jd_int jda_nil)))) (jds_cons (jds_if (jtm o_eqI (jd_var 4) jd_int) (jds_one (jds_ret (jd_op o_catX (jd_var 1) jd_str))) jds_nil) (jds_cons (jds_if (jtm o_eqI (jd_var 4) jd_int) (jds_one (jds_ret (jd_op o_catX (jd_slS (jd_var 1) jdpo_none (jdpo_some (jd_var 2))) (jd_slS (jd_var 1) (jdpo_some (jd_op o_add (jd_var 2) jd_int)) jdpo_none)))) jds_nil) (jds_cons (jds_if (jtm o_eqI (jd_var 4) jd_int) (jds_one (jds_ret (jd_op o_catX (jd_op o_catX (jd_var 1) jd_str) (jd_var 1)))) jds_nil) (jds_one (jds_ret (jd_op o_catX (jd_op o_catX (jd_slS (jd_var 1) jdpo_none (jdpo_some (jd_var 2))) (jd_var 3)) (jd_slS (jd_var 1) (jdpo_some (jd_op o_add (jd_var 2) (jd_blty c_intB rfl T.b_int bt_int (jda_cons (jm o_eqI (jd_var 4) jd_int) jda_nil)))) jdpo_none)))))))))), ?_⟩
  walk_at "sim"
  have sl := size_line
  have ls := sz_line h0
  refine ⟨ls, hp, by omega, ?_, fun r M1 r0 r1 s1 => ⟨s1.pool, ⟨⟨by decide +kernel, by decide +kernel⟩, by decide +kernel⟩, fun c hc M2 s2 => ⟨s2.pool, by decide, fun u M3 u0 u5 s3 => ?_⟩⟩⟩
  · rw [Int.natAbs_natCast]
    exact log_lt (k := 9000) (Nat.lt_of_le_of_lt h9 (Nat.lt_of_lt_of_le (show 3000 < 2 ^ 12 by decide) (Nat.pow_le_pow_right (by decide) (by decide)))) (by decide)
  have st := (s1.trans s2).trans s3
  obtain ⟨n, rfl⟩ := Int.eq_ofNat_of_zero_le r0
  have hn : n ≤ s.length := by omega
  have l1 := len_to s n
  have one : (⟨#[c]⟩ : Str).length = 1 := rfl
  have q1 : (Str.ofString "/1").length = 2 := by decide +kernel
  have q2 : (Str.ofString "/").length = 1 := by decide +kernel
  have oc : ∀ x ∈ sg (⟨#[c]⟩ : Str), x < 128 := fun x hx => by rw [List.mem_singleton.mp hx]; exact hc
  refine ⟨fun e => ?_, fun e => ⟨fun e1 => ?_, fun e1 => ⟨fun e2 => ?_, fun e2 => ?_⟩⟩⟩
  · exact ⟨by omega, k _ M3 ⟨by rw [cat_len]; omega, asc_cat ha (by decide +kernel)⟩ (by rw [cat_len]; omega) st⟩
  · have l2 := len_from s (n + 1)
    rw [show (n : Int) + 1 = ((n + 1 : Nat) : Int) by omega]
    exact ⟨ls, ls, by omega, k _ M3 ⟨by rw [cat_len]; omega, asc_cat (asc_to ha n) (asc_from ha (n + 1))⟩ (by rw [cat_len]; omega) st⟩
  · exact ⟨by omega, by rw [cat_len]; omega, k _ M3 ⟨by rw [cat_len, cat_len]; omega, asc_cat (asc_cat ha (by decide +kernel)) ha⟩ (by rw [cat_len, cat_len]; omega) st⟩
  · have fin : ∀ m : Nat, n ≤ m → s.length ≤ sizeLine ∧ (Txt.slice s none (some (n : Int))).length + (⟨#[c]⟩ : Str).length ≤ sizeLine ∧ s.length ≤ sizeLine ∧ (Txt.slice s none (some (n : Int)) ++ (⟨#[c]⟩ : Str)).length + (Txt.slice s (some (m : Int)) none).length ≤ sizeLine ∧ R (D.str (Txt.slice s none (some (n : Int)) ++ (⟨#[c]⟩ : Str) ++ Txt.slice s (some (m : Int)) none)) M3 := fun m hm => by
      have l2 := len_from s m
      exact ⟨ls, by omega, ls, by rw [cat_len]; omega, k _ M3 ⟨by rw [cat_len, cat_len]; omega, asc_cat (asc_cat (asc_to ha n) oc) (asc_from ha m)⟩ (by rw [cat_len, cat_len]; omega) st⟩
    by_cases h2 : u = 3
    · rw [if_pos h2, show (n : Int) + 1 = ((n + 1 : Nat) : Int) by omega]
      exact fin (n + 1) (by omega)
    · rw [if_neg h2, Int.add_zero]
      exact fin n (Nat.le_refl _)
theorem ok_whole_text (T : Txt K mg) (d : Df K mg "whole_text" s_whole_text ["number"])  : Fn P w K mg base "whole_text" 1 ["number"] sWhG := by
  have sc := sc_whole_text
  refine fn_by d sc (by walk_at "len") (fun f cdv A outer s H E ds M R Y hr h => ?_)
  have hu := hr.units
  obtain ⟨n, rfl, hn, k⟩ := h
  have sl := size_line
  have tl := tx_len (n := (n.natAbs : Int)) (k := 5000) (by decide) (by rw [Int.natAbs_natCast]; exact hn)
  refine ⟨_, (jds_cons (jst 1 sc.nd (jd_op o_pow jd_int jd_int)) (jds_cons (jst 2 sc.nd (jd_blt c_abs rfl T.b_abs bt_abs (jda_cons (jd_var 0) jda_nil))) (jds_cons (jst 3 sc.nd (jd_lst jda_nil)) (jds_cons (jds_while PassesOwn.never (jtm o_ge (jd_var 2) (jd_var 1)) (jds_cons (jds_asg (jd_blt c_divmod rfl T.b_divmod bt_divmod (jda_cons (jd_var 2) (jda_cons (jd_var 1) jda_nil))) (jdg_tup (n := 2) rfl (jdgs_cons (jn 2 sc.nd) (jdgs_cons (jn 4 sc.nd) jdgs_nil)))) (jds_one (jds_expr (jd_lm PySem.F.slot_list_append PySem.F.type_list_append dm_append (jd_var 3) (jda_cons (jd_mtS PySem.F.slot_str_zfill PySem.F.type_str_zfill mt_zfill r_zfill (jd_blty c_strI rfl T.b_str bt_str (jda_cons (jd_var 4) jda_nil)) (jda_cons jd_int jda_nil)) jda_nil)))))) (jds_cons (jds_expr (jd_lm PySem.F.slot_list_append PySem.F.type_list_append dm_append (jd_var 3) (jda_cons (jd_blty c_strI rfl T.b_str bt_str (jda_cons (jd_var 2) jda_nil)) jda_nil))) (jds_one (jds_ret (jd_fgt (jd_op o_catX (jd_ifExp (jtm o_lt (jd_var 0) jd_int) jd_str jd_str) (jd_joinR rfl rfl T.b_reversed bt_reversed jd_str (jd_var 3))))))))))), ?_⟩
  walk_at "sim"
  refine ⟨⟨by decide, by decide, by decide⟩, fun p hp => ?_⟩
  refine WhileBy (fun m e M' => ∃ (r : Nat) (ps : List Str) (z : Option D), m = r ∧ e = [some (D.int n), some (D.int (10 ^ Int.toNat 60)), some (D.int (r : Int)), some (D.ref p), z] ∧ M' = updM M p (.lst (ps.map D.str)) ∧ sg (tx (n.natAbs : Int)) = sg (tx (r : Int)) ++ (ps.reverse.map sg).flatten ∧ (∀ y ∈ ps, y.length ≤ 60) ∧ 60 * ps.length + (tx (r : Int)).length ≤ 5001) n.natAbs ⟨n.natAbs, [], none, rfl, rfl, rfl, by simp, fun y hy => (by cases hy), by simpa using tl⟩ ?_
  rintro m e M' ⟨r, ps, z, rfl, rfl, rfl, h1, h2, h3⟩
  walk_at "sim"
  rw [unit_eq]
  have lg : ∀ x : Nat, x < 10 ^ 60 → ((x : Int)).natAbs.log2 < 1920 := fun x hx => by
    rw [Int.natAbs_natCast]
    exact log_lt (k := 1920) (Nat.lt_of_lt_of_le hx (Nat.le_trans (show 10 ^ 60 ≤ 2 ^ 200 by decide +kernel) (Nat.pow_le_pow_right (by decide) (by decide)))) (by decide)
  have hps : ps.length ≤ 100 := by omega
  have md : m % 10 ^ 60 < 10 ^ 60 := Nat.mod_lt _ (by decide)
  rw [fdivN, fmodN]
  refine ⟨fun h => ⟨⟨by decide +kernel, by decide +kernel⟩, LMK_of updM_same ⟨lg _ md, 60, rfl, by decide +kernel, App_of updM_same (by rw [List.length_map]; omega) ?_⟩⟩, fun h => LMK_of updM_same ⟨lg _ ?_, App_of updM_same (by rw [List.length_map]; omega) ?_⟩⟩
  · have hm : 10 ^ 60 ≤ m := Int.ofNat_le.mp h
    have hd : m / 10 ^ 60 < m := Nat.div_lt_self (Nat.lt_of_lt_of_le (by decide) hm) (by decide)
    obtain ⟨l1, l2⟩ := zf_len hm
    refine ⟨m / 10 ^ 60, hd, m / 10 ^ 60, ps ++ [Txt.zfill (tx ((m % 10 ^ 60 : Nat) : Int)) 60], _, rfl, rfl, by rw [updM_upd, List.map_append]; rfl, ?_, ?_, ?_⟩
    · rw [List.reverse_append, h1, tx_cut hm]
      show sg (_ ++ _) ++ _ = _ ++ (sg _ ++ (ps.reverse.map sg).flatten)
      rw [show ∀ a b : Str, sg (a ++ b) = sg a ++ sg b from fun a b => Array.toList_append, List.append_assoc]
    · intro y hy
      rcases List.mem_append.mp hy with q | q
      · exact h2 y q
      · rw [List.mem_singleton.mp q]; omega
    · rw [List.length_append]
      show 60 * (ps.length + 1) + _ ≤ 5001
      omega
  · have : ¬ ((10 ^ 60 : Nat) : Int) ≤ (m : Int) := h
    omega
  · have ks := tx_sign n
    have jn : Txt.join (Str.ofString "") (ps ++ [tx (m : Int)]).reverse = tx (n.natAbs : Int) := sg_inj (by
      rw [join_sg, List.reverse_append, h1]; rfl)
    have it : itemsD (updM (updM M p (.lst (ps.map D.str))) p (.lst (ps.map D.str ++ [D.str (tx (m : Int))]))) (D.ref p) = some ((ps ++ [tx (m : Int)]).map D.str) := by
      simp only [itemsD, updM_same, List.map_append]; rfl
    have sm : JoinSm (Str.ofString "") ((ps ++ [tx (m : Int)]).reverse) := by
      refine ⟨?_, by decide +kernel⟩
      have := join_sum h2
      rw [List.length_reverse, List.map_reverse, List.sum_reverse, List.map_append, List.sum_append, List.length_append]
      show _ + ((tx (m : Int)).length + 0) + (ps.length + 1) ≤ 1048576
      omega
    have kp : Exd M (updM (updM M p (.lst (ps.map D.str))) p (.lst (ps.map D.str ++ [D.str (tx (m : Int))]))) := fun a o h => by
      have ne : a ≠ p := fun e => by rw [e, hp] at h; cases h
      rw [updM_ne ne, updM_ne ne]; exact h
    refine ⟨fun hneg => ⟨_, _, rfl, it, sm, ?_, Fgt_of (M2 := M) kp ?_⟩, fun hneg => ⟨_, _, rfl, it, sm, ?_, Fgt_of (M2 := M) kp ?_⟩⟩
    · rw [jn, show (Str.ofString "-").length = 1 by decide +kernel]; omega
    · rw [if_pos hneg] at ks
      rw [jn, ks]; exact k
    · rw [jn, show (Str.ofString "").length = 0 by decide +kernel]; omega
    · rw [if_neg hneg] at ks
      rw [jn, ks]; exact k
theorem ok_ratio_text (T : Txt K mg) (d : Df K mg "ratio_text" s_ratio_text ["one"]) (G_whole_text : Fn P w K mg base "whole_text" 1 ["number"] sWhG) (G_is_ratio : Fn P w K mg base "is_ratio" 2 ["thing"] sIsRat) : Fn P w K mg base "ratio_text" 3 ["one"] sRtG := by
  have sc := sc_ratio_text
  refine fn_by d sc (by walk_at "len") (fun f cdv A outer s H E ds M R Y hr h => ?_)
  have hu := hr.units
  obtain ⟨q, rfl, ⟨hn, hd⟩, k⟩ := h
  have h1 := tx_len (n := q.num) (k := 5000) (by decide) hn
  have h2 := tx_len (n := (q.den : Int)) (k := 5000) (by decide) (by rw [Int.natAbs_natCast]; exact hd)
  have sl := size_line
  have e1 : (Str.ofString "/").length = 1 := by decide +kernel
  refine ⟨_, (jds_cons (jds_if (jd_not (jd_tval (jc G_is_ratio hr (jda_cons (jd_var 0) jda_nil)))) (jds_one jds_never) jds_nil) (jds_cons (jds_asg (jd_var 0) (jdg_tup (n := 2) rfl (jdgs_cons (jn 1 sc.nd) (jdgs_cons (jn 2 sc.nd) jdgs_nil)))) (jds_cons (jds_if (jtm o_eqI (jd_var 2) jd_int) (jds_one (jds_ret (jc G_whole_text hr (jda_cons (jd_var 1) jda_nil)))) jds_nil) (jds_one (jds_ret (jd_op o_catX (jd_op o_catX (jc G_whole_text hr (jda_cons (jd_var 1) jda_nil)) jd_str) (jc G_whole_text hr (jda_cons (jd_var 2) jda_nil)))))))), ?_⟩
  walk_at "sim"
  refine ⟨rfl, fun h => (by rw [isRt_rat] at h; cases h), fun _ => ⟨fun h => ⟨hn, ?_⟩, fun h => ⟨hn, by omega, by rw [Int.natAbs_natCast]; exact hd, by rw [cat_len]; omega, ?_⟩⟩⟩
  · have k : R (.str (rtx q)) M := k
    unfold rtx at k
    rw [if_pos (by omega)] at k; exact k
  · have k : R (.str (rtx q)) M := k
    unfold rtx at k
    rw [if_neg (by omega)] at k; exact k
theorem ok__law_pick (T : Txt K mg) (d : Df K mg "_law_pick" s__law_pick ["pool", "some"]) (G__law_draw : Fn P w K mg base "_law_draw" 1 ["pool", "base"] spNext) : Fn P w K mg base "_law_pick" 2 ["pool", "some"] sPick := by
  have sc := sc__law_pick
  refine fn_by d sc (by walk_at "len") (fun f cdv A outer s H E ds M R Y hr h => ?_)
  have hu := hr.units
  obtain ⟨p, xs, rfl, hp, ⟨h0, h1⟩, k⟩ := h
  refine ⟨_, (jds_one (jds_ret (jx (jd_var 1) (jc G__law_draw hr (jda_cons (jd_var 0) (jda_cons (jd_blt c_len rfl T.b_len bt_len (jda_cons (jd_var 1) jda_nil)) jda_nil)))))), ?_⟩
  walk_at "sim"
  refine ⟨hp, by omega, len_log h1, fun r M1 r0 r1 s1 => ?_⟩
  obtain ⟨z, e, hz⟩ := atI_mem r0 r1
  exact ⟨z, e, k z hz M1 s1⟩
theorem ok__law_ratio_text (T : Txt K mg) (d : Df K mg "_law_ratio_text" s__law_ratio_text ["one"])  : Fn P w K mg base "_law_ratio_text" 1 ["one"] sRtL := by
  have sc := sc__law_ratio_text
  refine fn_by d sc (by walk_at "len") (fun f cdv A outer s H E ds M R Y hr h => ?_)
  have hu := hr.units
  obtain ⟨q, rfl, hq, k⟩ := h
  refine ⟨_, (jds_cons (jds_if (jtm o_eqI (jx (jd_var 0) jd_int) jd_int) (jds_one (jds_ret (jd_blty c_strI rfl T.b_str bt_str (jda_cons (jx (jd_var 0) jd_int) jda_nil)))) jds_nil) (jds_one (jds_ret (jd_op o_catX (jd_op o_catX (jd_blty c_strI rfl T.b_str bt_str (jda_cons (jx (jd_var 0) jd_int) jda_nil)) jd_str) (jd_blty c_strI rfl T.b_str bt_str (jda_cons (jx (jd_var 0) jd_int) jda_nil)))))), ?_⟩
  walk_at "sim"
  have sl := size_line
  have h1 := gr_len hq
  have n1 := gr_log hq.1
  have n2 := gr_log hq.2
  refine ⟨fun e => ⟨n1, ?_⟩, fun e => ⟨n1, ?_⟩⟩
  · have : rtx q = tx q.num := if_pos (by omega)
    rw [this] at k; exact k
  · have e2 : rtx q = tx q.num ++ Str.ofString "/" ++ tx (q.den : Int) := if_neg (by omega)
    rw [e2] at k h1
    rw [cat_len] at h1
    have h2 := h1
    rw [cat_len] at h2
    exact ⟨Nat.le_trans (show (tx q.num).length + (Str.ofString "/").length ≤ 1000000 by omega) sl, by rw [Int.natAbs_natCast]; exact n2, Nat.le_trans (show (tx q.num ++ Str.ofString "/").length + (tx (q.den : Int)).length ≤ 1000000 by omega) sl, k⟩
theorem ok__law_number (T : Txt K mg) (d : Df K mg "_law_number" s__law_number ["pool"]) (G__law_draw : Fn P w K mg base "_law_draw" 1 ["pool", "base"] spNext) (G__law_ratio : Fn P w K mg base "_law_ratio" 1 ["top", "bottom"] spLow) : Fn P w K mg base "_law_number" 2 ["pool"] spNumber := by
  have sc := sc__law_number
  refine fn_by d sc (fun ds M R Y h => ?_) (fun f cdv A outer s H E ds M R Y hr h => ?_)
  · obtain ⟨p, rfl, _⟩ := h; rfl
  · obtain ⟨p, rfl, hp, k⟩ := h
    refine ⟨_, (jds_cons (jst 1 sc.nd (jc G__law_draw hr (jda_cons (jd_var 0) (jda_cons jd_int jda_nil)))) (jds_cons (jds_if (jtm o_eqI (jd_var 1) jd_int) (jds_one (jds_ret (jd_tup (jda_cons jd_int (jda_cons jd_int jda_nil))))) jds_nil) (jds_cons (jds_if (jtm o_lt (jd_var 1) jd_int) (jds_one (jds_ret (jd_tup (jda_cons (jd_op o_sub (jc G__law_draw hr (jda_cons (jd_var 0) (jda_cons jd_int jda_nil))) jd_int) (jda_cons jd_int jda_nil))))) jds_nil) (jds_cons (jds_if (jtm o_lt (jd_var 1) jd_int) (jds_one (jds_ret (jc G__law_ratio hr (jda_cons (jd_op o_sub (jc G__law_draw hr (jda_cons (jd_var 0) (jda_cons jd_int jda_nil))) jd_int) (jda_cons (jd_op o_add jd_int (jc G__law_draw hr (jda_cons (jd_var 0) (jda_cons jd_int jda_nil)))) jda_nil))))) jds_nil) (jds_one (jds_ret (jc G__law_ratio hr (jda_cons (jd_op o_sub (jc G__law_draw hr (jda_cons (jd_var 0) (jda_cons (jd_op o_pow jd_int jd_int) jda_nil))) (jc G__law_draw hr (jda_cons (jd_var 0) (jda_cons (jd_op o_pow jd_int jd_int) jda_nil)))) (jda_cons (jd_op o_add jd_int (jc G__law_draw hr (jda_cons (jd_var 0) (jda_cons (jd_op o_sub (jd_op o_pow jd_int jd_int) jd_int) jda_nil)))) jda_nil))))))))), ?_⟩
    refine ⟨_, rfl, p, _, rfl, hp, by decide, by decide, fun r M1 r0 r1 s1 => ?_⟩
    refine ⟨_, rfl, _, rfl, _, rfl, ?_⟩
    refine iteD (fun h1 => ?_) (fun h1 => ?_)
    · refine ⟨sl 2, ?_⟩
      exact k 0 _ (by decide) s1
    · refine ⟨_, rfl, _, rfl, _, rfl, ?_⟩
      refine iteD (fun h2 => ?_) (fun h2 => ?_)
      · refine ⟨_, rfl, p, _, rfl, s1.pool, by decide, by decide, fun t M2 t0 t1 s2 => ?_⟩
        refine ⟨_, rfl, sl 2, ?_⟩
        have e := k ((t - 4 : Int) : Rat) M2 (sz_int (by decide) (by omega)) (s1.trans s2)
        rw [ratD_int] at e
        exact e
      · refine ⟨_, rfl, _, rfl, _, rfl, ?_⟩
        refine iteD (fun h3 => ?_) (fun h3 => ?_)
        · refine ⟨_, rfl, p, _, rfl, s1.pool, by decide, by decide, fun t M2 t0 t1 s2 => ?_⟩
          refine ⟨_, rfl, _, rfl, p, _, rfl, s2.pool, by decide, by decide, fun u M3 u0 u1 s3 => ?_⟩
          refine ⟨_, rfl, _, _, rfl, by omega, log_lt (k := 9000) (by exact Nat.lt_of_lt_of_le (show (1 + u).natAbs < 2 ^ 5 by omega) (Nat.pow_le_pow_right (by decide) (by decide))) (by decide), ?_⟩
          exact k _ _ (low_sz (by decide) (by omega) (by omega) (by omega)) (s1.trans (s2.trans s3))
        · have e11 : (10 : Int) ^ Int.toNat 11 = 100000000000 := by decide
          refine ⟨_, rfl, _, _, rfl, rfl, cp11, p, _, rfl, s1.pool, by decide, by decide, fun t M2 t0 t1 s2 => ?_⟩
          refine ⟨_, rfl, _, _, rfl, rfl, cp11, p, _, rfl, s2.pool, by decide, by decide, fun u M3 u0 u1 s3 => ?_⟩
          refine ⟨_, rfl, _, rfl, _, _, rfl, rfl, cp11, _, rfl, p, _, rfl, s3.pool, by decide, by decide, fun v M4 v0 v1 s4 => ?_⟩
          rw [e11] at t1 u1 v1
          refine ⟨_, rfl, _, _, rfl, by omega, log_lt (k := 9000) (by exact Nat.lt_of_lt_of_le (show (1 + v).natAbs < 2 ^ 40 by omega) (Nat.pow_le_pow_right (by decide) (by decide))) (by decide), ?_⟩
          exact k _ _ (low_sz (by decide) (by omega) (by omega) (by omega)) (s1.trans (s2.trans (s3.trans s4)))
theorem ok__law_great (T : Txt K mg) (d : Df K mg "_law_great" s__law_great ["pool"]) (G__law_number : Fn P w K mg base "_law_number" 2 ["pool"] spNumber) (G__law_pick : Fn P w K mg base "_law_pick" 2 ["pool", "some"] sPick) (G__law_ratio : Fn P w K mg base "_law_ratio" 1 ["top", "bottom"] spLow) (G__law_draw : Fn P w K mg base "_law_draw" 1 ["pool", "base"] spNext) : Fn P w K mg base "_law_great" 3 ["pool"] sGreat := by
  have sc := sc__law_great
  refine fn_by d sc (by walk_at "len") (fun f cdv A outer s H E ds M R Y hr h => ?_)
  have hu := hr.units
  obtain ⟨p, rfl, hp, k⟩ := h
  refine ⟨_, (jds_cons (jst 1 sc.nd (jc G__law_draw hr (jda_cons (jd_var 0) (jda_cons jd_int jda_nil)))) (jds_cons (jds_if (jtm o_eqI (jd_var 1) jd_int) (jds_one (jds_ret (jc G__law_ratio hr (jda_cons (jd_op o_sub (jc G__law_draw hr (jda_cons (jd_var 0) (jda_cons (jd_op o_pow jd_int jd_int) jda_nil))) (jc G__law_draw hr (jda_cons (jd_var 0) (jda_cons (jd_op o_pow jd_int jd_int) jda_nil)))) (jda_cons (jd_op o_add jd_int (jc G__law_draw hr (jda_cons (jd_var 0) (jda_cons (jd_op o_pow jd_int jd_int) jda_nil)))) jda_nil))))) jds_nil) (jds_cons (jds_if (jtm o_eqI (jd_var 1) jd_int) (jds_one (jds_ret (jd_tup (jda_cons (jd_neg (jd_blty c_intT rfl T.b_int bt_int (jda_cons (jd_op o_mulS jd_str (jc G__law_pick hr (jda_cons (jd_var 0) (jda_cons (jd_lstV (jda_cons jd_int (jda_cons jd_int (jda_cons jd_int (jda_cons jd_int jda_nil))))) jda_nil)))) jda_nil))) (jda_cons jd_int jda_nil))))) jds_nil) (jds_one (jds_ret (jc G__law_number hr (jda_cons (jd_var 0) jda_nil))))))), ?_⟩
  walk_at "sim"
  have e60 : (10 : Int) ^ Int.toNat 60 < 2 ^ 200 := by decide +kernel
  have p60 : (0 : Int) < 10 ^ Int.toNat 60 := by decide +kernel
  have l60 : ((10 : Int) ^ Int.toNat 60).natAbs.log2 < 9000 := Nat.lt_of_lt_of_le (log_lt (k := 200) (show ((10 : Int) ^ Int.toNat 60).natAbs < 2 ^ 200 by decide +kernel) (by decide)) (by decide)
  have c60 : CPow 10 60 := ⟨by decide, by decide, by decide⟩
  generalize (10 : Int) ^ Int.toNat 60 = T60 at *
  refine ⟨hp, by decide, fun r M1 r0 r5 s1 => ⟨fun _ => ⟨c60, s1.pool, p60, l60, fun a M2 a0 a1 s2 => ⟨c60, s2.pool, p60, l60, fun b M3 b0 b1 s3 => ⟨c60, s3.pool, p60, l60, fun c M4 c0 c1 s4 => ⟨by omega, ?_, ?_⟩⟩⟩⟩, fun _ => ⟨fun _ => ⟨s1.pool, fun d hd M2 s2 => ?_⟩, fun _ => ⟨s1.pool, fun q M2 hq s2 => k q M2 (gr_sz (by omega)) (s1.trans s2)⟩⟩⟩⟩
  · have : (2 : Int) ^ 200 = ((2 ^ 200 : Nat) : Int) := by decide +kernel
    exact Nat.lt_of_lt_of_le (log_lt (k := 201) (Nat.lt_of_le_of_lt (show (1 + c).natAbs ≤ 2 ^ 200 by omega) (by decide +kernel)) (by decide)) (by decide)
  · have h2 : (2 : Int) ^ 200 = ((2 ^ 200 : Nat) : Int) := by decide +kernel
    have h3 : (2 ^ 200 : Nat) < 2 ^ 201 := by decide +kernel
    refine k _ _ (gr_sz (Nat.le_trans (low_sz (n := 201) (by decide) ?_ ?_ (by omega)) (by decide))) (s1.trans (s2.trans (s3.trans s4)))
    · generalize (2 ^ 201 : Nat) = B at *
      generalize (2 ^ 200 : Nat) = C at *
      omega
    · generalize (2 ^ 201 : Nat) = B at *
      generalize (2 ^ 200 : Nat) = C at *
      omega
  · have key : ∀ n : Nat, 1 ≤ n → n ≤ 300 → gMulS (D.str (Str.ofString "9")) (.int (n : Int)) M2 fun x M1 => gIntT [x] M1 fun x M1 => gU (fun i => D.int (-i)) x M1 fun x M1 => R (D.tup [x, D.int 1]) M1 := fun n n0 n1 => by
      have sn := sg_nine n
      have hl := congrArg List.length sn
      rw [sg_len, List.length_replicate] at hl
      refine ⟨_, _, rfl, rfl, m9 n n0 (by omega), _, _, rfl, rep_int sn (by decide) n0 (by omega), by omega, _, rfl, ?_⟩
      have lt := rep_lt (k := n) (c := 57) (by decide) (by decide) n0
      have lt3 := Nat.lt_of_lt_of_le lt (Nat.pow_le_pow_right (n := 10) (by decide) n1)
      have e := k (mkRat (-((PySem.NumText.digitsVal (List.replicate n 57) : Nat) : Int)) 1) M2 (gr_neg lt3) (s1.trans s2)
      rw [rat_one] at e
      exact e
    simp only [List.mem_cons, List.not_mem_nil, or_false] at hd
    rcases hd with rfl | rfl | rfl | rfl
    · exact key 1 (by decide) (by decide)
    · exact key 2 (by decide) (by decide)
    · exact key 40 (by decide) (by decide)
    · exact key 300 (by decide) (by decide)
theorem ok__law_pool (T : Txt K mg) (d : Df K mg "_law_pool" s__law_pool ["cell"]) : Fn P w K mg base "_law_pool" 1 ["cell"] spPool := by
  have sc := sc__law_pool
  refine fn_by d sc (fun ds M R Y h => ?_) (fun f cdv A outer s H E ds M R Y hr h => ?_)
  · obtain ⟨c, rfl, _⟩ := h; rfl
  · obtain ⟨c, rfl, k⟩ := h
    refine ⟨_, (jds_one (jds_ret (jd_lst (jda_cons (jd_blt (c_max rfl) rfl T.b_max bt_max (jda_cons jd_int (jda_cons (jd_op o_sub (jd_var 0) (jd_op o_pow jd_int jd_int)) jda_nil))) (jda_cons (jd_op o_mod (jd_var 0) (jd_op o_pow jd_int jd_int)) (jda_cons jd_int jda_nil)))))), ?_⟩
    refine ⟨_, rfl, _, _, rfl, rfl, cp18, _, rfl, _, _, rfl, _, rfl, _, _, rfl, rfl, cp18, _, _, rfl, rfl, (by show (0 : Int) < 10 ^ 18; decide), sl 3, fun p hp => ?_⟩
    exact k p _ hp (MK.new hp) ⟨_, _, _, updM_same⟩
theorem ok_law {f : Addr} {fd : FuncData} (T : Txt K mg) (d : FunD K "law" s_law f fd) (hdig : base.NoDigits) (G__law_same : Fn P w K mg base "_law_same" 5 ["found", "due"] (sSameT 4)) (G__law_read_ratio : Fn P w K mg base "_law_read_ratio" 2 ["text"] sLRdR) (G__law_found : Fn P w K mg base "_law_found" 4 ["text"] sFnd55) (G__law_spoilt : Fn P w K mg base "_law_spoilt" 4 ["pool", "text"] sSp55) (G_ratio_text : Fn P w K mg base "ratio_text" 3 ["one"] sRtG) (G__law_pick : Fn P w K mg base "_law_pick" 2 ["pool", "some"] sPick) (G__law_ratio_text : Fn P w K mg base "_law_ratio_text" 1 ["one"] sRtL) (G__law_great : Fn P w K mg base "_law_great" 3 ["pool"] sGreat) (G__law_pool : Fn P w K mg base "_law_pool" 1 ["cell"] spPool) (GX_read_ratio : FnX P w K mg base "read_ratio" 3 ["text"] sReadR) : FnOk P w K mg base CX0 6 f fd ["script"] (upSp K spLaw) := by
  have sc := sc_law
  refine fn_ok d sc (fun ds M R Y h => by obtain ⟨n, rfl, _⟩ := h; rfl) (fun cdv A outer s H E ds M R Y hr h => ?_)
  obtain ⟨ns, rfl, hlen, k⟩ := h
  have hu := hr.units
  refine ⟨_, (jds_cons (jds_forI PassesOwn.never rfl (jpd_seq (jd_catV (jd_var 0) (jd_lstV (jda_cons jd_int (jda_cons jd_int (jda_cons jd_int jda_nil)))))) (jn 1 sc.nd) (jds_cons (jst 2 sc.nd (jc G__law_pool hr (jda_cons (jd_var 1) jda_nil))) (jds_cons (jst 3 sc.nd (jc G__law_great hr (jda_cons (jd_var 2) jda_nil))) (jds_cons (jst 4 sc.nd (jc G__law_ratio_text hr (jda_cons (jd_var 3) jda_nil))) (jds_cons (jds_if (jd_tw (jd_or (jtm o_neS (jc G_ratio_text hr (jda_cons (jd_var 3) jda_nil)) (jd_var 4)) (jd_or1 (jd_not (jd_tval (jc G__law_same hr (jda_cons (jc (FnX.nox GX_read_ratio) hr (jda_cons (jd_var 4) jda_nil)) (jda_cons (jd_var 3) jda_nil)))))))) (jds_one (jds_ret jd_bl)) jds_nil) (jds_cons (jst 5 sc.nd (jd_op o_mulS jd_str (jc G__law_pick hr (jda_cons (jd_var 2) (jda_cons (jd_lstV (jda_cons jd_int (jda_cons jd_int (jda_cons jd_int jda_nil)))) jda_nil))))) (jds_cons (jds_if (jd_tw (jd_or (jtm o_neS (jc G_ratio_text hr (jda_cons (jd_tup (jda_cons (jd_blty (c_intTL hdig) rfl T.b_int bt_int (jda_cons (jd_var 5) jda_nil)) (jda_cons jd_int jda_nil))) jda_nil)) (jd_op o_catX (jd_var 5) jd_str)) (jd_or1 (jtm o_neS (jc G_ratio_text hr (jda_cons (jd_tup (jda_cons (jd_neg (jd_blty (c_intTL hdig) rfl T.b_int bt_int (jda_cons (jd_var 5) jda_nil))) (jda_cons jd_int jda_nil))) jda_nil)) (jd_op o_catX jd_str (jd_var 5)))))) (jds_one (jds_ret jd_bl)) jds_nil) (jds_one (jds_forI PassesOwn.never rfl (jpd_rng rfl T.b_range (jda_cons jd_int jda_nil)) (jn 6 sc.nd) (jds_cons (jst 4 sc.nd (jc G__law_spoilt hr (jda_cons (jd_var 2) (jda_cons (jd_op o_catX (jd_var 4) (jd_op o_mulS jd_str (jd_blty c_intB rfl T.b_int bt_int (jda_cons (jm o_eqS (jd_var 4) jd_str) jda_nil)))) jda_nil)))) (jds_one (jds_if (jd_not (jd_tval (jc G__law_same hr (jda_cons (jc G__law_found hr (jda_cons (jd_var 4) jda_nil)) (jda_cons (jc G__law_read_ratio hr (jda_cons (jd_var 4) jda_nil)) jda_nil))))) (jds_one (jds_ret jd_bl)) jds_nil)))))))))))) (jds_one (jds_ret jd_bl))), ?_⟩
  walk_at "sim"
  refine ⟨Nat.le_trans (by rw [List.length_map]; omega) (show 1000 ≤ sizeLine by decide), ?_⟩
  refine ForK.by (fun i e M' => ∃ x1 x2 x3 x4 x5 x6 : Option D, e = [some (.vl (ns.map D.int)), x1, x2, x3, x4, x5, x6]) ⟨_, _, _, _, _, _, rfl⟩ (fun i e M' _ _ => by simp only [seqD_vl]) ?_ ?_
  · rintro i dd e M' hd ⟨x1, x2, x3, x4, x5, x6, rfl⟩
    obtain ⟨n, rfl⟩ : ∃ n : Int, dd = .int n := by
      have hm := List.mem_of_getElem? hd
      rcases List.mem_append.mp hm with hm | hm
      · obtain ⟨n, _, rfl⟩ := List.mem_map.mp hm
        exact ⟨n, rfl⟩
      · simp only [List.mem_cons, List.not_mem_nil, or_false] at hm
        rcases hm with rfl | rfl | rfl <;> exact ⟨_, rfl⟩
    walk_at "sim"
    refine fun p M1 hp mk hP => ⟨hP, fun q M2 hq s2 => ⟨hq, gr_five hq, .inl ⟨_, rfl, ?_, fun q1 hq1 => ?_, fun hn => ?_⟩⟩⟩
    · have := gr_len hq; omega
    rotate_left
    · rw [rdR_tx hq.1 hq.2] at hn; cases hn
    obtain rfl : q = q1 := by rw [rdR_tx hq.1 hq.2] at hq1; exact Option.some.inj hq1
    refine ⟨.inl (.inl rfl), rfl, s2.pool, fun d hd M3 s3 => ?_⟩
    obtain ⟨kk, k1, k4, rfl⟩ : ∃ kk : Nat, 1 ≤ kk ∧ kk ≤ 4000 ∧ d = .int (kk : Int) := by
      simp only [List.mem_cons, List.not_mem_nil, or_false] at hd
      rcases hd with rfl | rfl | rfl
      · exact ⟨1, by decide, by decide, rfl⟩
      · exact ⟨299, by decide, by decide, rfl⟩
      · exact ⟨4000, by decide, by decide, rfl⟩
    refine ⟨_, _, rfl, rfl, mul_ok (by decide +kernel) (by omega) (by omega), ?_⟩
    have s7 := sg_rep 55 (Str.ofString "7") (by decide +kernel) kk
    generalize Txt.mul (Str.ofString "7") (kk : Int) = w7 at *
    have l7 := congrArg List.length s7
    rw [sg_len, List.length_replicate] at l7
    have d7 : PySem.NumText.AllDigits w7.cps.toList := by rw [show w7.cps.toList = List.replicate kk 55 from s7]; exact rep_dig (by decide)
    have i7 := rep_int s7 (by decide) k1 (by omega)
    obtain ⟨t1, t2⟩ := sev_txt s7 k1
    have b7 : PySem.NumText.digitsVal (List.replicate kk 55) < 10 ^ 5000 := Nat.lt_of_lt_of_le (rep_lt (k := kk) (c := 55) (by decide) (by decide) k1) (Nat.pow_le_pow_right (by decide) (by omega))
    have o5 : 10 < 10 ^ 5000 := Nat.lt_of_lt_of_le (show 10 < 10 ^ 2 by decide) (Nat.pow_le_pow_right (by decide) (by decide))
    have o6 : 1 < 10 ^ 5000 := Nat.lt_of_lt_of_le (show 1 < 10 ^ 2 by decide) (Nat.pow_le_pow_right (by decide) (by decide))
    refine ⟨_, _, rfl, d7, i7, by omega, ?_⟩
    show sRtG [D.tup [D.int _, D.int 10]] _ _ _
    rw [sev_rat k1]
    have sk := sev_mk k1
    have so := mk_one (-((PySem.NumText.digitsVal (List.replicate kk 55) : Nat) : Int))
    have rr := rat_one (-((PySem.NumText.digitsVal (List.replicate kk 55) : Nat) : Int))
    generalize mkRat (-((PySem.NumText.digitsVal (List.replicate kk 55) : Nat) : Int)) 1 = qn at *
    generalize mkRat ((PySem.NumText.digitsVal (List.replicate kk 55) : Nat) : Int) 10 = qp at *
    generalize PySem.NumText.digitsVal (List.replicate kk 55) = D7 at *
    have sl := size_line
    have z1 : (Str.ofString "/10").length = 3 := by decide +kernel
    have z2 : (Str.ofString "-").length = 1 := by decide +kernel
    walk_at "sim"
    refine ⟨⟨by rw [sk.1, Int.natAbs_natCast]; exact b7, by rw [sk.2]; exact o5⟩, by omega, fun z => absurd t1 z, fun _ => ⟨_, _, rfl, d7, i7, by omega, ?_⟩⟩
    walk_at "sim"
    rw [← rr]
    walk_at "sim"
    refine ⟨⟨by rw [so.1, Int.natAbs_neg, Int.natAbs_natCast]; exact b7, by rw [so.2]; exact o6⟩, by omega, fun z => absurd t2 z, fun _ => ⟨by decide, ?_⟩⟩
    refine ForK.by (fun i e M => ∃ (t : Str) (z6 : Option D), (Asc t ∧ t.length + 2 ≤ 700 * 2 ^ i) ∧ PoolAt M p ∧ e = [some (D.vl (List.map D.int ns)), some (D.int n), some (D.ref p), some (ratD q), some (.str t), some (.str w7), z6]) ⟨rtx q, _, ⟨⟨by have := gr_len hq; omega, rtx_asc q⟩, by have := gr_len hq; omega⟩, s3.pool, rfl⟩ (fun _ _ _ _ _ => trivial) ?_ ?_
    · rintro j dj e M6 hj ⟨t, z6, ⟨ta, tl⟩, hp6, rfl⟩
      have j3 : j < 3 := by
        have := (List.getElem?_eq_some_iff.mp hj).1
        rw [rangeD_length] at this; exact this
      have j4 : 2 ^ j ≤ 4 := show 2 ^ j ≤ 2 ^ 2 from Nat.pow_le_pow_right (by decide) (by omega)
      have j1 : 1 ≤ 2 ^ j := Nat.one_le_two_pow
      have jn : 2 ^ (j + 1) = 2 * 2 ^ j := by rw [Nat.pow_succ]; omega
      rw [jn]
      generalize 2 ^ j = J at *
      walk_at "sim"
      obtain ⟨Z, hZ, mo, zl, za, z1⟩ : ∃ Z : Str, Txt.mul (Str.ofString "0") (if t = Str.ofString "" then 1 else 0) = Z ∧ MulOk (Str.ofString "0") (if t = Str.ofString "" then 1 else 0) ∧ Z.length ≤ 1 ∧ (∀ c ∈ sg Z, c < 128) ∧ 1 ≤ (t ++ Z).length ∧ (t.length + Z.length ≤ max 1 t.length) := by
        by_cases he : t = Str.ofString ""
        · rw [if_pos he]
          have := zero_mul true
          rw [if_pos rfl, if_pos rfl] at this
          exact ⟨_, this.2, this.1, by decide +kernel, by decide +kernel, by rw [he]; decide +kernel, by rw [he]; decide +kernel⟩
        · rw [if_neg he]
          have := zero_mul false
          rw [if_neg (by decide), if_neg (by decide)] at this
          have l0 : Str.empty.length = 0 := rfl
          have : t.length ≠ 0 := fun z => he (sg_inj (by rw [List.length_eq_zero_iff.mp ((sg_len t).trans z)]; decide +kernel))
          refine ⟨_, (zero_mul false).2, (zero_mul false).1, by decide +kernel, by decide +kernel, by rw [cat_len]; omega, ?_⟩
          show t.length + Str.empty.length ≤ _
          omega
      rw [hZ]
      refine ⟨mo, by omega, hp6, ⟨⟨by rw [cat_len]; omega, asc_cat ta.2 za⟩, z1.1, by rw [cat_len]; omega⟩, fun t2 M7 h2 h3 s7 => ⟨h2.1, h2, .inl (.inl rfl), ?_, t2, _, ⟨h2, ?_⟩, s7.pool, rfl⟩⟩
      · cases rdR (sg t2) <;> rfl
      · rw [cat_len] at h3; omega
    · rintro e M6 ⟨t, z6, ht, hp6, rfl⟩
      exact ⟨_, _, _, _, _, _, rfl⟩
  · rintro e M' ⟨x1, x2, x3, x4, x5, x6, rfl⟩
    walk_at "sim"
    exact k _
end
end K55
namespace K55
open PySem PySem.Spec L2 DL GM
theorem all_ok {P : Program} {w : World} {K : PySem.W.Frag} {mg : Str → Option Value} {fa : Addr} (T : Txt K mg) (hfa : mg "law" = some (.ref fa)) (D__law_same : Df K mg "_law_same" s__law_same ["found", "due"]) (D__law_ratio : Df K mg "_law_ratio" s__law_ratio ["top", "bottom"]) (D__law_figures : Df K mg "_law_figures" s__law_figures ["text"]) (D__law_read_ratio : Df K mg "_law_read_ratio" s__law_read_ratio ["text"]) (D_divisor : Df K mg "divisor" s_divisor ["one", "other"]) (D_is_whole : Df K mg "is_whole" s_is_whole ["thing"]) (D_is_ratio : Df K mg "is_ratio" s_is_ratio ["thing"]) (D_are_figures : Df K mg "are_figures" s_are_figures ["text"]) (D_read_whole : Df K mg "read_whole" s_read_whole ["text"]) (D_read_ratio : Df K mg "read_ratio" s_read_ratio ["text"]) (D__law_found : Df K mg "_law_found" s__law_found ["text"]) (D__law_draw : Df K mg "_law_draw" s__law_draw ["pool", "base"]) (D__law_pick : Df K mg "_law_pick" s__law_pick ["pool", "some"]) (D__law_sign : Df K mg "_law_sign" s__law_sign ["pool", "some"]) (D__law_spoilt : Df K mg "_law_spoilt" s__law_spoilt ["pool", "text"]) (D_whole_text : Df K mg "whole_text" s_whole_text ["number"]) (D_ratio_text : Df K mg "ratio_text" s_ratio_text ["one"]) (D__law_ratio_text : Df K mg "_law_ratio_text" s__law_ratio_text ["one"]) (D__law_number : Df K mg "_law_number" s__law_number ["pool"]) (D__law_great : Df K mg "_law_great" s__law_great ["pool"]) (D__law_pool : Df K mg "_law_pool" s__law_pool ["cell"]) (D_law : DfL K mg "law" s_law ["script"]) :
    ∃ fd : FuncData, (∀ (s : Shared) (u : Value), BindsTo s fd ⟨[u], []⟩ [("script", u)]) ∧ ∀ base : Heap, base.NoDigits → FnOk P w K mg base CX0 6 fa fd ["script"] (upSp K spLaw) := by
  obtain ⟨f, fd, F, hm, hb⟩ := D_law.ex
  have e : f = fa := by rw [hm] at hfa; injection hfa with z; injection z
  subst e
  refine ⟨fd, fun s u => .of_eq (hb [u] rfl), fun base hdig => ?_⟩
  have G__law_same := ok__law_same (P := P) (w := w) (base := base) T D__law_same 
  have G__law_ratio := ok__law_ratio (P := P) (w := w) (base := base) T D__law_ratio 
  have G__law_figures := ok__law_figures (P := P) (w := w) (base := base) T D__law_figures 
  have G__law_read_ratio := ok__law_read_ratio (P := P) (w := w) (base := base) T D__law_read_ratio G__law_ratio G__law_figures
  have G_divisor := ok_divisor (P := P) (w := w) (base := base) T D_divisor 
  have G_is_whole := ok_is_whole (P := P) (w := w) (base := base) T D_is_whole 
  have G_is_ratio := ok_is_ratio (P := P) (w := w) (base := base) T D_is_ratio G_divisor G_is_whole
  have G_are_figures := ok_are_figures (P := P) (w := w) (base := base) T D_are_figures 
  have G_read_whole := ok_read_whole (P := P) (w := w) (base := base) T D_read_whole G_are_figures
  have GX_read_ratio := okx_read_ratio (P := P) (w := w) (base := base) T D_read_ratio G_is_ratio G_read_whole
  have G__law_found := ok__law_found (P := P) (w := w) (base := base) T D__law_found GX_read_ratio
  have G__law_draw := ok__law_draw (P := P) (w := w) (base := base) T D__law_draw 
  have G__law_pick__2 := ok__law_pick__2 (P := P) (w := w) (base := base) T D__law_pick G__law_draw
  have G__law_sign := ok__law_sign (P := P) (w := w) (base := base) T D__law_sign G__law_pick__2 G__law_draw
  have G__law_spoilt := ok__law_spoilt (P := P) (w := w) (base := base) T D__law_spoilt G__law_draw G__law_sign
  have G_whole_text := ok_whole_text (P := P) (w := w) (base := base) T D_whole_text 
  have G_ratio_text := ok_ratio_text (P := P) (w := w) (base := base) T D_ratio_text G_whole_text G_is_ratio
  have G__law_pick := ok__law_pick (P := P) (w := w) (base := base) T D__law_pick G__law_draw
  have G__law_ratio_text := ok__law_ratio_text (P := P) (w := w) (base := base) T D__law_ratio_text 
  have G__law_number := ok__law_number (P := P) (w := w) (base := base) T D__law_number G__law_draw G__law_ratio
  have G__law_great := ok__law_great (P := P) (w := w) (base := base) T D__law_great G__law_number G__law_pick G__law_ratio G__law_draw
  have G__law_pool := ok__law_pool (P := P) (w := w) (base := base) T D__law_pool 
  exact ok_law T F hdig G__law_same G__law_read_ratio G__law_found G__law_spoilt G_ratio_text G__law_pick G__law_ratio_text G__law_great G__law_pool GX_read_ratio
theorem walk {l : PySem.W.OpenLaw} {q : Program} {loose : List Str} {XP : (Str → Option Value) → Heap → Prop} {YP : World → Heap → Prop} {d : DefRec} {K : Params → PySem.W.Frag} (hn : l.most = some 63) (hdf : d.params.defaults = [])
    (hY : ∀ (w : World) (h : Heap), YP w h → (K w.params).In h)
    (F : ∀ (w : World) (mg : Str → Option Value) (fa : Addr) (h : Heap), (K w.params).In h → h.Ns mainGlobals mg → mg d.name = some (.ref fa) →
      ∃ fd : FuncData, (∀ (s : Shared) (u : Value), BindsTo s fd ⟨[u], []⟩ [("script", u)]) ∧ ∀ base : Heap, base.NoDigits → FnOk l.prog w (K w.params) mg base CX0 6 fa fd ["script"] (upSp (K w.params) spLaw)) :
    PySem.W.WalkO q loose XP YP l.row.toRowW d [] (fun f vs => PySem.call f vs) :=
  L2.walk_ofK (n := 63) (k := 6) (x := "script") (CX := CX0) (sp := fun K => upSp K spLaw) hn (by decide) hdf ⟨rfl, by decide, by decide⟩ hY (fun w mg fa h a b c => let ⟨fd, h1, h2⟩ := F w mg fa h a b c; ⟨fd, h1, fun base _ _ hd => h2 base hd⟩)
    (fun K H a ns hl hO hS => law_sp hO hS ⟨ns, rfl, hl, fun _ => rfl⟩) fun _ _ _ _ z => z
end K55
namespace PySem.W.Fast
theorem te15326326826497304570 : True := trivial
theorem tw6381246137918893505 : True := ⟨⟩
theorem tw4612755164540898271 : True := ⟨⟩
theorem tw16463459486811117046 : True := ⟨⟩
theorem tw2973789936137705227 : True := ⟨⟩
theorem tw13984846231965469711 : True := ⟨⟩
theorem tw11848157967636390566 : True := ⟨⟩
theorem tw15775224369406023151 : True := ⟨⟩
theorem tw6428111457321516900 : True := ⟨⟩
theorem tw8209445582448323338 : True := ⟨⟩
theorem tw13936060408276654920 : True := ⟨⟩
theorem tw2963160080400280848 : True := ⟨⟩
theorem tw15055923176805849198 : True := ⟨⟩
theorem tw11477492211059339631 : True := ⟨⟩
theorem tw18393050271321121734 : True := ⟨⟩
theorem tw6555443503603410067 : True := ⟨⟩
theorem tw17302853830108655214 : True := ⟨⟩
theorem tw15704867044468869245 : True := ⟨⟩
theorem tw16866030056032878576 : True := ⟨⟩
theorem tw3631410508851662519 : True := ⟨⟩
theorem tw6358066829864401706 : True := ⟨⟩
theorem tw2314278456488954794 : True := ⟨⟩
theorem tw1041395991582800840 : True := ⟨⟩
theorem tw16191569285616007038 : True := ⟨⟩
theorem tw16016410530362326730 : True := ⟨⟩
theorem tw10278485385453802383 : True := ⟨⟩
theorem tw18192876635004369193 : True := ⟨⟩
theorem tw8685962696264877769 : True := ⟨⟩
theorem tw3108903313844809213 : True := ⟨⟩
theorem tw3777300497373096914 : True := ⟨⟩
theorem tw15807584215890240671 : True := ⟨⟩
theorem tw16816857771975560975 : True := ⟨⟩
theorem tw16338206487232807350 : True := ⟨⟩
theorem tw7179354581016576714 : True := ⟨⟩
theorem tw5043463701428783498 : True := ⟨⟩
theorem tw659558716583854464 : True := ⟨⟩
theorem tw5667894791582942247 : True := ⟨⟩
theorem tw597383015369524108 : True := ⟨⟩
theorem tw17294026165810720857 : True := ⟨⟩
theorem tw5149295104997200653 : True := ⟨⟩
theorem tw16136871321224044258 : True := ⟨⟩
theorem tw1431362760807088368 : True := ⟨⟩
theorem tw9462920628161887310 : True := ⟨⟩
theorem tw14054899148442567362 : True := ⟨⟩
theorem tw12966767822851924900 : True := ⟨⟩
theorem tw16699113446263590035 : True := ⟨⟩
theorem tw8616297475622569346 : True := ⟨⟩
theorem tw4393766138626494846 : True := ⟨⟩
theorem tw7010365394764519717 : True := ⟨⟩
theorem tw1253582706114798199 : True := ⟨⟩
theorem tw10890814219024927654 : True := ⟨⟩
theorem tw10124177058930781810 : True := ⟨⟩
theorem tw7506719921644133693 : True := ⟨⟩
theorem tw14840857086562532806 : True := ⟨⟩
theorem tw5318842966912027458 : True := ⟨⟩
theorem tw3099399353812670688 : True := ⟨⟩
theorem tw1499371811340432917 : True := ⟨⟩
theorem tw11872905312616389308 : True := ⟨⟩
theorem tw18402726962852587181 : True := ⟨⟩
theorem tw4500659544888954771 : True := ⟨⟩
theorem tw4365432544375608372 : True := ⟨⟩
theorem tw4123003356191051987 : True := ⟨⟩
theorem tw7414578577679736627 : True := ⟨⟩
theorem tw4751773871924108182 : True := ⟨⟩
theorem tw15739137639189602807 : True := ⟨⟩
theorem tw1265676312844905377 : True := ⟨⟩
theorem tw6490905050302371482 : True := ⟨⟩
theorem tw1670375614223309568 : True := ⟨⟩
theorem tw15720269234020746853 : True := ⟨⟩
theorem tw17093290100655275396 : True := ⟨⟩
theorem tw7219757182669828527 : True := ⟨⟩
theorem tw1125301642388276406 : True := ⟨⟩
end PySem.W.Fast
open PySem PySem.W PyProof.Rows
set_option maxRecDepth 100000 in
set_option maxHeartbeats 0 in
theorem PySem.Challenge.cw_roundglass_k55_whole_ratios_written_and_holds : PySem.Challenge.rw_roundglass_k55_whole_ratios_written_and.Holds := by
  w_on; o_law; k_head; (case hw => w_witness2)
  k_fill
  refine K55.walk (l := PySem.Challenge.rw_roundglass_k55_whole_ratios_written_and) rfl rfl (fun w h Y => PySem.W.kIn_of Y) ?F
  case F =>
    intro w mg fa h KX G hmg
    refine' K55.all_ok ⟨PySem.W.mg_none_of KX G ?z_ValueError, PySem.W.mg_none_of KX G ?z_abs, PySem.W.mg_none_of KX G ?z_all, PySem.W.mg_none_of KX G ?z_any, PySem.W.mg_none_of KX G ?z_bool, PySem.W.mg_none_of KX G ?z_divmod, PySem.W.mg_none_of KX G ?z_int, PySem.W.mg_none_of KX G ?z_isinstance, PySem.W.mg_none_of KX G ?z_len, PySem.W.mg_none_of KX G ?z_list, PySem.W.mg_none_of KX G ?z_max, PySem.W.mg_none_of KX G ?z_range, PySem.W.mg_none_of KX G ?z_reversed, PySem.W.mg_none_of KX G ?z_str, PySem.W.mg_none_of KX G ?z_tuple, PySem.W.mg_none_of KX G ?z_zip, DL.subOk _, DL.gl_any KX G ?c0_FIGURES DL.hc_str, DL.gl_int KX G ?c0_MOST_FIGURES, DL.exd_mk KX G ?n_x_NoText ?q_x_NoText, DL.tkn_mk KX G ?n_kn_GlassError__NoText ?m_kn_GlassError__NoText ?q_kn_GlassError__NoText, DL.exck_mk ?ke_NoText0 ?ke_NoText1 ?ke_NoText2 ?ke_NoText3 ?ke_NoText4 ?ke_NoText5 ?ke_NoText6 ?ke_NoText7, DL.isn_mk (DL.isn_cons KX G ?ki_NoText__NoText_c0 DL.isn_nil) (DL.isr_cons ?ki_NoText__NoText_n0 ?ki_NoText__NoText_q0 DL.isr_nil), (DL.isr_cons ?kb_ValueError__NoText_n0 ?kb_ValueError__NoText_q0 DL.isr_nil)⟩ hmg (DL.df_mk KX G ?n0 ?l0 ?c0 ?k0 ?b0) (DL.df_mk KX G ?n1 ?l1 ?c1 ?k1 ?b1) (DL.df_mk KX G ?n2 ?l2 ?c2 ?k2 ?b2) (DL.df_mk KX G ?n3 ?l3 ?c3 ?k3 ?b3) (DL.df_mk KX G ?n4 ?l4 ?c4 ?k4 ?b4) (DL.df_mk KX G ?n5 ?l5 ?c5 ?k5 ?b5) (DL.df_mk KX G ?n6 ?l6 ?c6 ?k6 ?b6) (DL.df_mk KX G ?n7 ?l7 ?c7 ?k7 ?b7) (DL.df_mk KX G ?n8 ?l8 ?c8 ?k8 ?b8) (DL.df_mk KX G ?n9 ?l9 ?c9 ?k9 ?b9) (DL.df_mk KX G ?n10 ?l10 ?c10 ?k10 ?b10) (DL.df_mk KX G ?n11 ?l11 ?c11 ?k11 ?b11) (DL.df_mk KX G ?n12 ?l12 ?c12 ?k12 ?b12) (DL.df_mk KX G ?n13 ?l13 ?c13 ?k13 ?b13) (DL.df_mk KX G ?n14 ?l14 ?c14 ?k14 ?b14) (DL.df_mk KX G ?n15 ?l15 ?c15 ?k15 ?b15) (DL.df_mk KX G ?n16 ?l16 ?c16 ?k16 ?b16) (DL.df_mk KX G ?n17 ?l17 ?c17 ?k17 ?b17) (DL.df_mk KX G ?n18 ?l18 ?c18 ?k18 ?b18) (DL.df_mk KX G ?n19 ?l19 ?c19 ?k19 ?b19) (DL.df_mk KX G ?n20 ?l20 ?c20 ?k20 ?b20) (DL.dfl_mk KX G ?n21 ?l21 ?c21 ?k21 ?b21)
    (case n0 => k_is); (case l0 => k_is); (case c0 => k_is); (case k0 => k_is); (case b0 => (intro us hl; exact match us, hl with | [_, _], _ => rfl))
    (case n1 => k_is); (case l1 => k_is); (case c1 => k_is); (case k1 => k_is); (case b1 => (intro us hl; exact match us, hl with | [_, _], _ => rfl))
    (case n2 => k_is); (case l2 => k_is); (case c2 => k_is); (case k2 => k_is); (case b2 => (intro us hl; exact match us, hl with | [_], _ => rfl))
    (case n3 => k_is); (case l3 => k_is); (case c3 => k_is); (case k3 => k_is); (case b3 => (intro us hl; exact match us, hl with | [_], _ => rfl))
    (case n4 => k_is); (case l4 => k_is); (case c4 => k_is); (case k4 => k_is); (case b4 => (intro us hl; exact match us, hl with | [_, _], _ => rfl))
    (case n5 => k_is); (case l5 => k_is); (case c5 => k_is); (case k5 => k_is); (case b5 => (intro us hl; exact match us, hl with | [_], _ => rfl))
    (case n6 => k_is); (case l6 => k_is); (case c6 => k_is); (case k6 => k_is); (case b6 => (intro us hl; exact match us, hl with | [_], _ => rfl))
    (case n7 => k_is); (case l7 => k_is); (case c7 => k_is); (case k7 => k_is); (case b7 => (intro us hl; exact match us, hl with | [_], _ => rfl))
    (case n8 => k_is); (case l8 => k_is); (case c8 => k_is); (case k8 => k_is); (case b8 => (intro us hl; exact match us, hl with | [_], _ => rfl))
    (case n9 => k_is); (case l9 => k_is); (case c9 => k_is); (case k9 => k_is); (case b9 => (intro us hl; exact match us, hl with | [_], _ => rfl))
    (case n10 => k_is); (case l10 => k_is); (case c10 => k_is); (case k10 => k_is); (case b10 => (intro us hl; exact match us, hl with | [_], _ => rfl))
    (case n11 => k_is); (case l11 => k_is); (case c11 => k_is); (case k11 => k_is); (case b11 => (intro us hl; exact match us, hl with | [_, _], _ => rfl))
    (case n12 => k_is); (case l12 => k_is); (case c12 => k_is); (case k12 => k_is); (case b12 => (intro us hl; exact match us, hl with | [_, _], _ => rfl))
    (case n13 => k_is); (case l13 => k_is); (case c13 => k_is); (case k13 => k_is); (case b13 => (intro us hl; exact match us, hl with | [_, _], _ => rfl))
    (case n14 => k_is); (case l14 => k_is); (case c14 => k_is); (case k14 => k_is); (case b14 => (intro us hl; exact match us, hl with | [_, _], _ => rfl))
    (case n15 => k_is); (case l15 => k_is); (case c15 => k_is); (case k15 => k_is); (case b15 => (intro us hl; exact match us, hl with | [_], _ => rfl))
    (case n16 => k_is); (case l16 => k_is); (case c16 => k_is); (case k16 => k_is); (case b16 => (intro us hl; exact match us, hl with | [_], _ => rfl))
    (case n17 => k_is); (case l17 => k_is); (case c17 => k_is); (case k17 => k_is); (case b17 => (intro us hl; exact match us, hl with | [_], _ => rfl))
    (case n18 => k_is); (case l18 => k_is); (case c18 => k_is); (case k18 => k_is); (case b18 => (intro us hl; exact match us, hl with | [_], _ => rfl))
    (case n19 => k_is); (case l19 => k_is); (case c19 => k_is); (case k19 => k_is); (case b19 => (intro us hl; exact match us, hl with | [_], _ => rfl))
    (case n20 => k_is); (case l20 => k_is); (case c20 => k_is); (case k20 => k_is); (case b20 => (intro us hl; exact match us, hl with | [_], _ => rfl))
    (case n21 => k_is); (case l21 => k_is); (case c21 => k_is); (case k21 => k_is); (case b21 => (intro us hl; exact match us, hl with | [_], _ => rfl))
    (case z_ValueError => k_is); (case z_abs => k_is); (case z_all => k_is); (case z_any => k_is); (case z_bool => k_is); (case z_divmod => k_is); (case z_int => k_is); (case z_isinstance => k_is); (case z_len => k_is); (case z_list => k_is); (case z_max => k_is); (case z_range => k_is); (case z_reversed => k_is); (case z_str => k_is); (case z_tuple => k_is); (case z_zip => k_is); (case c0_FIGURES => k_is); (case c0_MOST_FIGURES => k_is); (case n_x_NoText => k_is); (case q_x_NoText => k_exc); (case n_kn_GlassError__NoText => k_is); (case m_kn_GlassError__NoText => k_is); (case q_kn_GlassError__NoText => kts_exm); (case ke_NoText0 => k_is); (case ke_NoText1 => k_is); (case ke_NoText2 => k_is); (case ke_NoText3 => k_is); (case ke_NoText4 => k_is); (case ke_NoText5 => k_is); (case ke_NoText6 => k_is); (case ke_NoText7 => k_is); (case ki_NoText__NoText_c0 => k_is); (case ki_NoText__NoText_n0 => k_is); (case ki_NoText__NoText_q0 => (simp only [List.map_cons, List.map_nil]; kit_is)); (case kb_ValueError__NoText_n0 => k_is); (case kb_ValueError__NoText_q0 => kit_is)
