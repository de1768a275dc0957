import PyProof.Rows.All
import KE.KDictList
import PyProof.CollectWalk
import PyProof.Rows.TupDisplay
import PyProof.DictRoadsH
import PyProof.Rows.TupTab
import PyProof.Rows.SortShell
import KE.KSortTup
import KE.KSortAsk
import OpenK.KLine
import KE.KPar
import KE.IntBitsLaws
import PyProof.Fits
import KE.KIsAll
import KE.KItem
import KE.KxBytes
import Wide.FinOn
import PyProof.EqAt
import PyProof.EqKinds
import PyProof.TupleCall
import PyProof.ZipIter
import PyProof.EnumMake
import PyProof.EnumFor
import PyProof.Rows.EnumRows
import PyProof.CompMap
import PyProof.CompUse
import KE.KRevSl
import KE.KRevIter
import PyProof.ListRange
import PyProof.AutoRange
import PyProof.FactsAll.range_2
import PyProof.MaxThree
import KE.RegKTryMore
import PyProof.Rows.SumAny
import KE.KMinBuiltin
import PyProof.Rows.CallKwBuiltin
import PyProof.JoinWalk
import PyProof.StrBlockL
import PyProof.StrCalls2
import PyProof.CallStr
import PyProof.Rows.StrWeight2
import PyProof.FitsInt
import PyProof.FactsAll.range_1
import PyProof.SeqRoads2
import KE.RegKIsAll
import PyProof.ExcArgsOwn
import PyProof.NsDelKeeps
import PyProof.RulesAs
import KE.KIntText
import PyProof.Rows.StrNews2
import PyProof.StrBlockH
import PyProof.Rows.RuleDivmod
import KE.IntTextText
import OpenK.KTop
import Lean
import PySem.Challenge.RW_roundglass_k52_whole_all_short_rows
set_option compiler.extract_closed false
set_option Elab.async false
set_option linter.all false
set_option maxRecDepth 100000
section
namespace L2
open PySem PySem.Spec PyProof.Rows

noncomputable abbrev Key := Sum Int Str
noncomputable def keyIs : Key → Value → Bool
  | .inl k, v => Value.isInt k v
  | .inr x, v => Value.isStrOf x v
noncomputable def keyH (w : World) : Key → Int
  | .inl k => hashInt k
  | .inr x => hashStr w x
theorem keyIs_shape : ∀ {k : Key} {v : Value}, keyIs k v = true → (∃ i t, k = Sum.inl i ∧ v = Value.int i t) ∨ (∃ x t, k = Sum.inr x ∧ v = Value.str x t)
  | .inl i, v, h => by
    obtain ⟨t, e⟩ := Value.isInt_shape (k := i) (v := v) h
    exact .inl ⟨i, t, rfl, e⟩
  | .inr x, v, h => by
    obtain ⟨t, e⟩ := Value.isStrOf_shape (x := x) (v := v) h
    exact .inr ⟨x, t, rfl, e⟩
theorem key_ll (a b : Int) : decide ((Sum.inl a : Key) = Sum.inl b) = (a == b) := by
  by_cases e : a = b
  · subst e; simp
  · have h : ¬ (Sum.inl a : Key) = Sum.inl b := fun q => e (Sum.inl.inj q)
    rw [decide_eq_false h]
    exact (beq_eq_false_iff_ne.mpr e).symm
theorem key_rr (a b : Str) : decide ((Sum.inr a : Key) = Sum.inr b) = decide (a = b) := by
  by_cases e : a = b
  · subst e; simp
  · have h : ¬ (Sum.inr a : Key) = Sum.inr b := fun q => e (Sum.inr.inj q)
    rw [decide_eq_false h, decide_eq_false e]
theorem key_lr (a : Int) (b : Str) : decide ((Sum.inl a : Key) = Sum.inr b) = false := decide_eq_false (fun q => nomatch q)
theorem key_rl (a : Str) (b : Int) : decide ((Sum.inr a : Key) = Sum.inl b) = false := decide_eq_false (fun q => nomatch q)

noncomputable def mixKind (prog : Program) (w : World) : PySem.KeyKind prog w Key where
  is := keyIs
  hash := keyH w
  inj := fun v a b ha hb => by
    rcases keyIs_shape ha with ⟨i, t, rfl, rfl⟩ | ⟨x, t, rfl, rfl⟩
    · rcases keyIs_shape hb with ⟨j, u, rfl, e⟩ | ⟨y, u, rfl, e⟩
      · injection e with e1 _; rw [e1]
      · exact nomatch e
    · rcases keyIs_shape hb with ⟨j, u, rfl, e⟩ | ⟨y, u, rfl, e⟩
      · exact nomatch e
      · injection e with e1 _; rw [e1]
  byValue := fun k v h => by
    rcases keyIs_shape h with ⟨i, t, rfl, rfl⟩ | ⟨x, t, rfl, rfl⟩ <;> rfl
  pyHash := fun hv h => by
    rcases keyIs_shape hv with ⟨i, t, rfl, rfl⟩ | ⟨x, t, rfl, rfl⟩
    · exact wpAny_pyHash_int h
    · exact wpAny_pyHash_str h
  eqBool := fun hu hv h => by
    rcases keyIs_shape hu with ⟨i, t, rfl, rfl⟩ | ⟨x, t, rfl, rfl⟩
    · rcases keyIs_shape hv with ⟨j, u, rfl, rfl⟩ | ⟨y, u, rfl, rfl⟩
      · rw [key_ll] at h; exact wpAny_eqBool_int h
      · rw [key_lr] at h; exact SeqAt.EqAt.int_str i t y u _ _ _ _ h
    · rcases keyIs_shape hv with ⟨j, u, rfl, rfl⟩ | ⟨y, u, rfl, rfl⟩
      · rw [key_rl] at h; exact SeqAt.EqAt.str_int x t j u _ _ _ _ h
      · rw [key_rr] at h; exact wpAny_eqBool_str h
  «strs» := fun k x t v h => by
    rcases keyIs_shape h with ⟨i, u, rfl, e⟩ | ⟨y, u, rfl, e⟩
    · exact nomatch e
    · injection e with e1 _
      subst e1
      cases v <;> rfl

end L2

namespace L2
open PySem PySem.Spec PyProof.Rows

inductive V where
  | non | bl (b : Bool) | int (i : Int) | str (x : Str) | byt (b : Array UInt8) | flt (b : UInt64) | ref (a : Addr) | ty (n : String)
  deriving DecidableEq

noncomputable def RelV : V → Value → Prop
  | .non, u => u = Value.none
  | .bl b, u => u = Value.bool b
  | .int i, u => ∃ t, u = Value.int i t
  | .str x, u => ∃ t, u = Value.str x t
  | .byt b, u => ∃ t, u = Value.bytes b t
  | .flt b, u => ∃ t, u = Value.float b t
  | .ref a, u => u = Value.ref a
  | .ty n, u => u = Value.type n

noncomputable abbrev Vals : List V → List Value → Prop := Paired RelV
theorem Vals.length {xs : List V} {us : List Value} (r : Vals xs us) : xs.length = us.length := Paired.length r
theorem Vals.get : ∀ {xs : List V} {us : List Value} {i : Nat} {x : V}, Vals xs us → xs[i]? = some x → ∃ u, us[i]? = some u ∧ RelV x u
  | _, _, _, _, .nil, e => by simp at e
  | _, _, 0, _, .cons r _, e => by simp at e; subst e; exact ⟨_, rfl, r⟩
  | _, _, i + 1, x, .cons _ t, e => by
    obtain ⟨u, h1, h2⟩ := Vals.get (i := i) (x := x) t (by simpa using e)
    exact ⟨u, by simpa using h1, h2⟩
theorem Vals.set {x : V} {u : Value} (r : RelV x u) : ∀ {xs : List V} {us : List Value} (i : Nat), Vals xs us → Vals (xs.set i x) (us.set i u)
  | _, _, _, .nil => .nil
  | _, _, 0, .cons _ t => .cons r t
  | _, _, i + 1, .cons q t => .cons q (Vals.set r i t)
theorem Vals.append : ∀ {xs ys : List V} {us ws : List Value}, Vals xs us → Vals ys ws → Vals (xs ++ ys) (us ++ ws)
  | _, _, _, _, .nil, s => s
  | _, _, _, _, .cons r t, s => .cons r (Vals.append t s)
theorem Vals.take : ∀ {xs : List V} {us : List Value} (n : Nat), Vals xs us → Vals (xs.take n) (us.take n)
  | _, _, 0, _ => .nil
  | _, _, _ + 1, .nil => .nil
  | _, _, n + 1, .cons r t => .cons r (Vals.take n t)
theorem Vals.drop : ∀ {xs : List V} {us : List Value} (n : Nat), Vals xs us → Vals (xs.drop n) (us.drop n)
  | _, _, 0, r => r
  | _, _, _ + 1, .nil => .nil
  | _, _, n + 1, .cons _ t => Vals.drop n t
noncomputable def RelO : Option V → Option Value → Prop
  | some v, some u => RelV v u
  | none, none => True
  | _, _ => False
noncomputable def KV {κ : Type} : List (κ × V) → List (κ × Value) → Prop := Paired fun (p : κ × V) (q : κ × Value) => p.1 = q.1 ∧ RelV p.2 q.2

noncomputable def kV : Key → V
  | .inl i => .int i
  | .inr x => .str x

inductive HO where
  /-- a list -/
  | lst (xs : List V)
  /-- a tuple (never changes) -/
  | tup (xs : List V)
  /-- a dict whose keys are ints and texts; one whose keys are tuples of ints and texts (the empty one is both) -/
  | dK (kvs : List (Key × V)) | dT (hs : (List Int × List Int → Int) × Option Nat) (kvs : List ((List Int × List Int) × Addr × V))
  /-- a set of ints: its members, its size -/
  | set (S : Int → Bool) (n : Nat)
  /-- an instance of the class at C, its dict at dx, its attributes -/
  | ins (C dx : Addr) (fs : List (Str × V))
  /-- the dict of the instance at x -/
  | own (x : Addr)
  /-- the dict of an exception -/
  | xd (fs : List (Str × V))
  /-- a bound method, f of x -/
  | met (f x : Addr)
  /-- a range object lo, lo + 1, .. below hi -/
  | rng (lo hi : Int)
  /-- a thing that is known to the object (the script; a dict while a loop walks it): read, never written while it is so -/
  | frz (o : Obj) (u : HO)
  /-- a code object's table -/
  | tbl (ps : Array Value)
  /-- any other thing, by what is true of its one object (a def of one's own: SetO a S n := HO.ext fun h => ..) -/
  | ext (φ : Heap → Prop)

noncomputable abbrev Hp := Addr → Option HO
noncomputable def upd (H : Hp) (a : Addr) (o : HO) : Hp := fun b => if b = a then some o else H b
theorem upd_same {H : Hp} {a : Addr} {o : HO} : upd H a o a = some o := by unfold upd; rw [if_pos rfl]
theorem upd_ne {H : Hp} {a b : Addr} {o : HO} (h : b ≠ a) : upd H a o b = H b := by unfold upd; rw [if_neg h]
theorem upd_upd {H : Hp} {a : Addr} {o u : HO} : upd (upd H a o) a u = upd H a u := by
  funext b; unfold upd; split <;> rfl
theorem ne_of_none {H : Hp} {a b : Addr} {o : HO} (h : H a = some o) (h' : H b = none) : a ≠ b := by
  intro e; subst e; rw [h] at h'; cases h'

section
variable (P : Program) (w : World)
noncomputable def ObjOk (H : Hp) (h : Heap) (a : Addr) : HO → Prop
  | .lst xs => xs.length ≤ sizeLine ∧ ∃ (its : List Value) (n : Nat), Vals xs its ∧ h.get? a = some { cls := .type "list", data := .seq its.toArray n }
  | .tup xs => xs.length ≤ sizeLine ∧ ∃ its : List Value, Vals xs its ∧ IsTup h a its.toArray
  | .dK kvs => kvs.length ≤ sizeLine ∧ (a == sysModules) = false ∧ ∃ vs, KV kvs vs ∧ h.DictOf (mixKind P w) a vs
  | .dT hs kvs => kvs.length ≤ sizeLine ∧ (a == sysModules) = false ∧ ∃ xs : List ((List Int × List Int) × Addr × Value),
      Paired (fun (p : (List Int × List Int) × Addr × V) (q : (List Int × List Int) × Addr × Value) => p.1 = q.1 ∧ p.2.1 = q.2.1 ∧ RelV p.2.2 q.2.2) kvs xs ∧
      ∃ o es ep, h.get? a = some o ∧ o.ExactDict ∧ o.data = .dict es ep ∧ es.toList = xs.map (fun x => (⟨hs.1 x.1, .ref x.2.1, x.2.2⟩ : DictEntry)) ∧ (xs.map (·.1)).Nodup ∧ ∀ n, hs.2 = some n → n = ep
  | .set S n => h.SetOf (intKind P w) a S n
  | .ins C dx fs => H dx = some (.own a) ∧ fs.length ≤ 1000 ∧ dx ≠ a ∧ h.get? a = some (PySem.W.instObj C dx) ∧
      ∃ mA, h.Ns1 dx mA ∧ (∀ f, RelO (fs.lookup f) (mA f)) ∧ PySem.Within mA (fs.map (·.1))
  | .own _ => ∃ o, h.get? a = some o
  | .xd fs => ∃ mA, h.Ns1 a mA ∧ ∀ f, RelO (fs.lookup f) (mA f)
  | .rng lo hi => ∃ t u v, h.get? a = some { cls := .type "range", data := .fields #[.int lo t, .int hi u, .int 1 v] }
  | .frz o u => h.get? a = some o ∧ ObjOk H h a u
  | .tbl ps => h.get? a = some { cls := .none, data := .fields ps }
  | .met f x => h.get? a = some (PySem.W.methodObj (.ref f) (.ref x))
  | .ext φ => φ h ∧ (∃ o, h.get? a = some o) ∧ ∀ h1 h2 : Heap, φ h1 → (∀ o, h1.get? a = some o → h2.get? a = some o) → φ h2
noncomputable def HOk (H : Hp) (h : Heap) : Prop := ∀ a o, H a = some o → ObjOk P w H h a o
end

section
variable {P : Program} {w : World} {H H' : Hp} {h h' : Heap} {a : Addr} {o : HO}
theorem ObjOk.lt (x : ObjOk P w H h a o) : a < h.objs.size := by
  cases o with
  | lst xs => obtain ⟨_, _, _, _, e⟩ := x; exact Heap.lt_size e
  | tup xs => obtain ⟨_, _, _, p⟩ := x; exact p.lt
  | dK kvs => obtain ⟨_, _, _, _, o, _, _, e, _⟩ := x; exact Heap.lt_size e
  | dT hs kvs => obtain ⟨_, _, _, _, o, _, _, e, _⟩ := x; exact Heap.lt_size e
  | set S n => obtain ⟨o, _, _, _, e, _⟩ := x; exact Heap.lt_size e
  | ins C dx fs => obtain ⟨_, _, _, e, _⟩ := x; exact Heap.lt_size e
  | own y => obtain ⟨_, e⟩ := x; exact Heap.lt_size e
  | xd fs => obtain ⟨_, ⟨_, _, _, e, _⟩, _⟩ := x; exact Heap.lt_size e
  | rng lo hi => obtain ⟨_, _, _, e⟩ := x; exact Heap.lt_size e
  | frz ob u => obtain ⟨e, _⟩ := x; exact Heap.lt_size e
  | tbl ps => exact Heap.lt_size (show h.get? a = some _ from x)
  | met f y => exact Heap.lt_size (show h.get? a = some _ from x)
  | ext φ => obtain ⟨_, ⟨_, e⟩, _⟩ := x; exact Heap.lt_size e
theorem ObjOk.stay (x : ObjOk P w H h a o) (k : ∀ b u, (b = a ∨ H b = some (.own a)) → h.get? b = some u → h'.get? b = some u)
    (ho : ∀ b, H b = some (.own a) → H' b = some (.own a)) (ht : ∀ b xs, H b = some (.tup xs) → H' b = some (.tup xs)) : ObjOk P w H' h' a o := by
  induction o with
  | lst xs => obtain ⟨z, its, n, r, e⟩ := x; exact ⟨z, its, n, r, k _ _ (.inl rfl) e⟩
  | tup xs => obtain ⟨z, its, r, ob, e, c⟩ := x; exact ⟨z, its, r, ob, k _ _ (.inl rfl) e, c⟩
  | dK kvs => obtain ⟨z, y, vs, r, ob, es, ep, e, c⟩ := x; exact ⟨z, y, vs, r, ob, es, ep, k _ _ (.inl rfl) e, c⟩
  | dT hs kvs =>
    obtain ⟨z, y, xs, r, ob, es, ep, e, c⟩ := x
    exact ⟨z, y, xs, r, ob, es, ep, k _ _ (.inl rfl) e, c⟩
  | set S n => obtain ⟨ob, es, ep, t, e, c⟩ := x; exact ⟨ob, es, ep, t, k _ _ (.inl rfl) e, c⟩
  | ins C dx fs =>
    obtain ⟨d, z, ne, e, mA, ⟨od, es, ep, e2, c⟩, r⟩ := x
    exact ⟨ho _ d, z, ne, k _ _ (.inl rfl) e, mA, ⟨od, es, ep, k _ _ (.inr d) e2, c⟩, r⟩
  | own y => obtain ⟨ob, e⟩ := x; exact ⟨ob, k _ _ (.inl rfl) e⟩
  | xd fs => obtain ⟨mA, ⟨od, es, ep, e, c⟩, r⟩ := x; exact ⟨mA, ⟨od, es, ep, k _ _ (.inl rfl) e, c⟩, r⟩
  | rng lo hi => obtain ⟨t, u, v, e⟩ := x; exact ⟨t, u, v, k _ _ (.inl rfl) e⟩
  | frz ob u ih => obtain ⟨e, q⟩ := x; exact ⟨k _ _ (.inl rfl) e, ih q⟩
  | tbl ps =>
    have e : h.get? a = some { cls := .none, data := .fields ps } := x
    show h'.get? a = some { cls := .none, data := .fields ps }
    exact k a _ (.inl rfl) e
  | met f y =>
    have e : h.get? a = some (PySem.W.methodObj (.ref f) (.ref y)) := x
    show h'.get? a = some (PySem.W.methodObj (.ref f) (.ref y))
    exact k a _ (.inl rfl) e
  | ext φ => obtain ⟨p, ⟨o, e⟩, st⟩ := x; exact ⟨st _ _ p fun o q => k _ _ (.inl rfl) q, ⟨o, k _ _ (.inl rfl) e⟩, st⟩
theorem HOk.lt (x : HOk P w H h) (e : H a = some o) : a < h.objs.size := (x a o e).lt
theorem HOk.fresh (x : HOk P w H h) (e : h.objs.size ≤ a) : H a = none := by
  cases q : H a with
  | none => rfl
  | some u => exact absurd (Nat.lt_of_lt_of_le (x.lt q) e) (Nat.lt_irrefl _)
theorem HOk.kept (x : HOk P w H h) (k : ∀ b u, h.get? b = some u → h'.get? b = some u) : HOk P w H h' := fun a o e =>
  (x a o e).stay (fun b u _ q => k b u q) (fun _ q => q) fun _ _ q => q
theorem HOk.laid (x : HOk P w H h) (k : ∀ b u, h.get? b = some u → h'.get? b = some u) (hp : h.objs.size ≤ a) (new : ObjOk P w (upd H a o) h' a o) : HOk P w (upd H a o) h' := fun b u e => by
  have hn := x.fresh hp
  by_cases hb : b = a
  · subst hb; rw [upd_same] at e; cases e; exact new
  · rw [upd_ne hb] at e
    exact (x b u e).stay (fun c v _ q => k c v q) (fun c q => by rw [upd_ne (ne_of_none q hn)]; exact q) fun c xs q => by rw [upd_ne (ne_of_none q hn)]; exact q
end

noncomputable def Rd (H : Hp) (a : Addr) (u : HO) : Prop := H a = some u ∨ ∃ o, H a = some (.frz o u)
theorem Rd.of {H : Hp} {a : Addr} {u : HO} (h : H a = some u) : Rd H a u := .inl h
theorem Rd.ok {P : Program} {w : World} {H : Hp} {h : Heap} {a : Addr} {u : HO} (r : Rd H a u) (x : HOk P w H h) : ObjOk P w H h a u := by
  rcases r with r | ⟨o, r⟩
  · exact x a u r
  · obtain ⟨_, q⟩ := x a _ r
    exact q
noncomputable def Mut : Option HO → Prop
  | some (.lst _) => True
  | some (.dK _) => True
  | some (.dT _ _) => True
  | some (.set _ _) => True
  | some (.ins _ _ _) => True
  | some (.ext _) => True
  | _ => False
section
variable {P : Program} {w : World} {H : Hp} {h h' : Heap} {x e : Addr} {o' : HO}
theorem HOk.write (ok : HOk P w H h) (mu : Mut (H x)) (he : e = x ∨ H e = some (.own x)) (k : ∀ b u, b ≠ e → h.get? b = some u → h'.get? b = some u) (heo : ∃ u, h'.get? e = some u)
    (new : ObjOk P w (upd H x o') h' x o') : HOk P w (upd H x o') h' := fun b u q => by
  have nown : ∀ c y, H c = some (.own y) → c ≠ x := fun c y r z => by subst z; rw [r] at mu; exact mu
  have ntup : ∀ c xs, H c = some (.tup xs) → c ≠ x := fun c xs r z => by subst z; rw [r] at mu; exact mu
  by_cases hb : b = x
  · subst hb; rw [upd_same] at q; cases q; exact new
  · rw [upd_ne hb] at q
    by_cases hbe : b = e
    · have q' : H b = some (.own x) := by
        rcases he with z | z
        · exact absurd (hbe.trans z) hb
        · rw [hbe]; exact z
      rw [q] at q'; cases q'
      obtain ⟨v, hv⟩ := heo
      exact ⟨v, by rw [hbe]; exact hv⟩
    · refine (ok b u q).stay (fun c v hc r => k c v ?_ r) (fun c r => by rw [upd_ne (nown c b r)]; exact r) fun c xs r => by rw [upd_ne (ntup c xs r)]; exact r
      rcases hc with rfl | hc
      · exact hbe
      · rintro rfl
        rcases he with z | z
        · exact nown c b hc z
        · rw [hc] at z; cases z; exact hb rfl
end

structure Un (fs ex : List Addr) (H H' : Hp) (h h' : Heap) : Prop where
  keep : ∀ b o, h.get? b = some o → H b = none → b ∉ fs → b ∉ ex → h'.get? b = some o
  slot : ∀ b o, h.get? b = some o → H b = none → b ∈ fs → b ∉ ex → ∃ sl, h'.get? b = some { o with slots := sl }
  free : ∀ b o, h.get? b = some o → H b = none → b ∉ ex → H' b = none
  there : ∀ b o, h.get? b = some o → b ∉ ex → ∃ o', h'.get? b = some o'
  tups : ∀ b xs, H b = some (.tup xs) → H' b = some (.tup xs)
  frzs : ∀ b o u, H b = some (.frz o u) → H' b = some (.frz o u)
  tbls : ∀ b ps, H b = some (.tbl ps) → ∃ more, H' b = some (.tbl (ps ++ more))
section
variable {fs fs' ex ex' : List Addr} {H H1 H2 : Hp} {h h1 h2 h' : Heap} {a x e : Addr} {o : HO}
theorem Un.any (u : Un fs ex H H1 h h1) {b : Addr} {ob : Obj} (q : h.get? b = some ob) (n : H b = none) (hx : b ∉ ex) : ∃ sl, h1.get? b = some { ob with slots := sl } := by
  by_cases hb : b ∈ fs
  · exact u.slot b ob q n hb hx
  · exact ⟨ob.slots, u.keep b ob q n hb hx⟩
theorem Un.trans (a : Un fs ex H H1 h h1) (b : Un fs ex H1 H2 h1 h2) : Un fs ex H H2 h h2 where
  keep := fun c ob q n hc hx => b.keep c ob (a.keep c ob q n hc hx) (a.free c ob q n hx) hc hx
  slot := fun c ob q n hc hx => by
    obtain ⟨sl, e1⟩ := a.slot c ob q n hc hx
    obtain ⟨sl', e2⟩ := b.slot c _ e1 (a.free c ob q n hx) hc hx
    exact ⟨sl', e2⟩
  free := fun c ob q n hx => by
    obtain ⟨o', e1⟩ := a.there c ob q hx
    exact b.free c o' e1 (a.free c ob q n hx) hx
  there := fun c ob q hx => by
    obtain ⟨o', e1⟩ := a.there c ob q hx
    exact b.there c o' e1 hx
  tups := fun c xs q => b.tups c xs (a.tups c xs q)
  frzs := fun c ob xs q => b.frzs c ob xs (a.frzs c ob xs q)
  tbls := fun c ps q => by
    obtain ⟨m1, e1⟩ := a.tbls c ps q
    obtain ⟨m2, e2⟩ := b.tbls c _ e1
    exact ⟨m1 ++ m2, by rw [e2, Array.append_assoc]⟩
theorem Un.kept (k : ∀ b u, h.get? b = some u → h'.get? b = some u) : Un fs ex H H h h' :=
  ⟨fun b ob q _ _ _ => k b ob q, fun b ob q _ _ _ => ⟨ob.slots, k b ob q⟩, fun _ _ _ n _ => n, fun b ob q _ => ⟨ob, k b ob q⟩, fun _ _ q => q, fun _ _ _ q => q, fun _ ps q => ⟨#[], by rw [q]; simp⟩⟩
theorem Un.refl : Un fs ex H H h h := Un.kept fun _ _ q => q
theorem Un.laid (k : ∀ b u, h.get? b = some u → h'.get? b = some u) (hp : h.objs.size ≤ a) (hn : H a = none) : Un fs ex H (upd H a o) h h' where
  keep := fun b u q _ _ _ => k b u q
  slot := fun b u q _ _ _ => ⟨u.slots, k b u q⟩
  free := fun b u q n _ => by rw [upd_ne (Nat.ne_of_lt (Nat.lt_of_lt_of_le (Heap.lt_size q) hp))]; exact n
  there := fun b u q _ => ⟨u, k b u q⟩
  tups := fun b xs q => by rw [upd_ne (ne_of_none q hn)]; exact q
  frzs := fun b u xs q => by rw [upd_ne (ne_of_none q hn)]; exact q
  tbls := fun b ps q => ⟨#[], by rw [upd_ne (ne_of_none q hn), q]; simp⟩
theorem Un.write (mu : Mut (H x)) (he : e = x ∨ H e = some (.own x)) (k : ∀ b u, b ≠ e → h.get? b = some u → h'.get? b = some u) (heo : ∃ u, h'.get? e = some u) : Un fs ex H (upd H x o) h h' := by
  have hx : ∀ b, H b = none → b ≠ x := fun b n z => by subst z; rw [n] at mu; exact mu
  have hb : ∀ b, H b = none → b ≠ e := fun b n z => by
    subst z
    rcases he with r | r
    · exact hx b n r
    · rw [n] at r; cases r
  have hm : ∀ b u, H b = some u → ¬ Mut (some u) → b ≠ x := fun b u q nm z => by subst z; rw [q] at mu; exact nm mu
  refine ⟨fun b u q n _ _ => k b u (hb b n) q, fun b u q n _ _ => ⟨u.slots, k b u (hb b n) q⟩, fun b u q n _ => by rw [upd_ne (hx b n)]; exact n, fun b u q _ => ?_,
    fun b xs q => by rw [upd_ne (hm b _ q fun z => z)]; exact q, fun b u xs q => by rw [upd_ne (hm b _ q fun z => z)]; exact q, fun b ps q => ⟨#[], by rw [upd_ne (hm b _ q fun z => z), q]; simp⟩⟩
  by_cases hbe : b = e
  · subst hbe; exact heo
  · exact ⟨u, k b u hbe q⟩
theorem Un.mono (u : Un fs ex H H1 h h1) (hs : ∀ b ∈ fs, b ∈ fs') (hx : ∀ b ∈ ex, b ∈ ex') : Un fs' ex' H H1 h h1 :=
  ⟨fun b ob q n hb he => u.keep b ob q n (fun z => hb (hs b z)) fun z => he (hx b z), fun _ _ q n _ he => u.any q n fun z => he (hx _ z), fun b ob q n he => u.free b ob q n fun z => he (hx b z), fun b ob q he => u.there b ob q fun z => he (hx b z), u.tups, u.frzs, u.tbls⟩
end

noncomputable def trk (h : Heap) (H : Hp) : List Addr := (List.range h.objs.size).filter fun a => (H a).isSome
noncomputable def hidT (h : Heap) (H : Hp) : Heap := PySem.W.hideAll h (trk h H)
theorem hidT_size (h : Heap) (H : Hp) : (hidT h H).objs.size = h.objs.size := PySem.W.hideAll_size _ _
theorem hidT_get {h : Heap} {H : Hp} {b : Addr} {o : Obj} (e : h.get? b = some o) (n : H b = none) : (hidT h H).get? b = some o :=
  PySem.W.hideAll_get _ e fun hm => by
    have q : (H b).isSome = true := (List.mem_filter.mp hm).2
    rw [n] at q; simp at q
theorem of_hidT {h : Heap} {H : Hp} {b : Addr} {o : Obj} (e : (hidT h H).get? b = some o) : h.get? b = some o ∧ H b = none := by
  have e' : h.get? b = some o := PySem.W.of_hideAll (trk h H) e
  refine ⟨e', ?_⟩
  cases q : H b with
  | none => rfl
  | some x =>
    have hm : b ∈ trk h H := List.mem_filter.mpr ⟨List.mem_range.mpr (Heap.lt_size e'), by simp [q]⟩
    have z : (hidT h H).get? b = none := PySem.W.hideAll_none (trk h H) hm
    rw [z] at e; cases e

noncomputable def allNews (g h : Heap) (L : Addr) : List (Addr × Obj) := (List.range h.objs.size).filterMap fun a => if a = L ∨ (g.get? a).isSome = true then none else (h.get? a).map fun o => (a, o)
noncomputable def rest (g h : Heap) (L d : Addr) : List (Addr × Obj) := (allNews g h L).filter fun p => decide (p.1 ≠ d)
end L2

namespace L2
open PySem PySem.Spec PyProof.Rows

structure Mod (K : PySem.W.Frag) (mg : Str → Option Value) (base : Heap) : Prop where
  kin : K.In base
  glob : base.Ns mainGlobals mg
  blt : ∃ mb, base.Ns builtinsNs mb ∧ ∀ x : Str, x ≠ "__name__" → mb x = bootBuiltins x
  nolimit : base.NoLimit

structure Cx where
  prog : Program
  w : World
  K : PySem.W.Frag
  mg : Str → Option Value
  base : Heap
  A : Around
  N : List Str
  s₀ : Shared
  H₀ : Hp
  env : Env
  outer : List Env
  stack : List Env
  ex : List Addr
  fn : Str → Bool
  calm : Bool
  pn : List (Addr × Obj)
  xe : Value → Shared → Prop
noncomputable def frs (l : List Env) : List Addr := l.filterMap (·.frame)
noncomputable abbrev Cx.fs (X : Cx) : List Addr := frs X.outer

noncomputable def Vis (sc : Scope) (x : Str) : Prop := sc.names.lookup x = some .local ∨ sc.names.lookup x = some .cell ∨ sc.names.lookup x = some .free
noncomputable def Loc (sc : Scope) (x : Str) : Prop := sc.names.lookup x = some .local ∨ sc.names.lookup x = some .cell
noncomputable def Look (env : Env) (h : Heap) (m : Str → Option Value) (x : Str) (u : Value) : Prop :=
  (env.kindOf x = some .local ∧ m x = some u) ∨ ((env.kindOf x = some .cell ∨ env.kindOf x = some .free) ∧ ∃ c, env.cells.lookup x = some c ∧ h.IsCell c (some u))

structure Cx.Ok (X : Cx) : Prop where
  mod : Mod X.K X.mg X.base
  kind : X.env.scope.kind = .function
  glob : X.env.globals = mainGlobals
  blt : X.env.builtins = builtinsNs
  above : X.s₀.heap.objs.size ≤ X.env.locals
  inj : ∀ x y c, X.env.cells.lookup x = some c → X.env.cells.lookup y = some c → x = y
  has : ∀ x, (X.env.kindOf x = some .cell ∨ X.env.kindOf x = some .free) → ∃ c, X.env.cells.lookup x = some c
  cab : ∀ x c, X.fn x = true → X.env.cells.lookup x = some c → X.s₀.heap.objs.size ≤ c
  hd : X.calm = true → X.A.handled = none
  frames : X.A.frames = some X.stack
  stk : X.stack = X.outer ∨ (X.stack = X.env :: X.outer ∧ X.env.frame = some X.env.locals)
  exf : ∀ b ∈ X.ex, b ≠ X.env.locals ∧ ∀ x c, X.env.cells.lookup x = some c → c ≠ b
  bs : ∀ b o, X.base.get? b = some o → X.s₀.heap.get? b = some o ∧ X.H₀ b = none
  bsz : X.base.objs.size ≤ X.s₀.heap.objs.size
  noex : ∀ b o, X.base.get? b = some o → b ∉ X.ex
  exfs : ∀ b ∈ X.ex, b ∉ X.fs
  funs : X.s₀.heap.FunFrames X.base X.outer
  frf : ∀ b ∈ X.fs, X.H₀ b = none

structure Inv (X : Cx) (pins : List (Addr × Obj)) (σ : List (Option V)) (H : Hp) (s : Shared) : Prop where
  ok : X.Ok
  os : s.os = X.s₀.os
  bare : AllBare s.gens
  base : Un X.fs X.ex X.H₀ H X.s₀.heap s.heap
  loc : ∃ m, s.heap.Ns X.env.locals m ∧ ∀ (i : Nat) (x : Str) (v : V), X.N[i]? = some x → σ[i]? = some (some v) → Vis X.env.scope x → ∃ u, RelV v u ∧ Look X.env s.heap m x u
  cell : ∀ x c, X.env.cells.lookup x = some c → ∃ v, s.heap.IsCell c v
  free : H X.env.locals = none
  freeC : ∀ x c, X.env.cells.lookup x = some c → H c = none
  pin : ∀ p ∈ X.pn ++ pins, s.heap.get? p.1 = some p.2 ∧ H p.1 = none ∧ p.1 ≠ X.env.locals ∧ p.1 ∉ X.fs ∧ ∀ v, p.2.data ≠ .cell v
  hok : HOk X.prog X.w H s.heap
  len : σ.length = X.N.length

section
variable {X : Cx} {pins : List (Addr × Obj)} {σ : List (Option V)} {H H' : Hp} {s : Shared} {h' : Heap}

theorem Cx.Ok.nofr (ok : X.Ok) {b : Addr} {o : Obj} (e : X.base.get? b = some o) : b ∉ X.fs := fun hb => by
  have := (ok.funs.mem hb).1
  rw [e] at this; cases this
theorem Inv.bs (I : Inv X pins σ H s) : ∀ b o, X.base.get? b = some o → s.heap.get? b = some o ∧ H b = none := fun b o e =>
  ⟨I.base.keep b o (I.ok.bs b o e).1 (I.ok.bs b o e).2 (I.ok.nofr e) (I.ok.noex b o e), I.base.free b o (I.ok.bs b o e).1 (I.ok.bs b o e).2 (I.ok.noex b o e)⟩
theorem Inv.bk (I : Inv X pins σ H s) : ∀ b o, X.base.get? b = some o → s.heap.get? b = some o := fun b o e => (I.bs b o e).1
theorem Inv.mod (I : Inv X pins σ H s) : Mod X.K X.mg X.base := I.ok.mod
theorem Inv.kIn (I : Inv X pins σ H s) : X.K.In s.heap := I.ok.mod.kin.keeps I.bk
theorem Inv.nolimit (I : Inv X pins σ H s) : s.heap.NoLimit := I.ok.mod.nolimit.keeps I.bk
theorem Inv.fr (I : Inv X pins σ H s) : ∃ m, Fr X.base X.env.locals s.heap m :=
  let ⟨m, hn, _⟩ := I.loc
  ⟨m, hn, I.bk, Nat.le_trans I.ok.bsz I.ok.above⟩
theorem Inv.lt (I : Inv X pins σ H s) : X.env.locals < s.heap.objs.size := let ⟨_, hn, _⟩ := I.loc; hn.lt
theorem Inv.sz (I : Inv X pins σ H s) : X.s₀.heap.objs.size ≤ s.heap.objs.size := Nat.le_trans I.ok.above (Nat.le_of_lt I.lt)
theorem Inv.nofs (I : Inv X pins σ H s) {a : Addr} (h : s.heap.objs.size ≤ a) : a ∉ X.fs := fun hb => by
  obtain ⟨_, o, ho, _⟩ := I.ok.funs.mem hb
  exact absurd (Nat.lt_of_lt_of_le (Heap.lt_size ho) (Nat.le_trans I.sz h)) (Nat.lt_irrefl _)
theorem Inv.cne (I : Inv X pins σ H s) : ∀ x c, X.env.cells.lookup x = some c → c ≠ X.env.locals := fun x c e z => by
  obtain ⟨v, o, ho, hd⟩ := I.cell x c e
  obtain ⟨m, ⟨o', es, ep, ho', hd', _⟩, _⟩ := I.loc
  rw [z, ho'] at ho; cases ho; rw [hd'] at hd; cases hd
theorem Inv.funs (I : Inv X pins σ H s) : s.heap.FunFrames X.base X.outer := by
  have all : ∀ (l : List Env), (∀ b ∈ frs l, b ∈ X.fs) → X.s₀.heap.FunFrames X.base l → s.heap.FunFrames X.base l := by
    intro l
    induction l with
    | nil => intro _ _; trivial
    | cons env r ih =>
      intro hs hl
      obtain ⟨hk, ⟨L, o, hf, hn, ho, hd⟩, hr⟩ := hl
      have hL : L ∈ X.fs := hs L (by unfold frs; rw [List.filterMap_cons, hf]; exact List.mem_cons_self)
      obtain ⟨sl, e⟩ := I.base.slot L o ho (I.ok.frf L hL) hL fun z => I.ok.exfs L z hL
      exact ⟨hk, ⟨L, _, hf, hn, e, hd⟩, ih (fun b hb => hs b (by unfold frs; rw [List.filterMap_cons, hf]; exact List.mem_cons_of_mem _ hb)) hr⟩
  exact all X.outer (fun _ hb => hb) I.ok.funs

theorem Inv.stack (I : Inv X pins σ H s) : s.heap.FunFrames X.base X.stack := by
  rcases I.ok.stk with e | ⟨e, hf⟩
  · rw [e]; exact I.funs
  · rw [e]
    obtain ⟨m, hn, _⟩ := I.loc
    refine .cons (by rw [I.ok.kind]; decide) hf hn ?_ I.funs
    exact Heap.get?_none_of_le (Nat.le_trans I.ok.bsz I.ok.above)
theorem Inv.stkSub (I : Inv X pins σ H s) : ∀ b ∈ frs X.stack, b ∈ X.env.locals :: X.fs := fun b hb => by
  rcases I.ok.stk with e | ⟨e, hf⟩
  · rw [e] at hb; exact List.mem_cons_of_mem _ hb
  · rw [e] at hb
    unfold frs at hb
    rw [List.filterMap_cons, hf] at hb
    exact hb
theorem Inv.stkFree (I : Inv X pins σ H s) : ∀ b ∈ frs X.stack, H b = none := fun b hb => by
  rcases List.mem_cons.mp (I.stkSub b hb) with e | hb
  · rw [e]; exact I.free
  · obtain ⟨_, o, ho, _⟩ := I.ok.funs.mem hb
    exact I.base.free b o ho (I.ok.frf b hb) fun z => I.ok.exfs b z hb

theorem Inv.step {g' : Array GenState} {t' : Nat} {d' : Drawn} {ch : List Addr} (I : Inv X pins σ H s)
    (hch : ∀ b ∈ ch, (b ∈ X.ex ∨ X.s₀.heap.objs.size ≤ b) ∧ b ≠ X.env.locals ∧ (∀ x c, X.env.cells.lookup x = some c → c ≠ b) ∧ ∀ p ∈ X.pn ++ pins, p.1 ≠ b)
    (keep : ∀ b o, b ≠ X.env.locals → b ∉ X.fs → b ∉ ch → s.heap.get? b = some o → H b = none → h'.get? b = some o)
    (slot : ∀ b o, b ≠ X.env.locals → b ∈ X.fs → b ∉ ch → s.heap.get? b = some o → H b = none → ∃ sl, h'.get? b = some { o with slots := sl }) (free : ∀ b o, b ∉ ch → s.heap.get? b = some o → H b = none → H' b = none)
    (there : ∀ b o, b ∉ ch → s.heap.get? b = some o → ∃ o', h'.get? b = some o')
    (tups : ∀ b xs, H b = some (.tup xs) → H' b = some (.tup xs)) (frzs : ∀ b o u, H b = some (.frz o u) → H' b = some (.frz o u)) (tbls : ∀ b ps, H b = some (.tbl ps) → ∃ more, H' b = some (.tbl (ps ++ more)))
    (ns : ∀ m, s.heap.Ns X.env.locals m → h'.Ns X.env.locals m) (hok : HOk X.prog X.w H' h') (hg : AllBare g') :
    Inv X pins σ H' { s with heap := h', gens := g', drawn := d', toks := t' } := by
  have neL : ∀ b o, X.s₀.heap.get? b = some o → b ≠ X.env.locals := fun b o e => Nat.ne_of_lt (Nat.lt_of_lt_of_le (Heap.lt_size e) I.ok.above)
  have neC : ∀ b o, X.s₀.heap.get? b = some o → b ∉ X.ex → b ∉ ch := fun b o e hx hb => by
    rcases (hch b hb).1 with z | z
    · exact hx z
    · exact absurd (Nat.lt_of_lt_of_le (Heap.lt_size e) z) (Nat.lt_irrefl _)
  have cellK : ∀ x c, X.env.cells.lookup x = some c → ∀ v, s.heap.IsCell c v → h'.IsCell c v := fun x c e v zz => by
    obtain ⟨o, ho, hd⟩ := zz
    have nch : c ∉ ch := fun z => (hch c z).2.2.1 x c e rfl
    by_cases hc : c ∈ X.fs
    · obtain ⟨sl, q⟩ := slot c o (I.cne x c e) hc nch ho (I.freeC x c e)
      exact ⟨_, q, hd⟩
    · exact ⟨o, keep c o (I.cne x c e) hc nch ho (I.freeC x c e), hd⟩
  refine ⟨I.ok, I.os, hg, ⟨fun b o e n hb hx => ?_, fun b o e n hb hx => ?_, fun b o e n hx => ?_, fun b o e hx => ?_, fun b xs e => tups b xs (I.base.tups b xs e), fun b o xs e => frzs b o xs (I.base.frzs b o xs e), fun b ps e => ?_⟩, ?_, fun x c e => ?_, ?_, fun x c e => ?_, fun p hp => ?_, hok, I.len⟩
  · exact keep b o (neL b o e) hb (neC b o e hx) (I.base.keep b o e n hb hx) (I.base.free b o e n hx)
  · obtain ⟨sl, e1⟩ := I.base.slot b o e n hb hx
    obtain ⟨sl', e2⟩ := slot b _ (neL b o e) hb (neC b o e hx) e1 (I.base.free b o e n hx)
    exact ⟨sl', e2⟩
  · obtain ⟨o', e1⟩ := I.base.there b o e hx
    exact free b o' (neC b o e hx) e1 (I.base.free b o e n hx)
  · obtain ⟨o', e1⟩ := I.base.there b o e hx
    exact there b o' (neC b o e hx) e1
  · obtain ⟨m1, e1⟩ := I.base.tbls b ps e
    obtain ⟨m2, e2⟩ := tbls b _ e1
    exact ⟨m1 ++ m2, by rw [e2, Array.append_assoc]⟩
  · obtain ⟨m, hn, hl⟩ := I.loc
    refine ⟨m, ns m hn, fun i x v e1 e2 e3 => ?_⟩
    obtain ⟨u, r, l⟩ := hl i x v e1 e2 e3
    refine ⟨u, r, ?_⟩
    rcases l with l | ⟨k, c, e, z⟩
    · exact .inl l
    · exact .inr ⟨k, c, e, cellK x c e _ z⟩
  · obtain ⟨v, z⟩ := I.cell x c e
    exact ⟨v, cellK x c e v z⟩
  · obtain ⟨m, ⟨o, _, _, ho, _⟩, _⟩ := I.loc
    exact free _ o (fun z => (hch _ z).2.1 rfl) ho I.free
  · obtain ⟨v, o, ho, hd⟩ := I.cell x c e
    exact free c o (fun z => (hch c z).2.2.1 x c e rfl) ho (I.freeC x c e)
  · obtain ⟨e, n, ne, nf, d⟩ := I.pin p hp
    have nch : p.1 ∉ ch := fun z => (hch p.1 z).2.2.2 p hp rfl
    exact ⟨keep p.1 p.2 ne nf nch e n, free p.1 p.2 nch e n, ne, nf, d⟩
theorem Inv.un {t' : Nat} (I : Inv X pins σ H s) (u : Un X.fs [] H H' s.heap h') (hok : HOk X.prog X.w H' h') : Inv X pins σ H' { s with heap := h', toks := t' } := by
  obtain ⟨m, ⟨o, es, ep, ho, r⟩, _⟩ := id I.loc
  obtain ⟨sl, hL⟩ := u.any ho I.free (by simp)
  exact I.step (g' := s.gens) (d' := s.drawn) (ch := []) (fun _ z => nomatch z) (fun b o _ hb _ e n => u.keep b o e n hb (by simp)) (fun b o _ hb _ e n => u.slot b o e n hb (by simp)) (fun b o _ e n => u.free b o e n (by simp)) (fun b o _ e => u.there b o e (by simp)) u.tups u.frzs u.tbls (fun m' hm => by
    obtain ⟨o', es', ep', ho', r'⟩ := hm
    rw [ho] at ho'; cases ho'
    exact ⟨_, es', ep', hL, r'⟩) hok I.bare
theorem Inv.call {g' : Array GenState} {t' : Nat} {d' : Drawn} {ch : List Addr} (I : Inv X pins σ H s) (u : Un (frs X.stack) ch H H' s.heap h') (hok : HOk X.prog X.w H' h') (hg : AllBare g')
    (hch : ∀ b ∈ ch, (b ∈ X.ex ∨ X.s₀.heap.objs.size ≤ b) ∧ b ≠ X.env.locals ∧ (∀ x c, X.env.cells.lookup x = some c → c ≠ b) ∧ ∀ p ∈ X.pn ++ pins, p.1 ≠ b) :
    Inv X pins σ H' { s with heap := h', gens := g', drawn := d', toks := t' } := by
  obtain ⟨m, ⟨o, es, ep, ho, r⟩, _⟩ := id I.loc
  obtain ⟨sl, hL⟩ := u.any ho I.free fun z => (hch _ z).2.1 rfl
  exact I.step (ch := ch) hch (fun b o hL hb hc e n => u.keep b o e n (fun z => (List.mem_cons.mp (I.stkSub b z)).elim hL hb) hc) (fun b o _ _ hc e n => u.any e n hc) (fun b o hc e n => u.free b o e n hc) (fun b o hc e => u.there b o e hc) u.tups u.frzs u.tbls (fun m' hm => by
    obtain ⟨o', es', ep', ho', r'⟩ := hm
    rw [ho] at ho'; cases ho'
    exact ⟨_, es', ep', hL, r'⟩) hok hg
theorem Inv.turned {t' : Nat} {it : Addr} (I : Inv X pins σ H s) (k : ∀ b o, b ≠ it → s.heap.get? b = some o → h'.get? b = some o) (hn : H it = none) (hL : it ≠ X.env.locals)
    (h1 : it ∈ X.ex ∨ X.s₀.heap.objs.size ≤ it) (h2 : ∀ x c, X.env.cells.lookup x = some c → c ≠ it) (h3 : ∀ p ∈ X.pn ++ pins, p.1 ≠ it) : Inv X pins σ H { s with heap := h', toks := t' } := by
  have nit : ∀ b u, H b = some u → b ≠ it := fun b u e z => by rw [z, hn] at e; cases e
  refine I.step (g' := s.gens) (d' := s.drawn) (ch := [it]) (fun b hb => ?_) (fun b o _ _ hc e _ => k b o (fun z => hc (by simp [z])) e) (fun b o _ _ hc e _ => ⟨o.slots, k b o (fun z => hc (by simp [z])) e⟩) (fun _ _ _ _ n => n)
    (fun b o hc e => ⟨o, k b o (fun z => hc (by simp [z])) e⟩) (fun _ _ e => e) (fun _ _ _ e => e) (fun b ps e => ⟨#[], by rw [e]; simp⟩) (fun m hm => ?_) (fun b u e => ?_) I.bare
  · have e : b = it := by simpa using hb
    subst e
    exact ⟨h1, hL, h2, h3⟩
  · obtain ⟨o, es, ep, ho, r⟩ := hm
    exact ⟨o, es, ep, k _ o (Ne.symm hL) ho, r⟩
  · refine (I.hok b u e).stay (fun c v hc q => k c v ?_ q) (fun _ q => q) fun _ _ q => q
    rcases hc with z | z
    · rw [z]; exact nit b u e
    · exact nit c _ z
theorem Inv.tok (I : Inv X pins σ H s) (t : Nat) : Inv X pins σ H { s with toks := t } := I.un (h' := s.heap) (t' := t) Un.refl I.hok
theorem Inv.kept {t' : Nat} (I : Inv X pins σ H s) (k : ∀ b u, s.heap.get? b = some u → h'.get? b = some u) : Inv X pins σ H { s with heap := h', toks := t' } := I.un (Un.kept k) (I.hok.kept k)
theorem Inv.laid {a : Addr} {o : HO} {t' : Nat} (I : Inv X pins σ H s) (k : ∀ b u, s.heap.get? b = some u → h'.get? b = some u) (hp : s.heap.objs.size ≤ a) (new : ObjOk X.prog X.w (upd H a o) h' a o) :
    Inv X pins σ (upd H a o) { s with heap := h', toks := t' } := I.un (Un.laid k hp (I.hok.fresh hp)) (I.hok.laid k hp new)
theorem Inv.write {x e : Addr} {o : HO} {t' : Nat} (I : Inv X pins σ H s) (mu : Mut (H x)) (he : e = x ∨ H e = some (.own x)) (k : ∀ b u, b ≠ e → s.heap.get? b = some u → h'.get? b = some u) (heo : ∃ u, h'.get? e = some u)
    (new : ObjOk X.prog X.w (upd H x o) h' x o) : Inv X pins σ (upd H x o) { s with heap := h', toks := t' } := I.un (Un.write mu he k heo) (I.hok.write mu he k heo new)
theorem Inv.pins_of {pins' : List (Addr × Obj)} (I : Inv X pins σ H s) (h : ∀ p ∈ pins', s.heap.get? p.1 = some p.2 ∧ H p.1 = none ∧ p.1 ≠ X.env.locals ∧ p.1 ∉ X.fs ∧ ∀ v, p.2.data ≠ .cell v) : Inv X pins' σ H s :=
  ⟨I.ok, I.os, I.bare, I.base, I.loc, I.cell, I.free, I.freeC, fun p hp => (List.mem_append.mp hp).elim (fun z => I.pin p (List.mem_append_left _ z)) (h p), I.hok, I.len⟩

theorem nodup_ix {N : List Str} (hN : N.Nodup) {i j : Nat} {x : Str} (a : N[i]? = some x) (b : N[j]? = some x) : i = j := by
  obtain ⟨h1, e1⟩ := List.getElem?_eq_some_iff.mp a
  obtain ⟨h2, e2⟩ := List.getElem?_eq_some_iff.mp b
  exact (List.getElem_inj hN).mp (e1.trans e2.symm)

theorem store_ok2 {M : Model} {A : Around} {E : Value → Shared → Prop} {i : Nat} {x : Str} {v : V} {u : Value} {Q : Unit → Shared → Prop} (I : Inv X pins σ H s) (hN : X.N.Nodup) (hi : X.N[i]? = some x) (hx : Loc X.env.scope x) (r : RelV v u)
    (h : ∀ s', Inv X pins (σ.set i (some v)) H s' → (∃ a, Heap.SameBut a s.heap s'.heap ∧ (a = X.env.locals ∨ X.env.cells.lookup x = some a)) → Q () s') (hf : X.fn x = true ∨ X.env.scope.names.lookup x = some .local := by first | exact .inl rfl | exact .inr rfl | assumption) : wpAny M A (storeName X.env x u) Q E s := by
  obtain ⟨m, hn, hl⟩ := id I.loc
  have hcls : (X.env.scope.kind == .class || (X.env.scope.kind == .module && X.env.locals != X.env.globals)) = false := by rw [I.ok.kind]; rfl
  have hiσ : i < σ.length := by rw [I.len]; exact (List.getElem?_eq_some_iff.mp hi).1
  have cne := I.cne
  have tracked : ∀ {a : Addr} {h' : Heap}, (∃ o, s.heap.get? a = some o ∧ H a = none) → Heap.SameBut a s.heap h' → HOk X.prog X.w H h' := fun {a h'} ha hs b ob e => by
    obtain ⟨_, _, hfree⟩ := ha
    refine (I.hok b ob e).stay (fun c w' hc q => (hs.2 c ?_).trans q) (fun _ q => q) fun _ _ q => q
    rintro rfl
    rcases hc with rfl | hc
    · rw [hfree] at e; cases e
    · rw [hfree] at hc; cases hc
  rcases hx with hk | hk
  · refine wpAny_storeName_local hk hn (fun h' hn' hs => ?_) hcls
    obtain ⟨oL, _, _, hoL, _⟩ := id hn
    refine h _ ⟨I.ok, I.os, I.bare, ⟨fun b o e n hb hx => ?_, fun b o e n hb hx => ?_, I.base.free, fun b o e hx => ?_, I.base.tups, I.base.frzs, I.base.tbls⟩, ⟨_, hn', fun j y v' e1 e2 e3 => ?_⟩, fun y c e => ?_, I.free, I.freeC, fun p hp => ?_, tracked ⟨oL, hoL, I.free⟩ hs, by simpa using I.len⟩ ⟨_, hs, .inl rfl⟩
    · exact (hs.2 b (Nat.ne_of_lt (Nat.lt_of_lt_of_le (Heap.lt_size e) I.ok.above))).trans (I.base.keep b o e n hb hx)
    · obtain ⟨sl, e1⟩ := I.base.slot b o e n hb hx
      exact ⟨sl, (hs.2 b (Nat.ne_of_lt (Nat.lt_of_lt_of_le (Heap.lt_size e) I.ok.above))).trans e1⟩
    · obtain ⟨o', e1⟩ := I.base.there b o e hx
      exact ⟨o', (hs.2 b (Nat.ne_of_lt (Nat.lt_of_lt_of_le (Heap.lt_size e) I.ok.above))).trans e1⟩
    · by_cases hj : j = i
      · subst hj
        rw [hi] at e1; cases e1
        rw [List.getElem?_set_self hiσ] at e2
        cases e2
        exact ⟨u, r, .inl ⟨hk, by simp⟩⟩
      · rw [List.getElem?_set_ne (Ne.symm hj)] at e2
        obtain ⟨u', r', q⟩ := hl j y v' e1 e2 e3
        refine ⟨u', r', ?_⟩
        rcases q with ⟨k, e⟩ | ⟨k, c, e, z⟩
        · refine .inl ⟨k, ?_⟩
          have : y ≠ x := fun e => hj (nodup_ix hN e1 (e ▸ hi))
          simp [this, e]
        · exact .inr ⟨k, c, e, z.sameBut hs (cne y c e)⟩
    · obtain ⟨w', z⟩ := I.cell y c e
      exact ⟨w', z.sameBut hs (cne y c e)⟩
    · obtain ⟨e, n, ne, nf, d⟩ := I.pin p hp
      exact ⟨(hs.2 p.1 ne).trans e, n, ne, nf, d⟩
  · have hfn : X.fn x = true := by
      rcases hf with z | z
      · exact z
      · rw [z] at hk; cases hk
    obtain ⟨c, hc⟩ := I.ok.has x (.inl hk)
    obtain ⟨w', z⟩ := I.cell x c hc
    refine wpAny_storeName_cell I.ok.kind hk hc z (fun h' hc' hs => ?_)
    obtain ⟨oc, hoc, hocd⟩ := id z
    refine h { s with heap := h' } ⟨I.ok, I.os, I.bare, ⟨fun b o e n hb hx => ?_, fun b o e n hb hx => ?_, I.base.free, fun b o e hx => ?_, I.base.tups, I.base.frzs, I.base.tbls⟩, ⟨m, hn.sameBut hs (Ne.symm (cne x c hc)), fun j y v' e1 e2 e3 => ?_⟩, fun y c' e => ?_, I.free, I.freeC, fun p hp => ?_, tracked ⟨oc, hoc, I.freeC x c hc⟩ hs, by simpa using I.len⟩ ⟨c, hs, .inr hc⟩
    · exact (hs.2 b (Nat.ne_of_lt (Nat.lt_of_lt_of_le (Heap.lt_size e) (I.ok.cab x c hfn hc)))).trans (I.base.keep b o e n hb hx)
    · obtain ⟨sl, e1⟩ := I.base.slot b o e n hb hx
      exact ⟨sl, (hs.2 b (Nat.ne_of_lt (Nat.lt_of_lt_of_le (Heap.lt_size e) (I.ok.cab x c hfn hc)))).trans e1⟩
    · obtain ⟨o', e1⟩ := I.base.there b o e hx
      exact ⟨o', (hs.2 b (Nat.ne_of_lt (Nat.lt_of_lt_of_le (Heap.lt_size e) (I.ok.cab x c hfn hc)))).trans e1⟩
    · by_cases hj : j = i
      · subst hj
        rw [hi] at e1; cases e1
        rw [List.getElem?_set_self hiσ] at e2
        cases e2
        exact ⟨u, r, .inr ⟨.inl hk, c, hc, hc'⟩⟩
      · rw [List.getElem?_set_ne (Ne.symm hj)] at e2
        obtain ⟨u', r', q⟩ := hl j y v' e1 e2 e3
        refine ⟨u', r', ?_⟩
        rcases q with q | ⟨k, c', e, z'⟩
        · exact .inl q
        · refine .inr ⟨k, c', e, z'.sameBut hs ?_⟩
          rintro rfl
          exact hj (nodup_ix hN e1 (I.ok.inj _ _ _ e hc ▸ hi))
    · by_cases hcc : c' = c
      · subst hcc; exact ⟨_, hc'⟩
      · obtain ⟨w2, z2⟩ := I.cell y c' e
        exact ⟨w2, z2.sameBut hs hcc⟩
    · obtain ⟨e, n, ne, nf, d⟩ := I.pin p hp
      refine ⟨(hs.2 p.1 ?_).trans e, n, ne, nf, d⟩
      intro q
      rw [q, hoc] at e
      have q' : oc = p.2 := Option.some.inj e
      exact d w' (by rw [← q']; exact hocd)
theorem store_ok {M : Model} {A : Around} {E : Value → Shared → Prop} {i : Nat} {x : Str} {v : V} {u : Value} {Q : Unit → Shared → Prop} (I : Inv X pins σ H s) (hN : X.N.Nodup) (hi : X.N[i]? = some x) (hx : Loc X.env.scope x) (r : RelV v u)
    (h : ∀ s', Inv X pins (σ.set i (some v)) H s' → Q () s') (hf : X.fn x = true ∨ X.env.scope.names.lookup x = some .local := by first | exact .inl rfl | exact .inr rfl | assumption) : wpAny M A (storeName X.env x u) Q E s :=
  store_ok2 I hN hi hx r (fun s' I' _ => h s' I') hf
theorem Inv.call' {s' : Shared} {ch : List Addr} (I : Inv X pins σ H s) (ho : s'.os = s.os) (u : Un (frs X.stack) ch H H' s.heap s'.heap) (hok : HOk X.prog X.w H' s'.heap) (hg : AllBare s'.gens)
    (hch : ∀ b ∈ ch, (b ∈ X.ex ∨ X.s₀.heap.objs.size ≤ b) ∧ b ≠ X.env.locals ∧ (∀ x c, X.env.cells.lookup x = some c → c ≠ b) ∧ ∀ p ∈ X.pn ++ pins, p.1 ≠ b) : Inv X pins σ H' s' := by
  obtain ⟨h', g', d', t', o'⟩ := s'
  have e : o' = s.os := ho
  subst e
  exact I.call (g' := g') (t' := t') (d' := d') u hok hg hch
end

noncomputable abbrev XK := Value → Option Addr → Hp → Prop
noncomputable abbrev St := List (Option V)
noncomputable abbrev VK := V → Hp → Prop
noncomputable abbrev TE := St → Hp → VK → Prop
noncomputable abbrev TT := St → Hp → (Bool → Hp → Prop) → Prop
noncomputable abbrev TA := St → Hp → (List V → Hp → Prop) → Prop
structure Ends where
  nx : St → Hp → Prop
  rt : VK
  bk : St → Hp → Prop := fun _ _ => False
  ct : St → Hp → Prop := fun _ _ => False
noncomputable abbrev TS := Ends → St → Hp → Prop

noncomputable def EP (X : Cx) (pins : List (Addr × Obj)) (σ : St) (Q : VK) (u : Value) (s' : Shared) : Prop := ∃ v H', Inv X pins σ H' s' ∧ RelV v u ∧ Q v H'
noncomputable def TP (X : Cx) (pins : List (Addr × Obj)) (σ : St) (Q : Bool → Hp → Prop) (b : Bool) (s' : Shared) : Prop := ∃ H', Inv X pins σ H' s' ∧ Q b H'
noncomputable def AP (X : Cx) (pins : List (Addr × Obj)) (σ : St) (Q : List V → Hp → Prop) (us : List Value) (s' : Shared) : Prop := ∃ vs H', Inv X pins σ H' s' ∧ Vals vs us ∧ Q vs H'
noncomputable def SP (X : Cx) (pins : List (Addr × Obj)) (D : Ends) (f : Flow) (s' : Shared) : Prop :=
  match f with
  | .next => ∃ σ' H', Inv X pins σ' H' s' ∧ D.nx σ' H'
  | .brk => ∃ σ' H', Inv X pins σ' H' s' ∧ D.bk σ' H'
  | .cont => ∃ σ' H', Inv X pins σ' H' s' ∧ D.ct σ' H'
  | .ret u => ∃ v σ' H', Inv X pins σ' H' s' ∧ RelV v u ∧ D.rt v H'

noncomputable def PE (X : Cx) (e : Expr) (t : TE) : Prop :=
  ∀ (pins : List (Addr × Obj)) (s : Shared) (σ : St) (H : Hp) (Q : VK), Inv X pins σ H s → t σ H Q → wpAny (model X.prog X.w) X.A (eval e X.env) (EP X pins σ Q) X.xe s
noncomputable def PT (X : Cx) (e : Expr) (t : TT) : Prop :=
  ∀ (pins : List (Addr × Obj)) (s : Shared) (σ : St) (H : Hp) (Q : Bool → Hp → Prop), Inv X pins σ H s → t σ H Q → wpAny (model X.prog X.w) X.A (isTrue e X.env (eval e X.env)) (TP X pins σ Q) X.xe s
noncomputable def PW (X : Cx) (e : Expr) (t : TT) : Prop :=
  ∀ (whole : Sem Value) (pins : List (Addr × Obj)) (s : Shared) (σ : St) (H : Hp) (Q : Bool → Hp → Prop), Inv X pins σ H s → t σ H Q → wpAny (model X.prog X.w) X.A (isTrue e X.env whole) (TP X pins σ Q) X.xe s
theorem PW.pt {X : Cx} {e : Expr} {t : TT} (h : PW X e t) : PT X e t := h _
noncomputable def PA (X : Cx) (es : List Expr) (t : TA) : Prop :=
  ∀ (pos : Pos) (pins : List (Addr × Obj)) (s : Shared) (σ : St) (H : Hp) (Q : List V → Hp → Prop), Inv X pins σ H s → t σ H Q → wpAny (model X.prog X.w) X.A (spliced (backTo pos (starEach es X.env))) (AP X pins σ Q) X.xe s
noncomputable def PS (X : Cx) (st : Stmt) (t : TS) : Prop :=
  ∀ (pins : List (Addr × Obj)) (s : Shared) (σ : St) (H : Hp) (D : Ends), Inv X pins σ H s → t D σ H → wpAny (model X.prog X.w) X.A (exec st X.env) (SP X pins D) X.xe s
noncomputable def PSs (X : Cx) (st : List Stmt) (t : TS) : Prop :=
  ∀ (pins : List (Addr × Obj)) (s : Shared) (σ : St) (H : Hp) (D : Ends), Inv X pins σ H s → t D σ H → wpAny (model X.prog X.w) X.A (execs st X.env) (SP X pins D) X.xe s
theorem thn {α : Type} {t : Sem α} {Q Q' : α → Shared → Prop} {M : Model} {A : Around} {E : Value → Shared → Prop} {s : Shared} (h : wpAny M A t Q E s) (hQ : ∀ a s, Q a s → Q' a s) : wpAny M A t Q' E s := wpAny_mono h hQ fun _ _ x => x
end L2

namespace L2
open PySem PySem.Spec PyProof.Rows
section
variable {X : Cx}

noncomputable def tVar (i : Nat) : TE := fun σ H Q => ∃ v, σ[i]? = some (some v) ∧ Q v H
noncomputable def tC (v : V) : TE := fun _ H Q => Q v H
theorem pe_var {i : Nat} {x : Str} {pos : Pos} (hN : X.N[i]? = some x) (hv : Vis X.env.scope x) (hd : (x == ("__debug__" : Str)) = false := by decide) (hcd : (x == ("__classdict__" : Str)) = false := by decide) : PE X (.Name x pos) (tVar i) := by
  intro pins s σ H Q I h
  obtain ⟨v, e, h⟩ := h
  obtain ⟨m, hn, hl⟩ := I.loc
  obtain ⟨u, r, l⟩ := hl i x v hN e hv
  have fin : EP X pins σ Q u s := ⟨v, H, I, r, h⟩
  rcases l with ⟨hk, hm⟩ | ⟨hk, c, hc, hcell⟩
  · exact wpAny_Name (wpAny_loadName_local I.ok.kind hk hn hm fin) hd
  · rcases hk with hk | hk
    · exact wpAny_Name (wpAny_loadName_cell I.ok.kind hk hc hcell fin) hd
    · exact wpAny_Name (wpAny_loadName_free I.ok.kind hk hc hcell fin hcd) hd
theorem pe_int {i j pos} : PE X (.Constant (.int i) j pos) (tC (.int i)) := fun _ _ _ H _ I h => wpAny_Constant_int ⟨.int i, H, I.tok _, ⟨_, rfl⟩, h⟩
theorem pe_bl {b j pos} : PE X (.Constant (.bool b) j pos) (tC (.bl b)) := fun _ _ _ H _ I h => Constant_bool ⟨.bl b, H, I, rfl, h⟩
theorem pe_str {x j pos} : PE X (.Constant (.str x) j pos) (tC (.str x)) := fun _ _ _ H _ I h => Calls.Constant_str ⟨.str x, H, I.tok _, ⟨_, rfl⟩, h⟩

noncomputable def Gl (X : Cx) (x : Str) : Prop := X.env.kindOf x = some .globalImplicit
theorem ld_glob {E : Value → Shared → Prop} {pins : List (Addr × Obj)} {s : Shared} {σ : St} {H : Hp} {x : Str} {u : Value} {pos : Pos} {Q : Value → Shared → Prop} (I : Inv X pins σ H s) (hg : Gl X x) (hm : X.mg x = some u) (h : Q u s)
    (hd : (x == ("__debug__" : Str)) = false := by decide) : wpAny (model X.prog X.w) X.A (eval (.Name x pos) X.env) Q E s :=
  Calls.Name_function_global I.ok.kind hg (Calls.loadGlobal_global (by rw [I.ok.glob]; exact I.mod.glob.keeps I.bk) hm h) hd
theorem ld_blt {E : Value → Shared → Prop} {pins : List (Addr × Obj)} {s : Shared} {σ : St} {H : Hp} {x : Str} {u : Value} {pos : Pos} {Q : Value → Shared → Prop} (I : Inv X pins σ H s) (hg : Gl X x) (hm : X.mg x = none) (hv : bootBuiltins x = some u) (h : Q u s)
    (hn : x ≠ "__name__" := by decide) (hd : (x == ("__debug__" : Str)) = false := by decide) : wpAny (model X.prog X.w) X.A (eval (.Name x pos) X.env) Q E s := by
  obtain ⟨mb, h1, h2⟩ := I.mod.blt
  exact Calls.Name_function_global I.ok.kind hg (Calls.loadGlobal_builtin (by rw [I.ok.glob]; exact I.mod.glob.keeps I.bk) hm (by rw [I.ok.blt]; exact h1.keeps I.bk) ((h2 x hn).trans hv) h) hd
theorem pe_glob {x : Str} {v : V} {u : Value} {pos : Pos} (hg : Gl X x) (hm : X.mg x = some u) (r : RelV v u) (hd : (x == ("__debug__" : Str)) = false := by decide) : PE X (.Name x pos) (tC v) :=
  fun _ _ _ H _ I h => ld_glob I hg hm ⟨v, H, I, r, h⟩ hd
variable {a b : Expr} {ta tb : TE} {pos : Pos}
noncomputable def tB (t : TE) : TT := fun σ H Q => t σ H fun x H1 => ∃ c, x = .bl c ∧ Q c H1
theorem pt_val {e : Expr} {t : TE} (h : PE X e t) (he : ∀ whole, isTrue e X.env whole = (do let v ← whole; standAt e.pos; holding [v] (truthy v)) := by intro _; rfl) : PT X e (tB t) := by
  intro pins s σ H Q I hw
  refine isTrue_plain (thn (h pins s σ H _ I hw) fun v s1 ⟨x, H1, I1, r1, q1⟩ => ?_) (he _)
  obtain ⟨d, rfl, q⟩ := q1
  cases r1
  exact wpAny_truthy_bool ⟨H1, I1, q⟩

variable {tA tB' : TT} {rest : List Expr}
noncomputable def tAnd (t u : TT) : TT := fun σ H Q => t σ H fun c H1 => if c = true then u σ H1 Q else Q false H1
noncomputable def tOr (t u : TT) : TT := fun σ H Q => t σ H fun c H1 => if c = true then Q true H1 else u σ H1 Q
theorem pw_and1 (ha : PT X a tA) : PW X (.BoolOp .And [a] pos) tA := by
  intro wh pins s σ H Q I h
  refine isTrue_and (thn (ha pins s σ H Q I h) fun c s1 e => ?_)
  cases c with
  | true => exact isTrue_and_nil e
  | false => exact e
theorem pw_or1 (ha : PT X a tA) : PW X (.BoolOp .Or [a] pos) tA := by
  intro wh pins s σ H Q I h
  refine isTrue_or (thn (ha pins s σ H Q I h) fun c s1 e => ?_)
  cases c with
  | false => exact isTrue_or_nil e
  | true => exact e
theorem pw_and (ha : PT X a tA) (hb : PW X (.BoolOp .And (b :: rest) pos) tB') : PW X (.BoolOp .And (a :: b :: rest) pos) (tAnd tA tB') := by
  intro wh pins s σ H Q I h
  refine isTrue_and (thn (ha pins s σ H _ I h) fun c s1 zz => ?_)
  obtain ⟨H1, I1, q1⟩ := zz
  cases c with
  | true => exact hb wh pins s1 σ H1 Q I1 q1
  | false => exact ⟨H1, I1, q1⟩
theorem pw_or (ha : PT X a tA) (hb : PW X (.BoolOp .Or (b :: rest) pos) tB') : PW X (.BoolOp .Or (a :: b :: rest) pos) (tOr tA tB') := by
  intro wh pins s σ H Q I h
  refine isTrue_or (thn (ha pins s σ H _ I h) fun c s1 zz => ?_)
  obtain ⟨H1, I1, q1⟩ := zz
  cases c with
  | true => exact ⟨H1, I1, q1⟩
  | false => exact hb wh pins s1 σ H1 Q I1 q1
noncomputable def tIf (t : TT) (ta tb : TE) : TE := fun σ H Q => t σ H fun c H1 => if c = true then ta σ H1 Q else tb σ H1 Q
theorem pe_ifExp {c : Expr} (hc : PT X c tA) (ha : PE X a ta) (hb : PE X b tb) : PE X (.IfExp c a b pos) (tIf tA ta tb) := by
  intro pins s σ H Q I h
  refine wpAny_IfExp (thn (hc pins s σ H _ I h) fun d s1 zz => ?_)
  obtain ⟨H1, I1, q1⟩ := zz
  cases d with
  | true => exact ha pins s1 σ H1 Q I1 q1
  | false => exact hb pins s1 σ H1 Q I1 q1
end
end L2

namespace L2
open PySem PySem.Spec PyProof.Rows

noncomputable def SqL (K : PySem.W.Frag) (H : Hp) (a : Addr) (xs : List V) : Prop :=
  Rd H a (.lst xs) ∨
    ∃ (o : Obj) (its : Array Value) (n : Nat), K.lookup a = some o ∧ o.cls = .type "list" ∧ o.dict = none ∧ o.data = .seq its n ∧ its.size ≤ sizeLine ∧ Vals xs its.toList
noncomputable def SqT (K : PySem.W.Frag) (H : Hp) (a : Addr) (xs : List V) : Prop :=
  Rd H a (.tup xs) ∨
    ∃ (o : Obj) (its : Array Value) (n : Nat), K.lookup a = some o ∧ o.cls = .type "tuple" ∧ o.data = .seq its n ∧ its.size ≤ sizeLine ∧ Vals xs its.toList
noncomputable def absV : Value → Option V
  | .none => some .non
  | .bool b => some (.bl b)
  | .int i _ => some (.int i)
  | .str x _ => some (.str x)
  | .bytes b _ => some (.byt b)
  | .float b _ => some (.flt b)
  | .ref a => some (.ref a)
  | .type n => some (.ty n)
  | _ => none
theorem RelV.abs {x : V} {u : Value} (r : RelV x u) : absV u = some x := by
  cases x with
  | non => cases r; rfl
  | bl _ => cases r; rfl
  | int _ => obtain ⟨t, rfl⟩ := r; rfl
  | str _ => obtain ⟨t, rfl⟩ := r; rfl
  | byt _ => obtain ⟨t, rfl⟩ := r; rfl
  | flt _ => obtain ⟨t, rfl⟩ := r; rfl
  | ref _ => cases r; rfl
  | ty _ => cases r; rfl
theorem RelV.inj {x y : V} {u : Value} (r : RelV x u) (q : RelV y u) : x = y := Option.some.inj (r.abs.symm.trans q.abs)
theorem Vals.inj : ∀ {xs ys : List V} {us : List Value}, Vals xs us → Vals ys us → xs = ys
  | _, _, _, .nil, .nil => rfl
  | _, _, _, .cons r t, .cons r' t' => by rw [r.inj r', Vals.inj t t']
section
variable {X : Cx} {pins : List (Addr × Obj)} {σ : St} {H : Hp} {s : Shared} {a : Addr} {xs ys : List V}
theorem SqL.of {K : PySem.W.Frag} (h : H a = some (.lst xs)) : SqL K H a xs := .inl (.inl h)
theorem SqT.of {K : PySem.W.Frag} (h : H a = some (.tup xs)) : SqT K H a xs := .inl (.inl h)
theorem Inv.list (I : Inv X pins σ H s) (h : SqL X.K H a xs) : ∃ its : List Value, Vals xs its ∧ PlainL s.heap a its.toArray ∧ xs.length ≤ sizeLine := by
  rcases h with h | ⟨o, its, n, hk, hc, hd, hs, hz, r⟩
  · obtain ⟨z, its, n, r, e⟩ := h.ok I.hok
    exact ⟨its, r, ⟨_, n, e, rfl, rfl, rfl⟩, z⟩
  · refine ⟨its.toList, r, ⟨o, n, I.kIn a o hk, hc, hd, by simpa using hs⟩, ?_⟩
    have e := r.length
    simp only [Array.length_toList] at e
    omega
theorem Inv.tuple (I : Inv X pins σ H s) (h : SqT X.K H a xs) : ∃ its : List Value, Vals xs its ∧ IsTup s.heap a its.toArray ∧ xs.length ≤ sizeLine := by
  rcases h with h | ⟨o, its, n, hk, hc, hs, hz, r⟩
  · obtain ⟨z, its, r, p⟩ := h.ok I.hok
    exact ⟨its, r, p, z⟩
  · refine ⟨its.toList, r, ⟨o, I.kIn a o hk, hc, n, by simpa using hs⟩, ?_⟩
    have e := r.length
    simp only [Array.length_toList] at e
    omega
theorem Inv.list_inj (I : Inv X pins σ H s) (h : SqL X.K H a xs) (h' : SqL X.K H a ys) : xs = ys := by
  obtain ⟨its, r, ⟨o, n, e, _, _, d⟩, _⟩ := I.list h
  obtain ⟨its', r', ⟨o', n', e', _, _, d'⟩, _⟩ := I.list h'
  rw [e] at e'; cases e'
  rw [d] at d'
  injection d' with d1 _
  have : its = its' := by simpa using congrArg Array.toList d1
  subst this
  exact r.inj r'
theorem Inv.tuple_inj (I : Inv X pins σ H s) (h : SqT X.K H a xs) (h' : SqT X.K H a ys) : xs = ys := by
  obtain ⟨its, r, ⟨o, e, _, n, d⟩, _⟩ := I.tuple h
  obtain ⟨its', r', ⟨o', e', _, n', d'⟩, _⟩ := I.tuple h'
  rw [e] at e'; cases e'
  rw [d] at d'
  injection d' with d1 _
  have : its = its' := by simpa using congrArg Array.toList d1
  subst this
  exact r.inj r'
end

noncomputable abbrev Cx.wish (X : Cx) (E : Value → Shared → Prop) : Cx := { X with xe := E }
noncomputable abbrev Cx.nox (X : Cx) : Cx := X.wish fun _ _ => False
theorem Cx.Ok.wish {X : Cx} (ok : X.Ok) (E : Value → Shared → Prop) : (X.wish E).Ok :=
  ⟨ok.mod, ok.kind, ok.glob, ok.blt, ok.above, ok.inj, ok.has, ok.cab, ok.hd, ok.frames, ok.stk, ok.exf, ok.bs, ok.bsz, ok.noex, ok.exfs, ok.funs, ok.frf⟩
theorem Cx.Ok.unwish {X : Cx} {E : Value → Shared → Prop} (ok : (X.wish E).Ok) : X.Ok :=
  ⟨ok.mod, ok.kind, ok.glob, ok.blt, ok.above, ok.inj, ok.has, ok.cab, ok.hd, ok.frames, ok.stk, ok.exf, ok.bs, ok.bsz, ok.noex, ok.exfs, ok.funs, ok.frf⟩
section
variable {X : Cx} {pins : List (Addr × Obj)} {σ : St} {H : Hp} {s : Shared} {E : Value → Shared → Prop}
theorem Inv.wish (I : Inv X pins σ H s) (E : Value → Shared → Prop) : Inv (X.wish E) pins σ H s := ⟨I.ok.wish E, I.os, I.bare, I.base, I.loc, I.cell, I.free, I.freeC, I.pin, I.hok, I.len⟩
theorem Inv.unwish (I : Inv (X.wish E) pins σ H s) : Inv X pins σ H s := ⟨I.ok.unwish, I.os, I.bare, I.base, I.loc, I.cell, I.free, I.freeC, I.pin, I.hok, I.len⟩
theorem SP.unwish {D : Ends} {f : Flow} {s' : Shared} (h : SP (X.wish E) pins D f s') : SP X pins D f s' := by
  cases f with
  | next => obtain ⟨σ', H', I, q⟩ := h; exact ⟨σ', H', I.unwish, q⟩
  | brk => obtain ⟨σ', H', I, q⟩ := h; exact ⟨σ', H', I.unwish, q⟩
  | cont => obtain ⟨σ', H', I, q⟩ := h; exact ⟨σ', H', I.unwish, q⟩
  | ret u => obtain ⟨v, σ', H', I, r, q⟩ := h; exact ⟨v, σ', H', I.unwish, r, q⟩
theorem PE.nox {e : Expr} {t : TE} (h : PE X.nox e t) : PE X e t := fun pins s σ H Q I hw =>
  wpAny_mono (h pins s σ H Q (I.wish _) hw) (fun _ _ ⟨v, H', I', r, q⟩ => ⟨v, H', I'.unwish, r, q⟩) fun _ _ z => False.elim z
theorem PT.nox {e : Expr} {t : TT} (h : PT X.nox e t) : PT X e t := fun pins s σ H Q I hw =>
  wpAny_mono (h pins s σ H Q (I.wish _) hw) (fun _ _ ⟨H', I', q⟩ => ⟨H', I'.unwish, q⟩) fun _ _ z => False.elim z
theorem PSs.nox {st : List Stmt} {t : TS} (h : PSs X.nox st t) : PSs X st t := fun pins s σ H D I hw =>
  wpAny_mono (h pins s σ H D (I.wish _) hw) (fun _ _ q => q.unwish) fun _ _ z => False.elim z
end

section
variable {X : Cx} {st : Stmt} {rest : List Stmt} {t u : TS} {e : Expr} {te : TE} {pos : Pos}
noncomputable def tNext : TS := fun D σ H => D.nx σ H
noncomputable def tSeq (t u : TS) : TS := fun D σ H => t { D with nx := u D } σ H
theorem pss_nil : PSs X [] tNext := fun _ _ σ H _ I h => wpAny_execs_nil ⟨σ, H, I, h⟩
theorem pss_cons (h1 : PS X st t) (h2 : PSs X rest u) : PSs X (st :: rest) (tSeq t u) := by
  intro pins s σ H D I h
  refine wpAny_execs_cons (thn (h1 pins s σ H { D with nx := u D } I h) fun f s1 q => ?_)
  cases f with
  | next =>
    obtain ⟨σ', H', I', q⟩ := q
    exact h2 pins s1 σ' H' D I' q
  | ret v => exact q
  | brk => exact q
  | cont => exact q
theorem pss_one (h1 : PS X st t) : PSs X [st] t := by
  intro pins s σ H D I h
  refine wpAny_execs_cons (thn (h1 pins s σ H D I h) fun f s1 q => ?_)
  cases f with
  | next => exact wpAny_execs_nil q
  | ret v => exact q
  | brk => exact q
  | cont => exact q
theorem Inv.quiet {pins : List (Addr × Obj)} {σ : St} {H : Hp} {s : Shared} (I : Inv X pins σ H s) : interactive X.env = false := by simp [interactive, I.ok.kind]
noncomputable def tDrop (te : TE) : TS := fun D σ H => te σ H fun _ H1 => D.nx σ H1
theorem ps_expr (he : PE X e te) (hs : swapsWith e none pos.line X.env = pure false := by rfl) : PS X (.Expr e pos) (tDrop te) := by
  intro pins s σ H D I h
  exact wpAny_Expr_any (thn (he pins s σ H _ I h) fun v s1 ⟨x, H1, I1, r1, q1⟩ => ⟨σ, H1, I1, q1⟩) I.quiet hs
noncomputable def tRet (te : TE) : TS := fun D σ H => te σ H D.rt
theorem ps_ret (he : PE X e te) : PS X (.Return (some e) pos) (tRet te) := by
  intro pins s σ H D I h
  exact wpAny_Return_some (thn (he pins s σ H _ I h) fun v s1 ⟨x, H1, I1, r1, q1⟩ => ⟨x, σ, H1, I1, r1, q1⟩)
noncomputable def tIfS (c : TT) (t u : TS) : TS := fun D σ H => c σ H fun b H1 => if b = true then t D σ H1 else u D σ H1
theorem ps_if {c : Expr} {a b : List Stmt} {tc : TT} (hc : PT X c tc) (ha : PSs X a t) (hb : PSs X b u) : PS X (.If c a b pos) (tIfS tc t u) := by
  intro pins s σ H D I h
  refine wpAny_If (thn (hc pins s σ H _ I h) fun d s1 zz => ?_)
  obtain ⟨H1, I1, q1⟩ := zz
  cases d with
  | true => exact ha pins s1 σ H1 D I1 q1
  | false => exact hb pins s1 σ H1 D I1 q1
noncomputable def tNever : TS := fun _ _ _ => False
theorem ps_never : PS X st tNever := fun _ _ _ _ _ _ h => h.elim
end

noncomputable abbrev TG := V → St → Hp → (St → Hp → Prop) → Prop
noncomputable abbrev TGs := List V → St → Hp → (St → Hp → Prop) → Prop
noncomputable def PG (X : Cx) (target : Expr) (t : TG) : Prop :=
  ∀ (pins : List (Addr × Obj)) (s : Shared) (σ : St) (H : Hp) (v : V) (u : Value) (Q : St → Hp → Prop), Inv X pins σ H s → RelV v u → t v σ H Q →
    wpAny (model X.prog X.w) X.A (assign target X.env u) (fun _ s' => ∃ σ' H', Inv X pins σ' H' s' ∧ Q σ' H') X.xe s
noncomputable def PGs (X : Cx) (ts : List Expr) (t : TGs) : Prop :=
  ∀ (pins : List (Addr × Obj)) (s : Shared) (σ : St) (H : Hp) (vs : List V) (us : List Value) (Q : St → Hp → Prop), Inv X pins σ H s → Vals vs us → t vs σ H Q →
    wpAny (model X.prog X.w) X.A (assignInOrder ((assignEach ts X.env).map (·.2)) us) (fun _ s' => ∃ σ' H', Inv X pins σ' H' s' ∧ Q σ' H') X.xe s
noncomputable abbrev TSet := V → V → V → Hp → (Hp → Prop) → Prop
noncomputable def PSet (X : Cx) (t : TSet) : Prop :=
  ∀ (pins : List (Addr × Obj)) (s : Shared) (σ : St) (H : Hp) (o i v : V) (ov iv u : Value) (Q : Hp → Prop), Inv X pins σ H s → RelV o ov → RelV i iv → RelV v u → t o i v H Q →
    wpAny (model X.prog X.w) X.A (setItem ov iv u) (fun _ s' => ∃ H', Inv X pins σ H' s' ∧ Q H') X.xe s
noncomputable abbrev TIp := V → V → Hp → VK → Prop
noncomputable def PIp (X : Cx) (op : Operator) (t : TIp) : Prop :=
  ∀ (pins : List (Addr × Obj)) (s : Shared) (σ : St) (H : Hp) (x y : V) (v u : Value) (Q : VK), Inv X pins σ H s → RelV x v → RelV y u → t x y H Q →
    wpAny (model X.prog X.w) X.A (inplaceOp op v u) (EP X pins σ Q) X.xe s
section
variable {X : Cx} {pos : Pos}
noncomputable def gName (i : Nat) : TG := fun v σ H Q => Q (σ.set i (some v)) H
theorem pg_name {i : Nat} {x : Str} (hN : X.N.Nodup) (hi : X.N[i]? = some x) (hx : Loc X.env.scope x) (hf : X.fn x = true ∨ X.env.scope.names.lookup x = some .local := by first | exact .inl rfl | exact .inr rfl | assumption) : PG X (.Name x pos) (gName i) := by
  intro pins s σ H v u Q I r h
  exact wpAny_assign_Name (store_ok I hN hi hx r (fun s' I' => ⟨_, H, I', h⟩) hf)
noncomputable def gNil : TGs := fun vs σ H Q => vs = [] ∧ Q σ H
noncomputable def gCons (t : TG) (u : TGs) : TGs := fun vs σ H Q => ∃ v r, vs = v :: r ∧ t v σ H fun σ' H' => u r σ' H' Q
theorem pgs_nil : PGs X [] gNil := by
  intro pins s σ H vs us Q I r h
  obtain ⟨e, h⟩ := h
  subst e
  cases r
  exact assignInOrder_nil ⟨σ, H, I, h⟩
theorem pgs_cons {e : Expr} {es : List Expr} {t : TG} {u : TGs} (h1 : PG X e t) (h2 : PGs X es u)
    (hs : (assignEach (e :: es) X.env).map (·.2) = assign e X.env :: (assignEach es X.env).map (·.2) := by rfl) : PGs X (e :: es) (gCons t u) := by
  intro pins s σ H vs us Q I r h
  obtain ⟨v, vr, e1, h⟩ := h
  subst e1
  cases r with
  | cons r rr =>
    rw [hs]
    refine assignInOrder_cons (thn (h1 pins s σ H _ _ _ I r h) fun _ s1 zz => ?_)
    obtain ⟨σ1, H1, I1, q1⟩ := zz
    exact h2 pins s1 σ1 H1 _ _ Q I1 rr q1
noncomputable def gTup (K : PySem.W.Frag) (n : Nat) (t : TGs) : TG := fun v σ H Q => ∃ a xs, v = .ref a ∧ SqT K H a xs ∧ xs.length = n ∧ t xs σ H Q
theorem pg_tup {es : List Expr} {k : Nat} {t : TGs} {n : Nat} (hc : X.calm = true) (h : PGs X es t)
    (hn : (assignEach es X.env).length = n := by rfl) (hst : (assignEach es X.env).findIdx? (·.1) = none := by rfl) : PG X (.Tuple es k pos) (gTup X.K n t) := by
  intro pins s σ H v u Q I r hw
  obtain ⟨a, xs, e1, hq, hl, hw⟩ := hw
  subst e1
  cases r
  obtain ⟨its, rv, ht, hz⟩ := I.tuple hq
  refine assign_Tuple_tuple (I.ok.hd hc) ht (by simp [hn, ← hl, rv.length]) hst fun h' hx => ?_
  have I1 : Inv X pins σ H { s with heap := h' } := I.kept (t' := s.toks) fun b o e => hx b o (Nat.ne_of_lt (Heap.lt_size e)) e
  exact h pins _ σ H xs _ Q I1 (by simpa using rv) hw
noncomputable def gSub (to ti : TE) (t : TSet) : TG := fun v σ H Q => to σ H fun o H1 => ti σ H1 fun i H2 => t o i v H2 fun H3 => Q σ H3
theorem pg_sub {o i : Expr} {to ti : TE} {t : TSet} (ho : PE X o to) (hi : PE X i ti) (hs : PSet X t)
    (ha : ∀ v, assign (.Subscript o i pos) X.env v = (do
      let ov ← holding [v] (eval o X.env)
      let iv ← holding [v, ov] (eval i X.env)
      standAt pos
      holding [v, ov, iv] (setItem ov iv v)
      release [v, ov, iv] []) := by intro _; rfl) : PG X (.Subscript o i pos) (gSub to ti t) := by
  intro pins s σ H v u Q I r h
  rw [ha]
  refine wpAny_bind (wpAny_holding (thn (ho pins s σ H _ I h) fun ov s1 zz => ?_))
  obtain ⟨x, H1, I1, r1, q1⟩ := zz
  refine wpAny_bind (wpAny_holding (thn (hi pins s1 σ H1 _ I1 q1) fun iv s2 zz => ?_))
  obtain ⟨y, H2, I2, r2, q2⟩ := zz
  refine wpAny_bind (wpAny_standAt (wpAny_bind (wpAny_holding (thn (hs pins s2 σ H2 x y v ov iv u _ I2 r1 r2 r q2) fun _ s3 zz => ?_))))
  obtain ⟨H3, I3, q3⟩ := zz
  exact wpAny_release ⟨σ, H3, I3, q3⟩
noncomputable def tAsg (te : TE) (g : TG) : TS := fun D σ H => te σ H fun x H1 => g x σ H1 D.nx
theorem ps_asg {tg e : Expr} {te : TE} {g : TG} (he : PE X e te) (hg : PG X tg g) (hs : swapsWithSole [tg] e pos.line X.env = pure false := by rfl) (hw : swappedStores [tg] e X.env = pure none := by rfl)
    (h1 : (assignEach [tg] X.env).map (·.2) = [assign tg X.env] := by rfl) : PS X (.Assign [tg] e pos) (tAsg te g) := by
  intro pins s σ H D I h
  refine wpAny_Assign_stores (thn (he pins s σ H _ I h) fun v s1 ⟨x, H1, I1, r1, q1⟩ => ?_) hs hw
  rw [h1]
  exact thn (hg pins s1 σ H1 x v _ I1 r1 q1) fun _ s2 q => q
theorem ps_set {i : Nat} {x : Str} {e : Expr} {te : TE} {pos' : Pos} (hN : X.N.Nodup) (hi : X.N[i]? = some x) (hx : Loc X.env.scope x) (he : PE X e te) (hs : swapsWith e (some (.Name x pos')) pos.line X.env = pure false := by rfl) (hf : X.fn x = true ∨ X.env.scope.names.lookup x = some .local := by first | exact .inl rfl | exact .inr rfl | assumption) :
    PS X (.Assign [.Name x pos'] e pos) (tAsg te (gName i)) := by
  intro pins s σ H D I h
  refine wpAny_Assign_Name (thn (he pins s σ H _ I h) fun v s1 ⟨y, H1, I1, r1, q1⟩ => ?_) hs
  exact store_ok I1 hN hi hx r1 (fun s2 I2 => ⟨_, H1, I2, q1⟩) hf
noncomputable def tPar (i j : Nat) (ta : TA) : TS := fun D σ H => ta σ H fun vs H1 => ∃ v w, vs = [v, w] ∧ D.nx ((σ.set i (some v)).set j (some w)) H1
theorem ps_par {i j : Nat} {x y : Str} {a b : Expr} {ta : TA} {px py pt : Pos} {kt k2 pt2} (hc : X.calm = true) (hN : X.N.Nodup) (hi : X.N[i]? = some x) (hj : X.N[j]? = some y) (hij : i ≠ j)
    (hx : X.env.scope.names.lookup x = some .local) (hy : X.env.scope.names.lookup y = some .local) (ha : PA X [a, b] ta)
    (hw : swappedStores [.Tuple [.Name x px, .Name y py] kt pt] (.Tuple [a, b] k2 pt2) X.env = pure (some [x, y]))
    (hs : swapsWithSole [.Tuple [.Name x px, .Name y py] kt pt] (.Tuple [a, b] k2 pt2) pos.line X.env = pure false := by rfl) :
    PS X (.Assign [.Tuple [.Name x px, .Name y py] kt pt] (.Tuple [a, b] k2 pt2) pos) (tPar i j ta) := by
  intro pins s σ H D I h
  rw [exec_Assign_arm]
  refine wpAny_bind (wpAny_standAt ?_)
  rw [hs]
  refine wpAny_bind (wpAny_pure ?_)
  rw [if_neg (by decide)]
  refine wpAny_bind (Tuple_ (thn (ha _ pins s σ H _ I h) fun us s1 zz => ?_))
  obtain ⟨vs, H1, I1, r1, q1⟩ := zz
  obtain ⟨v, w, e1, q1⟩ := q1
  subst e1
  obtain ⟨u1, u2, rfl, rv, rw'⟩ : ∃ u1 u2, us = [u1, u2] ∧ RelV v u1 ∧ RelV w u2 := by
    cases r1 with
    | cons p q =>
      cases q with
      | cons p' q' =>
        cases q'
        exact ⟨_, _, rfl, p, p'⟩
  refine wpAny_newObj_type ?_ (by show 2 ≤ sizeLine; decide)
  have I2 : Inv X pins σ H1 { s1 with heap := s1.heap.push { cls := .type "tuple", data := .seq [u1, u2].toArray } } := I1.kept (t' := s1.toks) fun b o e => Heap.get?_push_of_some _ e
  rw [hw]
  refine wpAny_bind (wpAny_pure ?_)
  show wpAny (model X.prog X.w) X.A (do rule "assign.swapped-stores"; let items ← unpackItems (.ref s1.heap.objs.size) 2 none; assignInOrder [fun v => bindName X.env y v, fun v => bindName X.env x v] items.reverse; pure Flow.next) _ _ _
  refine wpAny_bind (wpAny_rule (wpAny_bind (unpackItems_tuple (items := #[u1, u2]) (I.ok.hd hc) (IsTup.new s1.heap _) fun h' hx' => ?_)))
  have I3 := I2.kept (h' := h') (t' := s1.toks) fun b o e => hx' b o (Nat.ne_of_lt (Heap.lt_size e)) e
  show wpAny _ _ (assignInOrder [fun v => bindName X.env y v, fun v => bindName X.env x v] [u2, u1] >>= fun _ => pure Flow.next) _ _ _
  refine wpAny_bind (assignInOrder_cons (wpAny_bindName (store_ok I3 hN hj (.inl hy) rw' (fun s2 I4 => ?_) (.inr hy))))
  refine assignInOrder_cons (wpAny_bindName (store_ok I4 hN hi (.inl hx) rv (fun s3 I5 => assignInOrder_nil (wpAny_pure ?_)) (.inr hx)))
  rw [List.set_comm _ _ (Ne.symm hij)] at I5
  exact ⟨_, H1, I5, q1⟩
noncomputable def tAug (i : Nat) (te : TE) (ti : TIp) : TS := fun D σ H => ∃ x, σ[i]? = some (some x) ∧ te σ H fun y H1 => ti x y H1 fun z H2 => D.nx (σ.set i (some z)) H2
theorem ps_aug {i : Nat} {x : Str} {e : Expr} {te : TE} {op : Operator} {ti : TIp} {pos' : Pos} (hN : X.N.Nodup) (hi : X.N[i]? = some x) (hx : Loc X.env.scope x) (he : PE X e te) (ho : PIp X op ti) (hf : X.fn x = true ∨ X.env.scope.names.lookup x = some .local := by first | exact .inl rfl | exact .inr rfl | assumption) :
    PS X (.AugAssign (.Name x pos') op e pos) (tAug i te ti) := by
  intro pins s σ H D I h
  obtain ⟨v, e1, h⟩ := h
  obtain ⟨m, hn, hl⟩ := I.loc
  have vis : Vis X.env.scope x := by rcases hx with k | k; exact .inl k; exact .inr (.inl k)
  obtain ⟨u, r, l⟩ := hl i x v hi e1 vis
  refine wpAny_AugAssign_Name ?_
  have go : wpAny (model X.prog X.w) X.A (eval e X.env) (fun w s₂ => wpAny (model X.prog X.w) X.A (inplaceOp op u w) (fun r s₃ => wpAny (model X.prog X.w) X.A (storeName X.env x r) (fun _ => SP X pins D .next) X.xe s₃) X.xe s₂) X.xe s := by
    refine thn (he pins s σ H _ I h) fun w s1 zz => ?_
    obtain ⟨y, H1, I1, r1, q1⟩ := zz
    refine thn (ho pins s1 σ H1 v y u w _ I1 r r1 q1) fun z s2 zz => ?_
    obtain ⟨zv, H2, I2, r2, q2⟩ := zz
    exact store_ok I2 hN hi hx r2 (fun s3 I3 => ⟨_, H2, I3, q2⟩) hf
  rcases l with ⟨hk, hm⟩ | ⟨hk, c, hc, hcell⟩
  · exact wpAny_loadName_local I.ok.kind hk hn hm go
  · rcases hk with hk | hk
    · exact wpAny_loadName_cell I.ok.kind hk hc hcell go
    · rcases hx with k | k
      · have : X.env.scope.names.lookup x = some .free := hk
        rw [k] at this; cases this
      · have : X.env.scope.names.lookup x = some .free := hk
        rw [k] at this; cases this
noncomputable def ipI (f : Int → Int → Int) : TIp := fun x y H Q => ∃ i j, x = .int i ∧ y = .int j ∧ Q (.int (f i j)) H
theorem ip_add : PIp X .Add (ipI fun i j => i + j) := by
  intro pins s σ H x y v u Q I r1 r2 h
  obtain ⟨i, j, e1, e2, q⟩ := h
  subst e1; subst e2
  obtain ⟨t, rfl⟩ := r1
  obtain ⟨t', rfl⟩ := r2
  exact iadd_int ⟨.int _, H, I.tok _, ⟨_, rfl⟩, q⟩
end

section
variable {X : Cx} {pos : Pos}
noncomputable def tWhile (c : TT) (tb : TS) : TS := fun D σ H => ∃ W : Nat → St → Hp → Prop, (∃ m, W m σ H) ∧ ∀ m σ H, W m σ H →
  c σ H fun b H1 => if b = true then ∃ N : St → Hp → Prop, (∀ σ' H', N σ' H' → ∃ m', m' < m ∧ W m' σ' H') ∧ tb { D with nx := N, ct := N, bk := D.nx } σ H1 else D.nx σ H1
theorem ps_while {c : Expr} {body : List Stmt} {tc : TT} {tb : TS} (hp : PassesOwn (model X.prog X.w) X.A X.env X.xe) (hc : PT X c tc) (hb : PSs X body tb) : PS X (.While c body [] pos) (tWhile tc tb) := by
  intro pins s σ H D I h
  obtain ⟨W, ⟨m0, w0⟩, turn⟩ := h
  refine wpAny_While (codeAny_whileLoop (fun n s' => ∃ σ' H', Inv X pins σ' H' s' ∧ W n σ' H') ?_ m0 ⟨σ, H, I, w0⟩)
  rintro n s1 ⟨σ1, H1, I1, w1⟩
  refine wpAny_passesOwn hp (thn (hc pins s1 σ1 H1 _ I1 (turn n σ1 H1 w1)) fun b s2 zz => ?_)
  obtain ⟨H2, I2, q2⟩ := zz
  cases b with
  | true =>
    obtain ⟨N, hN, q2⟩ := q2
    rw [if_pos rfl]
    refine wpAny_passesOwn hp (thn (hb pins s2 σ1 H2 _ I2 q2) fun f s3 q3 => ?_)
    cases f with
    | next =>
      obtain ⟨σ3, H3, I3, n3⟩ := q3
      obtain ⟨m', hm, w3⟩ := hN σ3 H3 n3
      exact ⟨m', hm, σ3, H3, I3, w3⟩
    | cont =>
      obtain ⟨σ3, H3, I3, n3⟩ := q3
      obtain ⟨m', hm, w3⟩ := hN σ3 H3 n3
      exact ⟨m', hm, σ3, H3, I3, w3⟩
    | brk => exact q3
    | ret v => exact q3
  | false =>
    rw [if_neg Bool.false_ne_true]
    exact wpAny_execs_nil ⟨σ1, H2, I2, q2⟩
end

structure It where
  go : Nat → Hp → Prop
  yld : Nat → Hp → V → Hp → Prop
  stop : Nat → Hp → Prop
noncomputable def FpOk (X : Cx) (pins : List (Addr × Obj)) (H : Hp) (b : Addr) : Prop :=
  H b = none ∧ b ≠ X.env.locals ∧ b ∉ X.fs ∧ (b ∈ X.ex ∨ X.s₀.heap.objs.size ≤ b) ∧ (∀ x c, X.env.cells.lookup x = some c → c ≠ b) ∧ ∀ p ∈ X.pn ++ pins, p.1 ≠ b
theorem Inv.fpOk {X : Cx} {pins : List (Addr × Obj)} {σ : St} {H H' : Hp} {s : Shared} {b : Addr} (I : Inv X pins σ H s) (hb : s.heap.objs.size ≤ b) (hn : H' b = none) : FpOk X pins H' b := by
  refine ⟨hn, Nat.ne_of_gt (Nat.lt_of_lt_of_le I.lt hb), I.nofs hb, .inr (Nat.le_trans I.sz hb), fun x c e z => ?_, fun p hp z => ?_⟩
  · obtain ⟨v, q⟩ := I.cell x c e
    exact absurd (Nat.lt_of_lt_of_le q.lt (by rw [z]; exact hb)) (Nat.lt_irrefl _)
  · exact absurd (Nat.lt_of_lt_of_le (Heap.lt_size (I.pin p hp).1) (by rw [z]; exact hb)) (Nat.lt_irrefl _)
structure Turn (P : Program) (w : World) (K : PySem.W.Frag) (tg : Expr) (J : It) (fp : List Addr) (it : Addr) (tn : Nat → Heap → Prop) : Prop where
  mem : it ∈ fp
  obj : ∀ i h, tn i h → ∀ b ∈ fp, ∃ o, h.get? b = some o ∧ ∀ v, o.data ≠ .cell v
  keep : ∀ i h h', tn i h → (∀ b ∈ fp, ∀ o, h.get? b = some o → h'.get? b = some o) → tn i h'
  item : ∀ (X : Cx), X.prog = P → X.w = w → X.K = K → X.calm = true → ∀ (i : Nat) (pins : List (Addr × Obj)) (s : Shared) (σ : St) (H : Hp) (E : Value → Shared → Prop), Inv X pins σ H s → (∀ b ∈ fp, FpOk X pins H b) → tn i s.heap → J.go i H →
    wpAny (model P w) X.A (pyNext (.ref it)) (fun r s1 => ∃ u, r = some u ∧
      wpAny (model P w) X.A (letOwnedTupleGo tg (.ref it) u) (fun _ s2 => ∃ x H', Inv X pins σ H' s2 ∧ RelV x u ∧ J.yld i H x H' ∧ tn (i + 1) s2.heap ∧ ∀ b ∈ fp, H' b = none) E s1) E s
  done : ∀ (X : Cx), X.prog = P → X.w = w → X.K = K → X.calm = true → ∀ (i : Nat) (pins : List (Addr × Obj)) (s : Shared) (σ : St) (H : Hp) (E : Value → Shared → Prop), Inv X pins σ H s → (∀ b ∈ fp, FpOk X pins H b) → tn i s.heap → J.stop i H →
    wpAny (model P w) X.A (pyNext (.ref it)) (fun r s1 => r = none ∧ Inv X pins σ H s1) E s
  self : ∀ (A : Around) (i : Nat) (s : Shared) (Q : Value → Shared → Prop) (E : Value → Shared → Prop), tn i s.heap → Q (.ref it) s → wpAny (model P w) A (pyIter (.ref it)) Q E s
noncomputable abbrev TI := St → Hp → (It → Hp → Prop) → Prop
noncomputable def PIE (X : Cx) (pins : List (Addr × Obj)) (σ : St) (tg : Expr) (R : It → Hp → Prop) (itv : Value) (s2 : Shared) : Prop :=
  ∃ (it : Addr) (fp : List Addr) (tn : Nat → Heap → Prop) (J : It) (H' : Hp), itv = .ref it ∧ Inv X pins σ H' s2 ∧ Turn X.prog X.w X.K tg J fp it tn ∧ tn 0 s2.heap ∧ (∀ b ∈ fp, FpOk X pins H' b) ∧ R J H'
noncomputable def PI (X : Cx) (tg iter : Expr) (wi : TI) : Prop :=
  ∀ (pins : List (Addr × Obj)) (s : Shared) (σ : St) (H : Hp) (R : It → Hp → Prop), Inv X pins σ H s → wi σ H R →
    wpAny (model X.prog X.w) X.A (eval iter X.env) (fun v s1 => wpAny (model X.prog X.w) X.A (pyIter v) (PIE X pins σ tg R) X.xe s1) X.xe s

theorem go_of {M : Model} {A : Around} {E : Value → Shared → Prop} {s : Shared} {tg : Expr} {it : Addr} {u : Value} {o : Obj} {n : String} {vs : Array Value} {Q : Unit → Shared → Prop} (ho : s.heap.get? it = some o) (hc : o.cls = .type n) (hd : o.data = .fields vs)
    (hn : ["enumerate", "zip", "dict_itemiterator", "dict_reverseitemiterator", "odict_iterator", "itertools.zip_longest", "itertools.pairwise"].contains n = false) (hQ : Q () s) : wpAny M A (letOwnedTupleGo tg (.ref it) u) Q E s := by
  unfold letOwnedTupleGo
  cases tg <;> first
    | exact wpAny_pure hQ
    | (cases u <;> first
        | exact wpAny_pure hQ
        | (refine wpAny_bind (wpAny_load ho ?_)
           rw [hc, hd]
           show wpAny M A (if (["enumerate", "zip", "dict_itemiterator", "dict_reverseitemiterator", "odict_iterator", "itertools.zip_longest", "itertools.pairwise"].contains n && vs[0]? == some (rawInt _)) = true then _ else _) Q E s
           rw [if_neg (by intro h; rw [hn, Bool.false_and] at h; cases h)]
           exact wpAny_pure hQ))

noncomputable def Itl (K : PySem.W.Frag) (a : Addr) : It :=
  ⟨fun i H => ∃ xs x, SqL K H a xs ∧ xs[i]? = some x, fun i H x H' => H' = H ∧ ∀ xs, SqL K H a xs → xs[i]? = some x, fun i H => ∃ xs, SqL K H a xs ∧ xs.length ≤ i⟩
noncomputable def Itt (K : PySem.W.Frag) (a : Addr) : It :=
  ⟨fun i H => ∃ xs x, SqT K H a xs ∧ xs[i]? = some x, fun i H x H' => H' = H ∧ ∀ xs, SqT K H a xs → xs[i]? = some x, fun i H => ∃ xs, SqT K H a xs ∧ xs.length ≤ i⟩
noncomputable def Itr (lo : Int) (n : Nat) : It := ⟨fun i _ => i < n, fun i H x H' => H' = H ∧ x = .int (lo + i), fun i _ => n ≤ i⟩
theorem turn_list {P : Program} {w : World} {K : PySem.W.Frag} {tg : Expr} (a it : Addr) : Turn P w K tg (Itl K a) [it] it (fun i h => h.IsListIter it a i) where
  mem := by simp
  obj := fun i h st b hb => by
    have e : b = it := by simpa using hb
    subst e
    obtain ⟨o, e, c, d⟩ := st
    exact ⟨o, e, fun v z => by rw [d] at z; cases z⟩
  keep := fun i h h' st k => st.at fun o e => k it (by simp) o e
  item := by
    intro X hP hw hK hc i pins s σ H E I hf st hg
    subst hP hw hK
    obtain ⟨xs, x, hq, hx⟩ := hg
    obtain ⟨its, rv, p, hz⟩ := I.list hq
    obtain ⟨u, hu, ru⟩ := rv.get hx
    obtain ⟨f0, f1, f2, f3, f4, f5⟩ := hf it (by simp)
    refine wpAny_pyNext_list_item st p.isList (x := u) (by simpa using hu) fun h' st' sb => ?_
    have I1 : Inv X pins σ H { s with heap := h' } := I.turned (t' := s.toks) (fun b o hb e => (sb.2 b hb).trans e) f0 f1 f3 f4 f5
    obtain ⟨o, e, c, d⟩ := id st'
    exact ⟨u, rfl, go_of (s := { s with heap := h' }) e c d (by decide) ⟨x, H, I1, ru, ⟨rfl, fun ys hy => by rw [I.list_inj hy hq]; exact hx⟩, st', fun b hb => (hf b hb).1⟩⟩
  done := by
    intro X hP hw hK hc i pins s σ H E I hf st hg
    subst hP hw hK
    obtain ⟨xs, hq, hx⟩ := hg
    obtain ⟨its, rv, p, hz⟩ := I.list hq
    obtain ⟨f0, f1, f2, f3, f4, f5⟩ := hf it (by simp)
    have hl := rv.length
    exact wpAny_pyNext_list_end (I.ok.hd hc) st p.isList (by simp; omega) fun h' eb => ⟨rfl, I.turned (t' := s.toks) (fun b o hb e => eb b o hb e) f0 f1 f3 f4 f5⟩
  self := fun _ _ _ _ _ st h => wpAny_pyIter_listiter st h
theorem turn_tuple {P : Program} {w : World} {K : PySem.W.Frag} {tg : Expr} (a it : Addr) : Turn P w K tg (Itt K a) [it] it (fun i h => h.IsTupleIter it a i) where
  mem := by simp
  obj := fun i h st b hb => by
    have e : b = it := by simpa using hb
    subst e
    obtain ⟨o, e, c, d⟩ := st
    exact ⟨o, e, fun v z => by rw [d] at z; cases z⟩
  keep := fun i h h' st k => st.at fun o e => k it (by simp) o e
  item := by
    intro X hP hw hK hc i pins s σ H E I hf st hg
    subst hP hw hK
    obtain ⟨xs, x, hq, hx⟩ := hg
    obtain ⟨its, rv, p, hz⟩ := I.tuple hq
    obtain ⟨u, hu, ru⟩ := rv.get hx
    obtain ⟨f0, f1, f2, f3, f4, f5⟩ := hf it (by simp)
    refine wpAny_pyNext_tuple_item st (show s.heap.IsTuple a its.toArray from p) (x := u) (by simpa using hu) fun h' st' sb => ?_
    have I1 : Inv X pins σ H { s with heap := h' } := I.turned (t' := s.toks) (fun b o hb e => (sb.2 b hb).trans e) f0 f1 f3 f4 f5
    obtain ⟨o, e, c, d⟩ := id st'
    exact ⟨u, rfl, go_of (s := { s with heap := h' }) e c d (by decide) ⟨x, H, I1, ru, ⟨rfl, fun ys hy => by rw [I.tuple_inj hy hq]; exact hx⟩, st', fun b hb => (hf b hb).1⟩⟩
  done := by
    intro X hP hw hK hc i pins s σ H E I hf st hg
    subst hP hw hK
    obtain ⟨xs, hq, hx⟩ := hg
    obtain ⟨its, rv, p, hz⟩ := I.tuple hq
    obtain ⟨f0, f1, f2, f3, f4, f5⟩ := hf it (by simp)
    have hl := rv.length
    exact wpAny_pyNext_tuple_end (I.ok.hd hc) st (show s.heap.IsTuple a its.toArray from p) (by simp; omega) fun h' eb => ⟨rfl, I.turned (t' := s.toks) (fun b o hb e => eb b o hb e) f0 f1 f3 f4 f5⟩
  self := fun _ _ _ _ _ st h => wpAny_pyIter_tupleiter st h
theorem turn_range {P : Program} {w : World} {K : PySem.W.Frag} {tg : Expr} (it : Addr) (lo : Int) (n : Nat) : Turn P w K tg (Itr lo n) [it] it (fun i h => IsRangeIter h it (lo + (i : Nat) * 1) ((n : Int) - (i : Nat)) 1) where
  mem := by simp
  obj := fun i h st b hb => by
    have e : b = it := by simpa using hb
    subst e
    exact ⟨_, st, fun v z => by
      have z' : Data.fields _ = Data.cell v := z
      cases z'⟩
  keep := fun i h h' st k => k it (by simp) _ st
  item := by
    intro X hP hw hK hc i pins s σ H E I hf st hg
    subst hP hw hK
    obtain ⟨f0, f1, f2, f3, f4, f5⟩ := hf it (by simp)
    have W := Walks.range (prog := X.prog) (w := X.w) (I.ok.hd hc) it lo 1 n
    refine W.item i s _ _ hg st fun v h' tk hv st' kk => ?_
    obtain ⟨t, rfl⟩ := hv
    have I1 : Inv X pins σ H { s with heap := h', toks := tk } := I.turned (fun b o hb e => kk b o (by simpa using hb) e) f0 f1 f3 f4 f5
    refine ⟨_, rfl, go_of (s := { s with heap := h', toks := tk }) (n := "range_iterator") st' rfl rfl (by decide) ⟨.int (lo + i), H, I1, ⟨t, ?_⟩, ⟨rfl, rfl⟩, st', fun b hb => (hf b hb).1⟩⟩
    rw [Int.mul_one]
  done := by
    intro X hP hw hK hc i pins s σ H E I hf st hg
    subst hP hw hK
    obtain ⟨f0, f1, f2, f3, f4, f5⟩ := hf it (by simp)
    exact wpAny_pyNext_range_end (I.ok.hd hc) st (by have : n ≤ i := hg; omega) fun h' eb => ⟨rfl, I.turned (t' := s.toks) (fun b o hb e => eb b o hb e) f0 f1 f3 f4 f5⟩
  self := fun _ _ _ _ _ st h => wpAny_pyIter_rangeiter st h
end L2

namespace L2
open PySem PySem.Spec PyProof.Rows
section
variable {X : Cx} {tg : Expr}
theorem range_it {pins : List (Addr × Obj)} {σ : St} {H : Hp} {s : Shared} {R : It → Hp → Prop} {E : Value → Shared → Prop} {lo hi : Int} {t u v : Tok} {tk : Nat} (I : Inv X pins σ H s) (h1 : -(2 ^ 62) ≤ lo) (h2 : lo < 2 ^ 62) (h3 : -(2 ^ 62) ≤ hi) (h4 : hi < 2 ^ 62)
    (q : R (Itr lo (hi - lo).toNat) H) : wpAny (model X.prog X.w) X.A (pyIter (.ref s.heap.objs.size)) (PIE X pins σ tg R) E { s with heap := s.heap.push { cls := .type "range", data := .fields #[.int lo t, .int hi u, .int 1 v] }, toks := tk } := by
  refine wpAny_pyIter_range (IsRange.new ..) (small_one h1 h2 h3 h4) ?_
  have I1 : Inv X pins σ H { s with heap := s.heap.push { cls := .type "range", data := .fields #[.int lo t, .int hi u, .int 1 v] }, toks := tk } := I.kept fun b o e => Heap.get?_push_of_some _ e
  refine ⟨(s.heap.push { cls := .type "range", data := .fields #[.int lo t, .int hi u, .int 1 v] }).objs.size, [(s.heap.push { cls := .type "range", data := .fields #[.int lo t, .int hi u, .int 1 v] }).objs.size], _, _, H, rfl,
    I1.kept (t' := tk) fun b o e => Heap.get?_push_of_some _ e, turn_range _ lo (hi - lo).toNat, ?_, fun b hb => ?_, q⟩
  · have e1 : lo + ((0 : Nat) : Int) * 1 = lo := by simp
    have e2 : (((hi - lo).toNat : Nat) : Int) - ((0 : Nat) : Int) = Builtin.Range.rangeSize lo hi 1 := by rw [rangeSize_one]; split <;> omega
    show IsRangeIter _ _ (lo + ((0 : Nat) : Int) * 1) ((((hi - lo).toNat : Nat) : Int) - ((0 : Nat) : Int)) 1
    rw [e1, e2]
    exact Heap.get?_push_size _ rfl
  · have e : b = (s.heap.push { cls := .type "range", data := .fields #[.int lo t, .int hi u, .int 1 v] }).objs.size := by simpa using hb
    subst e
    exact I1.fpOk (Nat.le_refl _) (I1.hok.fresh (Nat.le_refl _))
noncomputable def iRng1 (ta : TA) : TI := fun σ H R => ta σ H fun vs H1 => ∃ j : Int, vs = [.int j] ∧ -(2 ^ 62) ≤ j ∧ j < 2 ^ 62 ∧ R (Itr 0 j.toNat) H1
noncomputable def iRng2 (ta : TA) : TI := fun σ H R => ta σ H fun vs H1 => ∃ i j : Int, vs = [.int i, .int j] ∧ (-(2 ^ 62) ≤ i ∧ i < 2 ^ 62 ∧ -(2 ^ 62) ≤ j ∧ j < 2 ^ 62) ∧ R (Itr i (j - i).toNat) H1
theorem pi_range1 {a : Expr} {ta : TA} {p pos : Pos} (hg : Gl X "range") (hm : X.mg "range" = none) (ha : PA X [a] ta) (hs : starEach [a] X.env = [(false, eval a X.env)] := by rfl) : PI X tg (.Call (.Name "range" p) [a] [] pos) (iRng1 ta) := by
  intro pins s σ H R I h
  refine Call_ (ld_blt I hg hm boot_range (PyProof.Rows.callWith_type1 (thn (ha pos pins s σ H _ I h) fun us s1 ⟨vs, H1, I1, r1, q1⟩ => ?_) hs rfl))
  obtain ⟨j, e, q1, q2, q⟩ := q1
  subst e
  cases r1 with
  | cons r rr =>
    cases rr
    obtain ⟨t, rfl⟩ := r
    exact call_range_1 (range_it I1 (by omega) (by omega) q1 q2 (by simpa using q))
theorem pi_range2 {a b : Expr} {ta : TA} {p pos : Pos} (hg : Gl X "range") (hm : X.mg "range" = none) (ha : PA X [a, b] ta) (hs : starEach [a, b] X.env = [(false, eval a X.env), (false, eval b X.env)] := by rfl) (hs2 : starEach [b] X.env = [(false, eval b X.env)] := by rfl) :
    PI X tg (.Call (.Name "range" p) [a, b] [] pos) (iRng2 ta) := by
  intro pins s σ H R I h
  refine Call_ (ld_blt I hg hm boot_range (PyProof.Rows.callWith_type1 (thn (ha pos pins s σ H _ I h) fun us s1 ⟨vs, H1, I1, r1, q1⟩ => ?_) (by rw [hs, hs2]) (by rw [hs2]; rfl)))
  obtain ⟨i, j, e, ⟨q1, q2, q3, q4⟩, q⟩ := q1
  subst e
  cases r1 with
  | cons r rr =>
    cases rr with
    | cons r' rr =>
      cases rr
      obtain ⟨t, rfl⟩ := r
      obtain ⟨t', rfl⟩ := r'
      exact call_range_2 (range_it I1 q1 q2 q3 q4 q)

noncomputable def tFor (wi : TI) (g : TG) (tb : TS) : TS := fun D σ H => wi σ H fun J H1 => ∃ W : Nat → Nat → St → Hp → Prop, (∃ m, W 0 m σ H1) ∧ ∀ i m σ H, W i m σ H →
  (J.stop i H ∧ D.nx σ H) ∨ (J.go i H ∧ ∃ N : St → Hp → Prop, (∀ σ' H', N σ' H' → ∃ m', m' < m ∧ W (i + 1) m' σ' H') ∧ ∀ x H', J.yld i H x H' → g x σ H' fun σ2 H2 => tb { D with nx := N, ct := N, bk := D.nx } σ2 H2)
noncomputable def pinsAt (fp : List Addr) (h : Heap) : List (Addr × Obj) := fp.filterMap fun b => (h.get? b).map fun o => (b, o)
theorem mem_pinsAt {fp : List Addr} {h : Heap} {b : Addr} {o : Obj} (hb : b ∈ fp) (e : h.get? b = some o) : (b, o) ∈ pinsAt fp h := List.mem_filterMap.mpr ⟨b, hb, by rw [e]; rfl⟩
theorem of_pinsAt {fp : List Addr} {h : Heap} {p : Addr × Obj} (hp : p ∈ pinsAt fp h) : p.1 ∈ fp ∧ h.get? p.1 = some p.2 := by
  obtain ⟨b, hb, e⟩ := List.mem_filterMap.mp hp
  cases q : h.get? b with
  | none => rw [q] at e; cases e
  | some o =>
    rw [q] at e
    have e' : (b, o) = p := Option.some.inj e
    subst e'
    exact ⟨hb, q⟩
theorem Inv.pinned {pins : List (Addr × Obj)} {σ : St} {H : Hp} {s : Shared} {fp : List Addr} (I : Inv X pins σ H s) (hf : ∀ b ∈ fp, FpOk X pins H b) (ho : ∀ b ∈ fp, ∃ o, s.heap.get? b = some o ∧ ∀ v, o.data ≠ .cell v) : Inv X (pins ++ pinsAt fp s.heap) σ H s :=
  I.pins_of fun p hp => (List.mem_append.mp hp).elim (fun z => I.pin p (List.mem_append_right _ z)) fun z => by
    obtain ⟨hb, e⟩ := of_pinsAt z
    obtain ⟨f0, f1, f2, _⟩ := hf p.1 hb
    obtain ⟨o, e', d⟩ := ho p.1 hb
    rw [e] at e'; cases e'
    exact ⟨e, f0, f1, f2, d⟩
theorem Inv.unpinned {pins pl : List (Addr × Obj)} {σ : St} {H : Hp} {s : Shared} (I : Inv X (pins ++ pl) σ H s) : Inv X pins σ H s := I.pins_of fun p hp => I.pin p (List.mem_append_right _ (List.mem_append_left _ hp))
theorem ps_for {iter : Expr} {body : List Stmt} {wi : TI} {g : TG} {tb : TS} {pos : Pos} (hp : PassesOwn (model X.prog X.w) X.A X.env X.xe) (hc : X.calm = true) (hi : PI X tg iter wi) (hg : PG X tg g) (hb : PSs X body tb)
    (hs : ∀ x, foldedSetIterable iter X.env x = pure x := by intro _; rfl) : PS X (.For tg iter body [] pos) (tFor wi g tb) := by
  intro pins s σ H D I h
  refine wpAny_For (thn (hi pins s σ H _ I h) fun v s1 h1 => thn h1 fun itv s2 h2 => ?_) hs
  obtain ⟨it, fp, tn, J, H2, e, I2, T, st2, f2, W, ⟨m0, w0⟩, turn⟩ := h2
  subst e
  -- what stays true of the iterator's objects through the loop
  have stat : ∀ {H' : Hp}, (∀ b ∈ fp, H' b = none) → ∀ b ∈ fp, FpOk X pins H' b := fun hn b hb => ⟨hn b hb, (f2 b hb).2⟩
  refine codeAny_forLoop_any (fun n s' => ∃ i σ' H', Inv X pins σ' H' s' ∧ tn i s'.heap ∧ (∀ b ∈ fp, H' b = none) ∧ W i n σ' H') ?_ m0 ⟨0, σ, H2, I2, st2, fun b hb => (f2 b hb).1, w0⟩
  rintro n s3 ⟨i, σ3, H3, I3, st3, fr3, w3⟩
  rcases turn i n σ3 H3 w3 with ⟨stop, qn⟩ | ⟨go, N, hN, step⟩
  · refine wpAny_passesOwn hp (thn (T.done X rfl rfl rfl hc i pins s3 σ3 H3 X.xe I3 (stat fr3) st3 stop) fun r s4 zz => ?_)
    obtain ⟨hr, I4⟩ := zz
    subst hr
    exact wpAny_execs_nil ⟨σ3, H3, I4, qn⟩
  · refine wpAny_passesOwn hp (thn (T.item X rfl rfl rfl hc i pins s3 σ3 H3 X.xe I3 (stat fr3) st3 go) fun r s4 zz => ?_)
    obtain ⟨u, hr, h4⟩ := zz
    subst hr
    refine wpAny_passesOwn hp (thn h4 fun _ s5 zz => ?_)
    obtain ⟨x, H5, I5, r5, y5, st5, fr5⟩ := zz
    have I5' := I5.pinned (stat fr5) (T.obj _ _ st5)
    refine wpAny_passesOwn hp (thn (hg _ s5 σ3 H5 x u _ I5' r5 (step x H5 y5)) fun _ s6 zz => ?_)
    obtain ⟨σ6, H6, I6, q6⟩ := zz
    refine wpAny_passesOwn hp (thn (hb _ s6 σ6 H6 _ I6 q6) fun f s7 q7 => ?_)
    have again : ∀ {σ7 : St} {H7 : Hp}, Inv X (pins ++ pinsAt fp s5.heap) σ7 H7 s7 → N σ7 H7 → ∃ m, m < n ∧ ∃ i σ' H', Inv X pins σ' H' s7 ∧ tn i s7.heap ∧ (∀ b ∈ fp, H' b = none) ∧ W i m σ' H' := fun {σ7 H7} I7 n7 => by
      obtain ⟨m', hm, w7⟩ := hN σ7 H7 n7
      refine ⟨m', hm, i + 1, σ7, H7, I7.unpinned, T.keep _ _ _ st5 fun b hb o e => (I7.pin (b, o) (List.mem_append_right _ (List.mem_append_right _ (mem_pinsAt hb e)))).1, fun b hb => ?_, w7⟩
      obtain ⟨o, e, d⟩ := T.obj _ _ st5 b hb
      exact (I7.pin (b, o) (List.mem_append_right _ (List.mem_append_right _ (mem_pinsAt hb e)))).2.1
    cases f with
    | next => obtain ⟨σ7, H7, I7, n7⟩ := q7; exact again I7 n7
    | cont => obtain ⟨σ7, H7, I7, n7⟩ := q7; exact again I7 n7
    | brk => obtain ⟨σ7, H7, I7, q7⟩ := q7; exact ⟨σ7, H7, I7.unpinned, q7⟩
    | ret v => obtain ⟨x7, σ7, H7, I7, r7, q7⟩ := q7; exact ⟨x7, σ7, H7, I7.unpinned, r7, q7⟩
end

end L2

namespace L2
open PySem PySem.Spec PyProof.Rows

noncomputable abbrev R2 := V → V → Hp → VK → Prop
noncomputable def OpR (X : Cx) (f : Value → Value → Sem Value) (r : R2) : Prop :=
  ∀ (pins : List (Addr × Obj)) (s : Shared) (σ : St) (H : Hp) (x y : V) (v u : Value) (Q : VK), Inv X pins σ H s → RelV x v → RelV y u → r x y H Q →
    wpAny (model X.prog X.w) X.A (f v u) (EP X pins σ Q) X.xe s
noncomputable def UnR (X : Cx) (f : Value → Sem Value) (r : V → Hp → VK → Prop) : Prop :=
  ∀ (pins : List (Addr × Obj)) (s : Shared) (σ : St) (H : Hp) (x : V) (v : Value) (Q : VK), Inv X pins σ H s → RelV x v → r x H Q →
    wpAny (model X.prog X.w) X.A (f v) (EP X pins σ Q) X.xe s
noncomputable def CallR (X : Cx) (f : Value) (r : List V → Hp → VK → Prop) : Prop :=
  ∀ (pins : List (Addr × Obj)) (s : Shared) (σ : St) (H : Hp) (xs : List V) (us : List Value) (Q : VK), Inv X pins σ H s → Vals xs us → r xs H Q →
    wpAny (model X.prog X.w) X.A (call f us) (EP X pins σ Q) X.xe s
noncomputable def tOp (r : R2) (ta tb : TE) : TE := fun σ H Q => ta σ H fun x H1 => tb σ H1 fun y H2 => r x y H2 Q
noncomputable def tUn (r : V → Hp → VK → Prop) (ta : TE) : TE := fun σ H Q => ta σ H fun x H1 => r x H1 Q
noncomputable def rI (C : Int → Int → Prop) (g : Int → Int → V) : R2 := fun x y H Q => ∃ i j, x = .int i ∧ y = .int j ∧ C i j ∧ Q (g i j) H
noncomputable def rI0 (g : Int → Int → V) : R2 := fun x y H Q => ∃ i j, x = .int i ∧ y = .int j ∧ Q (g i j) H
noncomputable def rU (g : Int → V) : V → Hp → VK → Prop := fun x H Q => ∃ i, x = .int i ∧ Q (g i) H

section
variable {X : Cx} {a b c : Expr} {ta tb tc : TE} {pos : Pos}

theorem binT (ha : PE X a ta) (hb : PE X b tb) {pins : List (Addr × Obj)} {s : Shared} {σ : St} {H : Hp} {R : V → V → Hp → Prop} (I : Inv X pins σ H s)
    (h : ta σ H fun x H1 => tb σ H1 fun y H2 => R x y H2) {Q : Value → Shared → Prop} {f : Value → Value → Sem Value}
    (hf : ∀ v u s2 x y H2, Inv X pins σ H2 s2 → RelV x v → RelV y u → R x y H2 → wpAny (model X.prog X.w) X.A (f v u) Q X.xe s2) :
    wpAny (model X.prog X.w) X.A (eval a X.env) (fun v s₁ => wpAny (model X.prog X.w) X.A (eval b X.env) (fun u s₂ => wpAny (model X.prog X.w) X.A (f v u) Q X.xe s₂) X.xe s₁) X.xe s := by
  refine thn (ha pins s σ H _ I h) fun v s1 zz => ?_
  obtain ⟨x, H1, I1, r1, q1⟩ := zz
  refine thn (hb pins s1 σ H1 _ I1 q1) fun u s2 zz => ?_
  obtain ⟨y, H2, I2, r2, q2⟩ := zz
  exact hf v u s2 x y H2 I2 r1 r2 q2

theorem pe_op {op : Operator} {r : R2} (ho : OpR X (binaryOp op) r) (ha : PE X a ta) (hb : PE X b tb) : PE X (.BinOp a op b pos) (tOp r ta tb) := by
  intro pins s σ H Q I h
  exact wpAny_BinOp (binT ha hb I h fun v u s2 x y H2 I2 rx ry q => ho pins s2 σ H2 x y v u Q I2 rx ry q)
theorem pe_un {op : UnaryOp} {r : V → Hp → VK → Prop} (ho : UnR X (unaryOp op) r) (ha : PE X a ta) : PE X (.UnaryOp op a pos) (tUn r ta) := by
  intro pins s σ H Q I h
  exact UnaryOp_ (thn (ha pins s σ H _ I h) fun v s1 ⟨x, H1, I1, r1, q1⟩ => ho pins s1 σ H1 x v Q I1 r1 q1)
theorem opI {f : Value → Value → Sem Value} {C : Int → Int → Prop} {g : Int → Int → Int}
    (rule : ∀ (i j : Int) (t u : Tok) (s : Shared) (Q : Value → Shared → Prop) (E : Value → Shared → Prop), C i j → Q (.int (g i j) s.toks) { s with toks := s.toks + 1 } → wpAny (model X.prog X.w) X.A (f (.int i t) (.int j u)) Q E s) :
    OpR X f (rI C fun i j => .int (g i j)) := by
  intro pins s σ H x y v u Q I rx ry h
  obtain ⟨i, j, rfl, rfl, hc, q⟩ := h
  obtain ⟨t, rfl⟩ := rx
  obtain ⟨t', rfl⟩ := ry
  exact rule i j t t' s _ _ hc ⟨.int (g i j), H, I.tok _, ⟨_, rfl⟩, q⟩
theorem opI0 {f : Value → Value → Sem Value} {g : Int → Int → Int}
    (rule : ∀ (i j : Int) (t u : Tok) (s : Shared) (Q : Value → Shared → Prop) (E : Value → Shared → Prop), Q (.int (g i j) s.toks) { s with toks := s.toks + 1 } → wpAny (model X.prog X.w) X.A (f (.int i t) (.int j u)) Q E s) :
    OpR X f (rI0 fun i j => .int (g i j)) := by
  intro pins s σ H x y v u Q I rx ry h
  obtain ⟨i, j, rfl, rfl, q⟩ := h
  obtain ⟨t, rfl⟩ := rx
  obtain ⟨t', rfl⟩ := ry
  exact rule i j t t' s _ _ ⟨.int (g i j), H, I.tok _, ⟨_, rfl⟩, q⟩
theorem opB0 {f : Value → Value → Sem Value} {g : Int → Int → Bool}
    (rule : ∀ (i j : Int) (t u : Tok) (s : Shared) (Q : Value → Shared → Prop) (E : Value → Shared → Prop), Q (.bool (g i j)) s → wpAny (model X.prog X.w) X.A (f (.int i t) (.int j u)) Q E s) :
    OpR X f (rI0 fun i j => .bl (g i j)) := by
  intro pins s σ H x y v u Q I rx ry h
  obtain ⟨i, j, rfl, rfl, q⟩ := h
  obtain ⟨t, rfl⟩ := rx
  obtain ⟨t', rfl⟩ := ry
  exact rule i j t t' s _ _ ⟨.bl (g i j), H, I, rfl, q⟩

noncomputable def CPow (i j : Int) : Prop := 0 ≤ j ∧ j ≤ 1000000 ∧ i.natAbs < 2 ^ 64
theorem op_add : OpR X (binaryOp .Add) (rI0 fun i j => .int (i + j)) := opI0 fun _ _ _ _ _ _ _ q => add_int q
theorem op_sub : OpR X (binaryOp .Sub) (rI0 fun i j => .int (i - j)) := opI0 fun _ _ _ _ _ _ _ q => sub_int q
theorem op_mod : OpR X (binaryOp .Mod) (rI (fun _ j => 0 < j) fun i j => .int (i % j)) := opI fun i j _ _ _ _ _ hc q => by
  have h1 : (0 : Int) < j := hc
  exact mod_int' (by omega) (by rw [Int.fmod_eq_emod_of_nonneg i (by omega)]; exact q)
theorem op_pow : OpR X (binaryOp .Pow) (rI CPow fun i j => .int (i ^ j.toNat)) := opI fun _ _ _ _ _ _ _ hc q => pow_int_small hc.1 hc.2.1 hc.2.2 q
theorem unI {f : Value → Sem Value} {g : Int → Int}
    (rule : ∀ (i : Int) (t : Tok) (s : Shared) (Q : Value → Shared → Prop) (E : Value → Shared → Prop), Q (.int (g i) s.toks) { s with toks := s.toks + 1 } → wpAny (model X.prog X.w) X.A (f (.int i t)) Q E s) :
    UnR X f (rU fun i => .int (g i)) := by
  intro pins s σ H x v Q I rx h
  obtain ⟨i, rfl, q⟩ := h
  obtain ⟨t, rfl⟩ := rx
  exact rule i t s _ _ ⟨.int (g i), H, I.tok _, ⟨_, rfl⟩, q⟩
theorem un_neg : UnR X (unaryOp .USub) (rU fun i => .int (-i)) := unI fun _ _ _ _ _ q => neg_int q
end

noncomputable def scal : V → V → Bool
  | .non, .non => true | .non, .int _ => true | .int _, .non => true | .non, .bl _ => true | .bl _, .non => true | .non, .str _ => true | .str _, .non => true
  | .int _, .int _ => true | .bl _, .bl _ => true | .str _, .str _ => true | .byt _, .byt _ => true
  | .int _, .str _ => true | .str _, .int _ => true | .bl _, .str _ => true | .str _, .bl _ => true
  | _, _ => false
noncomputable def rEq : R2 := fun x y H Q => scal x y = true ∧ Q (.bl (decide (x = y))) H
noncomputable def rNe : R2 := fun x y H Q => scal x y = true ∧ Q (.bl (!decide (x = y))) H

theorem dec_int {i j : Int} : decide (V.int i = V.int j) = (i == j) := by
  rw [Bool.eq_iff_iff]
  simp
theorem dec_bl {i j : Bool} : decide (V.bl i = V.bl j) = (i == j) := by
  rw [Bool.eq_iff_iff]
  simp
theorem dec_str {i j : Str} : decide (V.str i = V.str j) = (i == j) := by
  rw [Bool.eq_iff_iff]
  simp
theorem dec_byt {i j : Array UInt8} : decide (V.byt i = V.byt j) = (i.toList == j.toList) := by
  rw [Bool.eq_iff_iff]
  cases i
  cases j
  simp

section
variable {X : Cx} {a b c : Expr} {ta tb tc : TE} {pos : Pos}
theorem fin_bl {pins : List (Addr × Obj)} {σ : St} {H : Hp} {s : Shared} {Q : VK} {k k' : Bool} (I : Inv X pins σ H s) (q : Q (.bl k) H) (e : k = k') : EP X pins σ Q (.bool k') s := by
  subst e
  exact ⟨.bl k, H, I, rfl, q⟩
theorem op_eq : OpR X (compareOp .Eq) rEq := by
  intro pins s σ H x y v u Q I rx ry h
  obtain ⟨hs, q⟩ := h
  cases x with
  | non =>
    cases rx
    cases y with
    | non => cases ry; exact PySem.EqNone.eq_none_none (fin_bl I q (by simp))
    | bl j => cases ry; exact PySem.EqNone.eq_none_bool (fin_bl I q (by simp))
    | int j => obtain ⟨t', rfl⟩ := ry; exact PySem.EqNone.eq_none_int (fin_bl I q (by simp))
    | str j => obtain ⟨t', rfl⟩ := ry; exact PySem.EqNone.eq_none_str (fin_bl I q (by simp))
    | _ => exact absurd (show false = true from hs) Bool.false_ne_true
  | bl i =>
    cases rx
    cases y with
    | non => cases ry; exact PySem.EqNone.eq_bool_none (fin_bl I q (by simp))
    | bl j => cases ry; exact eq_bool (fin_bl I q dec_bl)
    | str j => obtain ⟨t', rfl⟩ := ry; exact PySem.EqMixed.eq_bool_str (fin_bl I q (by simp))
    | _ => exact absurd (show false = true from hs) Bool.false_ne_true
  | int i =>
    obtain ⟨t, rfl⟩ := rx
    cases y with
    | non => cases ry; exact PySem.EqNone.eq_int_none (fin_bl I q (by simp))
    | int j => obtain ⟨t', rfl⟩ := ry; exact eq_int (fin_bl I q dec_int)
    | str j => obtain ⟨t', rfl⟩ := ry; exact PySem.EqMixed.eq_int_str (fin_bl I q (by simp))
    | _ => exact absurd (show false = true from hs) Bool.false_ne_true
  | str i =>
    obtain ⟨t, rfl⟩ := rx
    cases y with
    | non => cases ry; exact PySem.EqNone.eq_str_none (fin_bl I q (by simp))
    | bl j => cases ry; exact PySem.EqMixed.eq_str_bool (fin_bl I q (by simp))
    | int j => obtain ⟨t', rfl⟩ := ry; exact PySem.EqMixed.eq_str_int (fin_bl I q (by simp))
    | str j => obtain ⟨t', rfl⟩ := ry; exact eq_str (fin_bl I q dec_str)
    | _ => exact absurd (show false = true from hs) Bool.false_ne_true
  | byt i =>
    obtain ⟨t, rfl⟩ := rx
    cases y with
    | byt j => obtain ⟨t', rfl⟩ := ry; exact PySem.W.eq_bytes (fin_bl I q dec_byt)
    | _ => exact absurd (show false = true from hs) Bool.false_ne_true
  | _ => cases y <;> exact absurd (show false = true from hs) Bool.false_ne_true
theorem op_ne : OpR X (compareOp .NotEq) rNe := by
  intro pins s σ H x y v u Q I rx ry h
  obtain ⟨hs, q⟩ := h
  cases x with
  | non =>
    cases rx
    cases y with
    | non => cases ry; exact PySem.EqNone.ne_none_none (fin_bl I q (by simp))
    | bl j => cases ry; exact PySem.EqNone.ne_none_bool (fin_bl I q (by simp))
    | int j => obtain ⟨t', rfl⟩ := ry; exact PySem.EqNone.ne_none_int (fin_bl I q (by simp))
    | str j => obtain ⟨t', rfl⟩ := ry; exact PySem.EqNone.ne_none_str (fin_bl I q (by simp))
    | _ => exact absurd (show false = true from hs) Bool.false_ne_true
  | bl i =>
    cases rx
    cases y with
    | non => cases ry; exact PySem.EqNone.ne_bool_none (fin_bl I q (by simp))
    | bl j => cases ry; exact ne_bool (fin_bl I q (congrArg not dec_bl))
    | str j => obtain ⟨t', rfl⟩ := ry; exact PySem.EqMixed.ne_bool_str (fin_bl I q (by simp))
    | _ => exact absurd (show false = true from hs) Bool.false_ne_true
  | int i =>
    obtain ⟨t, rfl⟩ := rx
    cases y with
    | non => cases ry; exact PySem.EqNone.ne_int_none (fin_bl I q (by simp))
    | int j => obtain ⟨t', rfl⟩ := ry; exact ne_int (fin_bl I q (congrArg not dec_int))
    | str j => obtain ⟨t', rfl⟩ := ry; exact PySem.EqMixed.ne_int_str (fin_bl I q (by simp))
    | _ => exact absurd (show false = true from hs) Bool.false_ne_true
  | str i =>
    obtain ⟨t, rfl⟩ := rx
    cases y with
    | non => cases ry; exact PySem.EqNone.ne_str_none (fin_bl I q (by simp))
    | bl j => cases ry; exact PySem.EqMixed.ne_str_bool (fin_bl I q (by simp))
    | int j => obtain ⟨t', rfl⟩ := ry; exact PySem.EqMixed.ne_str_int (fin_bl I q (by simp))
    | str j => obtain ⟨t', rfl⟩ := ry; exact ne_str (fin_bl I q (congrArg not dec_str))
    | _ => exact absurd (show false = true from hs) Bool.false_ne_true
  | byt i =>
    obtain ⟨t, rfl⟩ := rx
    cases y with
    | byt j => obtain ⟨t', rfl⟩ := ry; exact PySem.W.ne_bytes (fin_bl I q (congrArg not dec_byt))
    | _ => exact absurd (show false = true from hs) Bool.false_ne_true
  | _ => cases y <;> exact absurd (show false = true from hs) Bool.false_ne_true

theorem op_le : OpR X (compareOp .LtE) (rI0 fun i j => .bl (decide (i ≤ j))) := opB0 fun _ _ _ _ _ _ _ q => le_int q
theorem op_gt : OpR X (compareOp .Gt) (rI0 fun i j => .bl (decide (j < i))) := opB0 fun _ _ _ _ _ _ _ q => gt_int q
noncomputable def isObj : HO → Bool
  | .lst _ => true
  | .ins _ _ _ => true
  | _ => false
theorem obj_there {pins : List (Addr × Obj)} {s : Shared} {σ : St} {H : Hp} {a : Addr} {o : HO} (I : Inv X pins σ H s) (h : H a = some o) (p : isObj o = true) : ∃ ob, s.heap.get? a = some ob ∧ ob.cls ≠ .type "tuple" := by
  cases o with
  | lst xs =>
    obtain ⟨_, its, n, _, e⟩ : xs.length ≤ sizeLine ∧ ∃ (its : List Value) (n : Nat), Vals xs its ∧ s.heap.get? a = some { cls := .type "list", data := .seq its.toArray n } := I.hok a _ h
    exact ⟨_, e, (by show Value.type "list" ≠ .type "tuple"; decide +kernel)⟩
  | ins C dx fs =>
    have x := I.hok a _ h
    obtain ⟨_, _, _, e, _⟩ := x
    exact ⟨_, e, (by show Value.ref C ≠ .type "tuple"; exact fun z => by cases z)⟩
  | _ => exact absurd (show false = true from p) Bool.false_ne_true
theorem OpR.or {f : Value → Value → Sem Value} {r r' : R2} (h : OpR X f r) (h' : OpR X f r') : OpR X f (fun x y H Q => r x y H Q ∨ r' x y H Q) := by
  intro pins s σ H x y v u Q I rx ry q
  rcases q with q | q
  · exact h pins s σ H x y v u Q I rx ry q
  · exact h' pins s σ H x y v u Q I rx ry q

theorem nomark (b : Expr) {op : CmpOp} (h : op ≠ .In := by decide) (h2 : op ≠ .NotIn := by decide) : behindInMarks op b = false := by
  have e1 : (op == CmpOp.In) = false := by cases op <;> first | rfl | exact absurd rfl h
  have e2 : (op == CmpOp.NotIn) = false := by cases op <;> first | rfl | exact absurd rfl h2
  cases b <;> simp [behindInMarks, e1, e2]
theorem pe_cmpR {op : CmpOp} {r : R2} (ho : OpR X (compareOp op) r) (ha : PE X a ta) (hb : PE X b tb) (hm : behindInMarks op b = false) : PE X (.Compare a [op] [b] pos) (tOp r ta tb) := by
  intro pins s σ H Q I h
  exact wpAny_Compare1 (binT ha hb I h fun v u s2 x y H2 I2 rx ry q => ho pins s2 σ H2 x y v u Q I2 rx ry q) hm
noncomputable def tTest (t : TE) : TT := fun σ H Q => t σ H fun x H' => ∃ k, x = .bl k ∧ Q k H'
theorem pt_cmpR {op : CmpOp} {r : R2} (ho : OpR X (compareOp op) r) (ha : PE X a ta) (hb : PE X b tb) (hm : behindInMarks op b = false) : PT X (.Compare a [op] [b] pos) (tTest (tOp r ta tb)) := by
  intro pins s σ H Q I h
  refine wpAny_isTrue_Compare1 (thn (ha pins s σ H _ I h) fun v s1 ⟨x, H1, I1, r1, q1⟩ => thn (hb pins s1 σ H1 _ I1 q1) fun u s2 ⟨y, H2, I2, r2, q2⟩ =>
    thn (ho pins s2 σ H2 x y v u _ I2 r1 r2 q2) fun c s3 ⟨z, H3, I3, r3, k, e, q3⟩ => ?_) hm
  subst e
  cases r3
  exact wpAny_truthy_bool ⟨H3, I3, q3⟩
theorem line63 : (sizeLine : Nat) < 2 ^ 63 := by rw [sizeLine_eq]; decide
theorem vals1 {x : V} {us : List Value} (r : Vals [x] us) : ∃ u, us = [u] ∧ RelV x u := by
  cases r with
  | cons r1 r2 => cases r2; exact ⟨_, rfl, r1⟩
theorem vals2 {x y : V} {us : List Value} (r : Vals [x, y] us) : ∃ u w', us = [u, w'] ∧ RelV x u ∧ RelV y w' := by
  cases r with
  | cons r1 r2 =>
    cases r2 with
    | cons r3 r4 => cases r4; exact ⟨_, _, rfl, r1, r3⟩
theorem call_abs : CallR X (.builtin "abs") (fun xs H Q => ∃ i, xs = [.int i] ∧ Q (.int (if i < 0 then -i else i)) H) := by
  intro pins s σ H xs us Q I r h
  obtain ⟨i, rfl, q⟩ := h
  obtain ⟨u, rfl, t, rfl⟩ := vals1 r
  exact call_abs_int fun u tk => ⟨.int (if i < 0 then -i else i), H, I.tok _, ⟨_, rfl⟩, q⟩
theorem call_max2 (hc : X.calm = true) : CallR X (.builtin "max") (fun xs H Q => ∃ i j, xs = [.int i, .int j] ∧ Q (.int (if j > i then j else i)) H) := by
  intro pins s σ H xs us Q I r h
  obtain ⟨i, j, rfl, q⟩ := h
  obtain ⟨u, w', rfl, ⟨t, rfl⟩, ⟨t', rfl⟩⟩ := vals2 r
  refine max_two_ints (I.ok.hd hc) fun h' tk k => ⟨_, H, I.kept k, ?_, q⟩
  by_cases hj : j > i
  · rw [if_pos hj, if_pos hj]; exact ⟨_, rfl⟩
  · rw [if_neg hj, if_neg hj]; exact ⟨_, rfl⟩
theorem call_int1 : CallR X (.type "int") (fun xs H Q => (∃ i, xs = [.int i] ∧ Q (.int i) H) ∨ ∃ k, xs = [.bl k] ∧ Q (.int (if k then 1 else 0)) H) := by
  intro pins s σ H xs us Q I r h
  rcases h with ⟨i, rfl, q⟩ | ⟨k, rfl, q⟩
  · obtain ⟨u, rfl, t, rfl⟩ := vals1 r
    exact call_int_int ⟨.int i, H, I, ⟨_, rfl⟩, q⟩
  · obtain ⟨u, rfl, r1⟩ := vals1 r
    cases r1
    exact call_int_bool ⟨.int (if k then 1 else 0), H, I.tok _, ⟨_, rfl⟩, q⟩
end
end L2

namespace L2
open PySem PySem.Spec PyProof.Rows

section
variable {prog : Program} {w : World} {A : Around} {E : Value → Shared → Prop} {s : Shared} {K : PySem.W.Frag} {x dx C f : Addr} {mA : Str → Option Value} {name : Str} {v : Value}

end

section
variable {P : Program} {w : World} {H H' : Hp} {h h' : Heap} {a C dx : Addr} {fs fs' : List (Str × V)}
end

section
variable {X : Cx} {pins : List (Addr × Obj)} {σ : St} {H : Hp} {s : Shared} {a C dx : Addr} {fs : List (Str × V)} {f : Str} {v : V} {A : Around} {E : Value → Shared → Prop}

end

section
variable {X : Cx} {o e value : Expr} {f : Str} {pos pos' tpos : Pos} {ta tv : TE}
end

section
variable {X : Cx} {pins : List (Addr × Obj)} {σ : St} {H : Hp} {s : Shared} {A : Around} {E : Value → Shared → Prop} {Q : Value → Shared → Prop} {c : Value} {b : Bool}
end
end L2

namespace L2
open PySem PySem.Spec PyProof.Rows

structure Room (k : Nat) (A : Around) : Prop where
  hd : A.handled = none
  dp : A.depth + 3 * k + 5 < recursionLimit
  un : A.units + 16 * k + 200 < cLine
theorem Room.mono {j k : Nat} {A : Around} (r : Room k A) (h : j ≤ k) : Room j A := ⟨r.hd, by have := r.dp; omega, by have := r.un; omega⟩
theorem Room.deeper {k : Nat} {A : Around} (r : Room (k + 1) A) (env : Env) : Room k (A.deeper env) :=
  ⟨r.hd, by have := r.dp; show A.depth + 1 + 3 * k + 5 < _; omega, by have := r.un; show A.units + 3 + 16 * k + 200 < _; omega⟩
theorem Room.in1 {k : Nat} {A : Around} (r : Room (k + 1) A) : Room k A.in1 :=
  ⟨r.hd, by have := r.dp; show A.depth + 3 * k + 5 < _; omega, by have := r.un; show A.units + 1 + 16 * k + 200 < _; omega⟩
theorem Room.depth {k : Nat} {A : Around} (r : Room k A) : A.depth < recursionLimit := by have := r.dp; omega
theorem Room.units {k : Nat} {A : Around} (r : Room k A) : A.units + 64 < cLine := by have := r.un; omega
noncomputable def tNil : TA := fun _ H Q => Q [] H
noncomputable def tCons (ta : TE) (tr : TA) : TA := fun σ H Q => ta σ H fun x H1 => tr σ H1 fun xs H2 => Q (x :: xs) H2
section
variable {X : Cx} {e : Expr} {es : List Expr} {te : TE} {t : TA} {pos : Pos}
theorem pa_nil : PA X [] tNil := fun _ _ _ _ H Q I h => Calls.spliced_nil ⟨[], H, I, .nil, h⟩
theorem pa_cons (ha : PE X e te) (hr : PA X es t) (hs : starEach (e :: es) X.env = (false, eval e X.env) :: starEach es X.env := by rfl) : PA X (e :: es) (tCons te t) := by
  intro pos pins s σ H Q I h
  rw [hs]
  show wpAny _ _ (spliced ((false, eval e X.env) :: backTo pos (starEach es X.env))) _ _ s
  refine Calls.spliced_cons (thn (ha pins s σ H _ I h) fun u s1 zz => ?_)
  obtain ⟨x, H1, I1, r1, q1⟩ := zz
  exact thn (hr pos pins s1 σ H1 _ I1 q1) fun us s2 ⟨xs, H2, I2, r2, q2⟩ => ⟨x :: xs, H2, I2, .cons r1 r2, q2⟩

noncomputable def tTup (t : TA) : TE := fun σ H Q => t σ H fun xs H1 => xs.length ≤ sizeLine ∧ ∀ p, H1 p = none → Q (.ref p) (upd H1 p (.tup xs))
noncomputable def tLst (t : TA) : TE := fun σ H Q => t σ H fun xs H1 => xs.length ≤ sizeLine ∧ ∀ p, H1 p = none → Q (.ref p) (upd H1 p (.lst xs))
theorem pe_tup {x1} (h : PA X es t) : PE X (.Tuple es x1 pos) (tTup t) := by
  intro pins s σ H Q I hq
  refine wpAny_Tuple_spliced (thn (h pos pins s σ H _ I hq) fun us s1 ⟨xs, H1, I1, r, z, q⟩ => ⟨by rw [← r.length]; exact z, ?_⟩)
  have hf : H1 s1.heap.objs.size = none := I1.hok.fresh (Nat.le_refl _)
  refine ⟨.ref s1.heap.objs.size, upd H1 s1.heap.objs.size (.tup xs), I1.laid (t' := s1.toks) (fun b u e => Heap.get?_push_of_some _ e) (Nat.le_refl _) ?_, rfl, q _ hf⟩
  exact ⟨z, us, r, ⟨_, Heap.get?_push_size _ rfl, rfl, _, rfl⟩⟩
theorem pe_lst (h : PA X es t) : PE X (.List es pos) (tLst t) := by
  intro pins s σ H Q I hq
  refine wpAny_List_spliced (thn (h pos pins s σ H _ I hq) fun us s1 ⟨xs, H1, I1, r, z, q⟩ => ⟨by rw [← r.length]; exact z, ?_⟩)
  have hf : H1 s1.heap.objs.size = none := I1.hok.fresh (Nat.le_refl _)
  refine ⟨.ref s1.heap.objs.size, upd H1 s1.heap.objs.size (.lst xs), I1.laid (t' := s1.toks) (fun b u e => Heap.get?_push_of_some _ e) (Nat.le_refl _) ?_, rfl, q _ hf⟩
  exact ⟨z, us, 0, r, Heap.get?_push_size _ rfl⟩
end

noncomputable abbrev Sp := List V → Hp → VK → XK → Prop
noncomputable abbrev CXT := List Env → Hp → Shared → XK → Value → Shared → Prop

structure Env0 (P : Program) (w : World) (K : PySem.W.Frag) (mg : Str → Option Value) (base : Heap) (A : Around) (outer : List Env) (s : Shared) (H : Hp) : Prop where
  frames : A.frames = some outer
  mod : Mod K mg base
  bs : ∀ b o, base.get? b = some o → s.heap.get? b = some o ∧ H b = none
  bsz : base.objs.size ≤ s.heap.objs.size
  funs : s.heap.FunFrames base outer
  frf : ∀ b ∈ frs outer, H b = none
  hok : HOk P w H s.heap
  bare : AllBare s.gens
noncomputable def CE (outer : List Env) (P : Program) (w : World) (H : Hp) (s : Shared) (Q : VK) (u : Value) (s' : Shared) : Prop :=
  ∃ v H', s'.os = s.os ∧ AllBare s'.gens ∧ Un (frs outer) [] H H' s.heap s'.heap ∧ HOk P w H' s'.heap ∧ RelV v u ∧ Q v H'
noncomputable def CR (CX : CXT) (outer : List Env) (P : Program) (w : World) (H : Hp) (s : Shared) (Q : VK) (E : XK) (r : Result) (s' : Shared) : Prop :=
  match r with
  | .ok (.ret u) => CE outer P w H s Q u s'
  | .ok _ => False
  | .error e => CX outer H s E e s'
structure FnOk (P : Program) (w : World) (K : PySem.W.Frag) (mg : Str → Option Value) (base : Heap) (CX : CXT) (k : Nat) (f : Addr) (fd : FuncData) (ps : List Str) (sp : Sp) : Prop where
  len : ∀ vs H Q E, sp vs H Q E → vs.length = ps.length
  run : ∀ (A : Around) (outer : List Env) (s : Shared) (H : Hp) (args : Args) (us : List Value) (vs : List V) (Q : VK) (E : XK), Room k A → Env0 P w K mg base A outer s H → BindsTo s fd args (ps.zip us) → Vals vs us → sp vs H Q E →
    codeAny (model P w) A (.call (.ref f) args) (CR CX outer P w H s Q E) s
theorem FnOk.mono {P : Program} {w : World} {K : PySem.W.Frag} {mg : Str → Option Value} {base : Heap} {CX : CXT} {j k : Nat} {f : Addr} {fd : FuncData} {ps : List Str} {sp : Sp} (F : FnOk P w K mg base CX j f fd ps sp) (h : j ≤ k) :
    FnOk P w K mg base CX k f fd ps sp := ⟨F.len, fun A outer s H args us vs Q E hr => F.run A outer s H args us vs Q E (hr.mono h)⟩
theorem FnOk.imp {P : Program} {w : World} {K : PySem.W.Frag} {mg : Str → Option Value} {base : Heap} {CX : CXT} {k : Nat} {f : Addr} {fd : FuncData} {ps : List Str} {sp sp' : Sp} (F : FnOk P w K mg base CX k f fd ps sp)
    (h : ∀ vs H Q E, sp' vs H Q E → sp vs H Q E) : FnOk P w K mg base CX k f fd ps sp' :=
  ⟨fun vs H Q E q => F.len vs H Q E (h _ _ _ _ q), fun A outer s H args us vs Q E hr he hb hv hs => F.run A outer s H args us vs Q E hr he hb hv (h _ _ _ _ hs)⟩

theorem Env0.in1 {P : Program} {w : World} {K : PySem.W.Frag} {mg : Str → Option Value} {base : Heap} {A : Around} {outer : List Env} {s : Shared} {H : Hp} (e : Env0 P w K mg base A outer s H) :
    Env0 P w K mg base A.in1 outer s H := ⟨e.frames, e.mod, e.bs, e.bsz, e.funs, e.frf, e.hok, e.bare⟩

section
variable {X : Cx} {pins : List (Addr × Obj)} {σ : St} {H : Hp} {s s' : Shared}
theorem Inv.env0 (I : Inv X pins σ H s) : Env0 X.prog X.w X.K X.mg X.base X.A X.stack s H :=
  ⟨I.ok.frames, I.ok.mod, I.bs, Nat.le_trans I.ok.bsz I.sz, I.stack, I.stkFree, I.hok, I.bare⟩
theorem Inv.after {Q : VK} {u : Value} (I : Inv X pins σ H s) (h : CE X.stack X.prog X.w H s Q u s') : EP X pins σ Q u s' := by
  obtain ⟨v, H', os, bare, un, hok, r, q⟩ := h
  obtain ⟨hh, g, d, t, os'⟩ := s'
  obtain rfl : os' = s.os := os
  exact ⟨v, H', I.call (h' := hh) (g' := g) (d' := d) (t' := t) (ch := []) un hok bare (fun b z => absurd z (by simp)), r, q⟩
end

noncomputable def tCall (sp : Sp) (dvs : List V) (E : XK) (t : TA) : TE := fun σ H Q => t σ H fun vs H1 => sp (vs ++ dvs) H1 Q E
noncomputable def Binds (K : PySem.W.Frag) (fd : FuncData) (ps : List Str) (ds : List Value) : Prop :=
  ∀ (s : Shared) (us : List Value), K.In s.heap → (us ++ ds).length = ps.length → BindsTo s fd ⟨us, []⟩ (ps.zip (us ++ ds))
theorem Binds.all {K : PySem.W.Frag} {fd : FuncData} {ps : List Str} (h : ∀ us : List Value, us.length = ps.length → bindArgs fd ⟨us, []⟩ = pure (ps.zip us)) : Binds K fd ps [] := fun s us _ hl => by
  rw [List.append_nil] at hl ⊢
  exact .of_eq (h us hl)

noncomputable def Passes (CX : CXT) (X : Cx) (E : XK) : Prop := ∀ (pins : List (Addr × Obj)) (σ : St) (H : Hp) (s : Shared) (e : Value) (s' : Shared), Inv X pins σ H s → CX X.stack H s E e s' → X.xe e s'

section
variable {X : Cx} {CX : CXT} {k : Nat} {f C : Addr} {fd : FuncData} {ps : List Str} {sp : Sp} {dvs : List V} {ds : List Value} {E : XK} {x m : Str} {p pos apos : Pos} {e o : Expr} {es : List Expr} {ta : TE} {t : TA}

theorem run_fn {pins : List (Addr × Obj)} {σ : St} {H : Hp} {s : Shared} {Q : VK} {us : List Value} {vs : List V} (F : FnOk X.prog X.w X.K X.mg X.base CX k f fd ps sp) (hr : Room k X.A) (hb : Binds X.K fd ps ds) (hd : Vals dvs ds) (hx : Passes CX X E)
    (I : Inv X pins σ H s) (r : Vals vs us) (h : sp (vs ++ dvs) H Q E) : wpAny (model X.prog X.w) X.A (call (.ref f) us) (EP X pins σ Q) X.xe s := by
  have r2 : Vals (vs ++ dvs) (us ++ ds) := r.append hd
  have hl : (us ++ ds).length = ps.length := by rw [← r2.length]; exact F.len _ _ _ _ h
  refine wpAny_call (codeAny_mono (F.run X.A X.stack s H ⟨us, []⟩ (us ++ ds) (vs ++ dvs) Q E hr I.env0 (hb s us I.kIn hl) r2 h) fun r s' hq => ?_)
  cases r with
  | error e => exact hx pins σ H s e s' I hq
  | ok fl =>
    cases fl with
    | ret u => exact I.after hq
    | next => exact False.elim hq
    | brk => exact False.elim hq
    | cont => exact False.elim hq

theorem pe_call (F : FnOk X.prog X.w X.K X.mg X.base CX k f fd ps sp) (hr : Room k X.A) (hg : Gl X x) (hm : X.mg x = some (.ref f)) (hk : PySem.W.keepIn X.K (.ref f) = true) (hb : Binds X.K fd ps ds) (hd : Vals dvs ds) (hx : Passes CX X E)
    (ha : PA X (e :: es) t) (hdb : (x == ("__debug__" : Str)) = false := by decide) (he : starEach (e :: es) X.env = (false, eval e X.env) :: starEach es X.env := by rfl) (hpl : (backTo pos (starEach es X.env)).any (·.1) = false := by rfl) :
    PE X (.Call (.Name x p) (e :: es) [] pos) (tCall sp dvs E t) := by
  intro pins s σ H Q I h
  refine wpAny_Call_Name_kw (ld_glob I hg hm ?_ hdb)
  refine PySem.W.callWith_K (h₀ := X.base) I.ok.mod.kin hk (thn (ha pos pins s σ H _ I h) fun us s1 ⟨vs, H1, I1, r, q⟩ => ⟨I1.kIn, ?_⟩) he hpl
  exact run_fn F hr hb hd hx I1 r q
end

section
variable {X : Cx} {CX : CXT} {k : Nat} {f C : Addr} {fd : FuncData} {ps ks : List Str} {sp : Sp} {E : XK} {x m : Str} {p pos apos kpos : Pos} {e o : Expr} {es : List Expr} {kws : List Keyword} {te ta : TE} {t tk : TA} {nm : Option Str}
variable {g : List Value → List Value → List Value} {gV : List V → List V → List V}
end

structure FnScope (N P : List Str) (sc : Scope) : Prop where
  kind : sc.kind = .function
  co : sc.isCoroutine = false
  gen : sc.isGenerator = false
  nd : N.Nodup
  pre : N.take P.length = P
  par : ∀ x ∈ P, sc.names.lookup x = some .local ∨ sc.names.lookup x = some .cell
  nofree : ∀ y ∈ sc.names, y.2 ≠ .free

theorem bindL_out {kindOf : Str → Option NameKind} {x : Str} : ∀ {binds : List (Str × Value)} {m : Str → Option Value}, (∀ v, (x, v) ∉ binds) → bindL kindOf binds m x = m x
  | [], _, _ => rfl
  | (n, v) :: r, m, h => by
    unfold bindL
    rw [bindL_out fun w hw => h w (List.mem_cons_of_mem _ hw)]
    split
    · have : x ≠ n := by rintro rfl; exact h v List.mem_cons_self
      simp [this]
    · rfl
theorem bindC_out {kindOf : Str → Option NameKind} {x : Str} : ∀ {binds : List (Str × Value)} {m : Str → Option Value}, (∀ v, (x, v) ∉ binds) → bindC kindOf binds m x = m x
  | [], _, _ => rfl
  | (n, v) :: r, m, h => by
    unfold bindC
    rw [bindC_out fun w hw => h w (List.mem_cons_of_mem _ hw)]
    split
    · rfl
    · have : x ≠ n := by rintro rfl; exact h v List.mem_cons_self
      simp [this]
theorem bindL_get {kindOf : Str → Option NameKind} {x : Str} {v : Value} : ∀ {P : List Str} {vs : List Value} {i : Nat} {m : Str → Option Value}, P.Nodup → P[i]? = some x → vs[i]? = some v → kindOf x = some .local →
    bindL kindOf (P.zip vs) m x = some v
  | [], _, _, _, _, h, _, _ => by simp at h
  | _ :: _, [], _, _, _, _, h, _ => by simp at h
  | p :: P, w :: vs, 0, m, nd, h1, h2, hk => by
    simp at h1 h2; subst h1; subst h2
    show bindL kindOf ((p, w) :: P.zip vs) m p = _
    unfold bindL
    rw [bindL_out fun v hv => (List.nodup_cons.mp nd).1 (List.of_mem_zip hv).1, if_pos hk]
    simp
  | p :: P, w :: vs, i + 1, m, nd, h1, h2, hk => by
    show bindL kindOf ((p, w) :: P.zip vs) m x = _
    unfold bindL
    exact bindL_get (i := i) (List.nodup_cons.mp nd).2 (by simpa using h1) (by simpa using h2) hk
theorem bindC_get {kindOf : Str → Option NameKind} {x : Str} {v : Value} : ∀ {P : List Str} {vs : List Value} {i : Nat} {m : Str → Option Value}, P.Nodup → P[i]? = some x → vs[i]? = some v → kindOf x ≠ some .local →
    bindC kindOf (P.zip vs) m x = some v
  | [], _, _, _, _, h, _, _ => by simp at h
  | _ :: _, [], _, _, _, _, h, _ => by simp at h
  | p :: P, w :: vs, 0, m, nd, h1, h2, hk => by
    simp at h1 h2; subst h1; subst h2
    show bindC kindOf ((p, w) :: P.zip vs) m p = _
    unfold bindC
    rw [bindC_out fun v hv => (List.nodup_cons.mp nd).1 (List.of_mem_zip hv).1, if_neg hk]
    simp
  | p :: P, w :: vs, i + 1, m, nd, h1, h2, hk => by
    show bindC kindOf ((p, w) :: P.zip vs) m x = _
    unfold bindC
    exact bindC_get (i := i) (List.nodup_cons.mp nd).2 (by simpa using h1) (by simpa using h2) hk

noncomputable def start (N : List Str) (vs : List V) : St := vs.map some ++ List.replicate (N.length - vs.length) none

noncomputable def cxOf (CX : CXT) (P : Program) (w : World) (K : PySem.W.Frag) (mg : Str → Option Value) (base : Heap) (N : List Str) (qual : Str) (scope : Scope) (f : Addr) (cd : Value) (A : Around) (outer : List Env) (s : Shared) (H : Hp) (E : XK) : Cx where
  prog := P
  w := w
  K := K
  mg := mg
  base := base
  A := A.deeper (envOfC qual scope s.heap.objs.size f cd)
  N := N
  s₀ := s
  H₀ := H
  env := envOfC qual scope s.heap.objs.size f cd
  outer := outer
  stack := envOfC qual scope s.heap.objs.size f cd :: outer
  ex := []
  calm := true
  fn := fun _ => true
  pn := []
  xe := fun e s' => wpAny (model P w) (A.deeper (envOfC qual scope s.heap.objs.size f cd)) (leaving (envOfC qual scope s.heap.objs.size f cd) e) (fun _ s'' => CX outer H s E e s'') (fun e' s'' => CX outer H s E e' s'') s'

theorem cell_has {sc : Scope} {n : Nat} {x : Str} (h : sc.names.lookup x = some .cell) : ∃ c, (cellsFrom n sc.names []).lookup x = some c := by
  have q := PySem.W.cellsFrom_some sc.names n [] (.inl h)
  exact Option.isSome_iff_exists.mp q

theorem inv_start {CX : CXT} {P : Program} {w : World} {K : PySem.W.Frag} {mg : Str → Option Value} {base : Heap} {N ps : List Str} {qual : Str} {scope : Scope} {f : Addr} {cd : Value} {A : Around} {outer : List Env} {s s1 : Shared} {H : Hp} {E : XK} {us : List Value} {vs : List V}
    (S : FnScope N ps scope) (hd : A.handled = none) (e0 : Env0 P w K mg base A outer s H) (hl : vs.length = ps.length) (r : Vals vs us)
    (x : InCallC s s.heap.objs.size (bindL (envOfC qual scope s.heap.objs.size f cd).kindOf (ps.zip us) fun _ => none) (cellsFrom (s.heap.objs.size + 1) scope.names []) (bindC (envOfC qual scope s.heap.objs.size f cd).kindOf (ps.zip us) fun _ => none) s1) :
    Inv (cxOf CX P w K mg base N qual scope f cd A outer s H E) [] (start N vs) H s1 := by
  have hpl : ps.length ≤ N.length := by have := congrArg List.length S.pre; rw [List.length_take] at this; omega
  obtain ⟨h1, tk, rfl, hk⟩ := x.done
  have noA : ∀ b : Addr, b ∉ (cxOf CX P w K mg base N qual scope f cd A outer s H E).ex := fun b z => absurd (show b ∈ ([] : List Addr) from z) (by simp)
  refine ⟨⟨e0.mod, S.kind, rfl, rfl, Nat.le_refl _, fun y z c h1 h2 => ?_, fun y hy => ?_, fun y c _ h => ?_, fun _ => hd, Around.frames_deeper e0.frames, .inr ⟨rfl, rfl⟩, fun b z => absurd z (noA b), e0.bs, e0.bsz, fun b _ _ => noA b, fun b z => absurd z (noA b), e0.funs, e0.frf⟩,
    rfl, e0.bare, Un.kept hk, ⟨_, x.toInCall.ns, fun i y v h1 h2 h3 => ?_⟩, fun y c h => ⟨_, x.cell y c h⟩, e0.hok.fresh (Nat.le_refl _), fun y c h => ?_, fun p hp => absurd (show p ∈ ([] : List (Addr × Obj)) from hp) (by simp), e0.hok.kept hk, ?_⟩
  · exact name_of_addr x.apart (PySem.mem_of_lookup h1) (PySem.mem_of_lookup h2)
  · have hy : scope.names.lookup y = some .cell ∨ scope.names.lookup y = some .free := hy
    rcases hy with hy | hy
    · exact cell_has hy
    · exact absurd rfl (S.nofree _ (PySem.mem_of_lookup hy))
  · exact Nat.le_of_lt (x.above y c (PySem.mem_of_lookup h))
  · have hi : i < vs.length := by
      unfold start at h2
      by_cases hi : i < vs.length
      · exact hi
      · rw [List.getElem?_append_right (by simpa using hi)] at h2
        rw [List.getElem?_replicate] at h2
        split at h2 <;> cases h2
    have ha : vs[i]? = some v := by
      unfold start at h2
      rw [List.getElem?_append_left (by simpa using hi), List.getElem?_map] at h2
      cases e : vs[i]? with
      | none => rw [e] at h2; cases h2
      | some a => rw [e] at h2; cases h2; rfl
    obtain ⟨u, hu, rv⟩ := r.get ha
    have hp : ps[i]? = some y := by
      rw [← S.pre, List.getElem?_take_of_lt (by omega)]; exact h1
    have ndP : ps.Nodup := by rw [← S.pre]; exact S.nd.sublist (List.take_sublist _ _)
    refine ⟨u, rv, ?_⟩
    rcases S.par y (List.mem_of_getElem? hp) with k | k
    · exact .inl ⟨k, bindL_get ndP hp hu k⟩
    · obtain ⟨c, e⟩ := cell_has (n := s.heap.objs.size + 1) k
      refine .inr ⟨.inl k, c, e, ?_⟩
      have q := x.cell y c e
      rw [bindC_get ndP hp hu (by show scope.names.lookup y ≠ _; rw [k]; decide)] at q
      exact q
  · exact e0.hok.fresh (Nat.le_of_lt (x.above y c (PySem.mem_of_lookup h)))
  · unfold start
    show _ = N.length
    rw [List.length_append, List.length_map, List.length_replicate]
    omega

theorem fn_of {CX : CXT} {P : Program} {w : World} {K : PySem.W.Frag} {mg : Str → Option Value} {base : Heap} {k : Nat} {f : Addr} {name qual : Str} {params : Arguments} {body : List Stmt} {scope : Scope} {dV kV doc pm cdv ct oc : Value} {an od : Option Addr}
    {osl : Array (Option Value)} {N ps : List Str} {sp : Sp} (lk : K.lookup f = some ⟨oc, od, .func (PySem.W.fnOf name qual params body scope dV kV doc pm an cdv ct), osl⟩) (hcd : PySem.W.codeIn K cdv qual = true) (S : FnScope N ps scope)
    (len : ∀ vs H Q E, sp vs H Q E → vs.length = ps.length)
    (hbody : ∀ (A : Around) (outer : List Env) (s : Shared) (H : Hp) (vs : List V) (Q : VK) (E : XK), Room k (A.deeper (envOfC qual scope s.heap.objs.size f cdv)) → sp vs H Q E →
      ∃ t, PSs (cxOf CX P w K mg base N qual scope f cdv A outer s H E) body t ∧ t { nx := fun _ H' => Q .non H', rt := Q } (start N vs) H) :
    FnOk P w K mg base CX (k + 1) f (PySem.W.fnOf name qual params body scope dV kV doc pm an cdv ct) ps sp := by
  refine ⟨len, fun A outer s H args us vs Q E hr e0 hb r hsp => ?_⟩
  have hl := len _ _ _ _ hsp
  have KX : K.In s.heap := e0.mod.kin.keeps fun b o e => (e0.bs b o e).1
  have lim : s.heap.NoLimit := e0.mod.nolimit.keeps fun b o e => (e0.bs b o e).1
  have hkind : ∀ y ∈ ps.zip us, scope.names.lookup y.1 = some .local ∨ (scope.names.lookup y.1 = some .cell ∧ ((cellsFrom (s.heap.objs.size + 1) scope.names []).lookup y.1).isSome = true) := fun ⟨n, v⟩ hy => by
    rcases S.par n (List.of_mem_zip hy).1 with q | q
    · exact .inl q
    · exact .inr ⟨q, PySem.W.cellsFrom_some _ _ _ (.inl q)⟩
  refine codeAny_call_function hr.depth (KX _ _ lk) rfl S.co S.gen rfl (PySem.W.codeRec_of KX hcd) (hb _ _ _ _ ?_)
  refine wpAny_newFunctionEnv_cells S.kind hkind fun env he s1 x => ?_
  subst he
  refine ⟨lim.keeps x.toInCall.keep, codeAny_func ?_⟩
  obtain ⟨t, ht, hq⟩ := hbody A outer s H vs Q E (hr.deeper _) hsp
  have I : Inv (cxOf CX P w K mg base N qual scope f cdv A outer s H E) [] (start N vs) H s1 := inv_start S hr.hd e0 hl r x
  refine wpAny_mono (ht [] s1 (start N vs) H _ I hq) (fun fl s' hs => ?_) fun e s' hs => hs
  have fin : ∀ {σ' : St} {H' : Hp} {v : V} {u : Value}, Inv (cxOf CX P w K mg base N qual scope f cdv A outer s H E) [] σ' H' s' → RelV v u → Q v H' → CE outer P w H s Q u s' :=
    fun {σ' H' v u} J rv q => ⟨v, H', J.os, J.bare, J.base, J.hok, rv, q⟩
  cases fl with
  | ret u =>
    obtain ⟨v, σ', H', J, rv, q⟩ := hs
    exact fin J rv q
  | next =>
    obtain ⟨σ', H', J, q⟩ := hs
    exact fin (v := V.non) (u := Value.none) J rfl q
  | brk =>
    obtain ⟨_, _, _, q⟩ := hs
    exact False.elim q
  | cont =>
    obtain ⟨_, _, _, q⟩ := hs
    exact False.elim q
end L2

namespace L2
open PySem PySem.Spec PyProof.Rows
section
variable {X : Cx} {x : Str} {p pos : Pos} {e : Expr} {es : List Expr} {t : TA} {id T : String} {r : List V → Hp → VK → Prop}

noncomputable def tCB (r : List V → Hp → VK → Prop) (t : TA) : TE := fun σ H Q => t σ H fun vs H1 => r vs H1 Q
theorem pe_callB (hc : CallR X (.builtin id) r) (hg : Gl X x) (hm : X.mg x = none) (hv : bootBuiltins x = some (.builtin id)) (ha : PA X (e :: es) t) (hn : x ≠ "__name__" := by decide) (hdb : (x == ("__debug__" : Str)) = false := by decide)
    (he : starEach (e :: es) X.env = (false, eval e X.env) :: starEach es X.env := by rfl) (hpl : (backTo pos (starEach es X.env)).any (·.1) = false := by rfl) : PE X (.Call (.Name x p) (e :: es) [] pos) (tCB r t) := by
  intro pins s σ H Q I h
  refine wpAny_Call_Name_kw (ld_blt I hg hm hv ?_ hn hdb)
  exact PyProof.Rows.callWith_builtin1 (thn (ha pos pins s σ H _ I h) fun us s1 ⟨vs, H1, I1, r1, q1⟩ => hc pins s1 σ H1 vs us Q I1 r1 q1) he hpl
theorem pe_callTy (hc : CallR X (.type T) r) (hg : Gl X x) (hm : X.mg x = none) (hv : bootBuiltins x = some (.type T)) (ha : PA X (e :: es) t) (hn : x ≠ "__name__" := by decide) (hdb : (x == ("__debug__" : Str)) = false := by decide)
    (he : starEach (e :: es) X.env = (false, eval e X.env) :: starEach es X.env := by rfl) (hpl : (backTo pos (starEach es X.env)).any (·.1) = false := by rfl) : PE X (.Call (.Name x p) (e :: es) [] pos) (tCB r t) := by
  intro pins s σ H Q I h
  refine wpAny_Call_Name_kw (ld_blt I hg hm hv ?_ hn hdb)
  exact PyProof.Rows.callWith_type1 (thn (ha pos pins s σ H _ I h) fun us s1 ⟨vs, H1, I1, r1, q1⟩ => hc pins s1 σ H1 vs us Q I1 r1 q1) he hpl
end
end L2

namespace HT
open PySem PyProof.Rows

theorem eqAt_int (A : Around) (s : Shared) (a : Int) (t : Tok) (c : Int) (u : Tok) : ∃ e, SeqAt.EqAt A s (.int a t) (.int c u) e ∧ (e = true ↔ a = c) :=
  ⟨(a == c), SeqAt.EqAt.int_int a t c u, by simp⟩
section
open PySem.SeqAt
open PySem.AutoSeq1 (wpAny_loadPart')
open PySem.MeetsSeq PySem.MeetsSeq2 PySem.MeetsSeq3

end

section
variable {prog : Program} {w : World} {A : Around} {E : Value → Shared → Prop} {s : Shared}

noncomputable def sIx (n d : Nat) : Option Int → Nat
  | none => d
  | some v => if v < 0 then (v + (n : Int)).toNat else min v.toNat n
theorem sIx_none (n d : Nat) : sIx n d none = d := rfl
theorem sIx_nat (n d k : Nat) : sIx n d (some (k : Int)) = min k n := by
  show (if (k : Int) < 0 then ((k : Int) + (n : Int)).toNat else min (k : Int).toNat n) = min k n
  rw [if_neg (by omega), Int.toNat_natCast]
theorem sIx_le (n d : Nat) (hd : d ≤ n) (o : Option Int) : sIx n d o ≤ n := by
  cases o with
  | none => exact hd
  | some v =>
    show (if v < 0 then (v + (n : Int)).toNat else min v.toNat n) ≤ n
    by_cases hv : v < 0
    · rw [if_pos hv]; omega
    · rw [if_neg hv]; exact Nat.min_le_right _ _
theorem clip_eq (v : Int) (n d : Nat) : (if v < 0 then max (v + (n : Int)) 0 else min v (n : Int)) = ((sIx n d (some v) : Nat) : Int) := by
  show (if v < 0 then max (v + (n : Int)) 0 else min v (n : Int)) = (((if v < 0 then (v + (n : Int)).toNat else min v.toNat n) : Nat) : Int)
  by_cases hv : v < 0
  · simp only [if_pos hv]; omega
  · simp only [if_neg hv]; omega
theorem adjust_gen (lo hi : Option Int) (n : Nat) : Builtin.Slice.sliceAdjust lo hi 1 (n : Int) = (((sIx n 0 lo : Nat) : Int), ((sIx n n hi : Nat) : Int)) := by
  have h1 : ¬ ((1 : Int) < 0) := by omega
  unfold Builtin.Slice.sliceAdjust
  simp only [h1, if_false]
  refine Prod.ext ?_ ?_
  · cases lo with
    | none => rfl
    | some v => exact clip_eq v n 0
  · cases hi with
    | none => rfl
    | some v => exact clip_eq v n n
theorem places_gen (i j : Nat) : Builtin.Slice.slicePlaces (i : Int) (j : Int) 1 = j - i := by
  unfold Builtin.Slice.slicePlaces
  have h1 : (1 : Int) > 0 := by omega
  simp only [h1, if_true, Int.ediv_one]
  split <;> omega
theorem slicePart_ {v : Value} {o : Option Int} {Q : Option Int → Shared → Prop} (p : IsPart v o) (h : Q o s) : wpAny (model prog w) A (Builtin.Slice.slicePartIndex v) Q E s := by
  cases p with
  | none => exact slicePart_none h
  | int i t => exact slicePart_int h
theorem sliceApplied_gen {sl : Addr} {vl vu : Value} {lo hi : Option Int} {n : Nat} {Q : Int × Int × Nat → Shared → Prop} (hs : s.heap.IsSliceOf sl vl vu .none) (pl : IsPart vl lo) (pu : IsPart vu hi)
    (h : Q (((sIx n 0 lo : Nat) : Int), 1, sIx n n hi - sIx n 0 lo) s) : wpAny (model prog w) A (Builtin.Slice.sliceApplied (.ref sl) (pure (n : Int))) Q E s := by
  obtain ⟨os, hos, hcs, hds⟩ := id hs
  unfold Builtin.Slice.sliceApplied Builtin.Slice.sliceFields
  refine wpAny_bind (wpAny_bind (wpAny_field hos hds (x := vl) rfl (wpAny_bind (wpAny_field hos hds (x := vu) rfl (wpAny_bind (wpAny_field hos hds (x := .none) rfl (wpAny_pure ?_)))))))
  refine wpAny_bind (slicePart_none ?_)
  show wpAny _ _ (if ((1 : Int) == 0) = true then _ else _) _ _ s
  rw [if_neg (by decide)]
  refine wpAny_bind (slicePart_ pl (wpAny_bind (slicePart_ pu (wpAny_bind (wpAny_pure ?_)))))
  show wpAny _ _ (match Builtin.Slice.sliceAdjust lo hi 1 (n : Int) with | (lo, hi) => pure (lo, (1 : Int), Builtin.Slice.slicePlaces lo hi 1)) _ _ s
  rw [adjust_gen lo hi n]
  show wpAny _ _ (pure (((sIx n 0 lo : Nat) : Int), (1 : Int), Builtin.Slice.slicePlaces ((sIx n 0 lo : Nat) : Int) ((sIx n n hi : Nat) : Int) 1)) _ _ s
  rw [places_gen]
  exact wpAny_pure h
theorem pick_gen (xs : Array Value) (i k : Nat) : ((List.range k).filterMap fun (m : Nat) => xs[((i : Int) + (m : Int) * 1).toNat]?).toArray = ((xs.toList.drop i).take k).toArray := by
  have e : (fun (m : Nat) => xs[((i : Int) + (m : Int) * 1).toNat]?) = fun m => xs[i + m]? := by
    funext m
    have : ((i : Int) + (m : Int) * 1).toNat = i + m := by omega
    rw [this]
  rw [e]
  have := pick_run xs i k
  rw [List.filterMap_map] at this
  have e2 : ((fun x => xs[x]?) ∘ fun x => i + x) = fun m => xs[i + m]? := rfl
  rw [e2] at this
  rw [this]

theorem getItem_tuple_cut {t sl : Addr} {items : Array Value} {vl vu : Value} {lo hi : Option Int} {Q : Value → Shared → Prop} (ht : IsTup s.heap t items) (hs : s.heap.IsSliceOf sl vl vu .none) (pl : IsPart vl lo) (pu : IsPart vu hi)
    (hw : ¬ (sIx items.size 0 lo = 0 ∧ sIx items.size items.size hi = items.size))
    (h : Q (.ref s.heap.objs.size) { s with heap := s.heap.push { cls := .type "tuple", data := .seq ((items.toList.drop (sIx items.size 0 lo)).take (sIx items.size items.size hi - sIx items.size 0 lo)).toArray } })
    (hsz : items.size ≤ sizeLine) : wpAny (model prog w) A (getItem (.ref t) (.ref sl)) Q E s := by
  have htake : sizeOk (.seq ((items.toList.drop (sIx items.size 0 lo)).take (sIx items.size items.size hi - sIx items.size 0 lo)).toArray) := by
    show ((items.toList.drop (sIx items.size 0 lo)).take (sIx items.size items.size hi - sIx items.size 0 lo)).toArray.size ≤ sizeLine
    rw [List.size_toArray, List.length_take, List.length_drop, Array.length_toList]
    omega
  have hj : sIx items.size items.size hi ≤ items.size := sIx_le _ _ (Nat.le_refl _) hi
  obtain ⟨os, hos, hcs, hds⟩ := id hs
  have hTs : s.TypeIs (.ref sl) "slice" := ⟨os, hos, hcs⟩
  unfold getItem
  try with_reducible refine wpAny_holding ?_
  first | refine wpAny_bind (wpAny_pure ?_) | skip
  refine wpAny_bind (wpAny_sequenceKey ht.typeIs (by decide) ?_)
  refine wpAny_bind (wpAny_callSpecial?_slot (name := Str.ofString "__getitem__") ht.typeIs PyProof.Rows.slot_tuple_getitem
    (wpAny_call_entry PyProof.Rows.slot_tuple_getitem ht.typeIs entry_tuple_getitem ?_ (args_tuple_getitem _ _)))
  show wpAny _ _ (Builtin.Tuple.tupleItemsOf (.ref t) >>= _) _ _ s
  refine wpAny_bind (tupleItemsOf_ ht ?_)
  refine wpAny_bind (wpAny_typeOf hTs ?_)
  rw [if_pos (by decide)]
  refine wpAny_bind (sliceApplied_gen hs pl pu ?_)
  have hno : ¬ ((((sIx items.size 0 lo : Nat) : Int) == 0 && (1 : Int) == 1 && (sIx items.size items.size hi - sIx items.size 0 lo) == items.size) = true) := by
    intro q
    rw [Bool.and_eq_true, Bool.and_eq_true] at q
    have q1 : ((sIx items.size 0 lo : Nat) : Int) = 0 := eq_of_beq q.1.1
    have q2 : sIx items.size items.size hi - sIx items.size 0 lo = items.size := eq_of_beq q.2
    exact hw ⟨by omega, by omega⟩
  show wpAny _ _ (if (((sIx items.size 0 lo : Nat) : Int) == 0 && (1 : Int) == 1 && (sIx items.size items.size hi - sIx items.size 0 lo) == items.size) = true then _ else _) _ _ s
  rw [if_neg hno, pick_gen]
  first
    | exact wpAny_bind (m := Builtin.Tuple.tupleExact _) (wpAny_newObj_type (wpAny_pure ⟨_, rfl, wpAny_pure h⟩) htake)
    | exact wpAny_bind (m := Builtin.Tuple.tupleExact _) (wpAny_newObj_type (wpAny_bind (wpAny_pure (wpAny_pure ⟨_, rfl, wpAny_pure h⟩))) htake)
    | exact wpAny_bind (wpAny_bind (m := Builtin.Tuple.tupleExact _) (wpAny_newObj_type (wpAny_pure (wpAny_pure ⟨_, rfl, wpAny_pure h⟩)) htake))
    | exact wpAny_bind (wpAny_bind (m := Builtin.Tuple.tupleExact _) (wpAny_newObj_type (wpAny_pure ⟨_, rfl, wpAny_pure h⟩) htake))
end
end HT

namespace L2
open PySem PySem.Spec PyProof.Rows

noncomputable abbrev TO := St → Hp → (Option Int → Hp → Prop) → Prop
noncomputable def PO (X : Cx) (e : Option Expr) (t : TO) : Prop :=
  ∀ (pins : List (Addr × Obj)) (s : Shared) (σ : St) (H : Hp) (Q : Option Int → Hp → Prop), Inv X pins σ H s → t σ H Q →
    wpAny (model X.prog X.w) X.A (evalPart e X.env) (fun u s' => ∃ o H', Inv X pins σ H' s' ∧ IsPart u o ∧ Q o H') X.xe s
noncomputable def tNoPart : TO := fun _ H Q => Q none H
noncomputable def tPart (t : TE) : TO := fun σ H Q => t σ H fun x H1 => ∃ i, x = .int i ∧ Q (some i) H1

theorem intsAre_of {ns : List Int} : ∀ {us : List Value}, Vals (ns.map V.int) us → IntsAre us ns := by
  induction ns with
  | nil => intro us r; rw [List.map_nil] at r; cases r; exact .nil
  | cons n ns ih =>
    intro us r
    rw [List.map_cons] at r
    cases r with
    | cons r1 r2 =>
      obtain ⟨t, e⟩ := r1
      subst e
      exact .cons n t (ih r2)

section
variable {X : Cx} {e : Expr} {te : TE} {lo hi : Option Expr} {tl th : TO} {pos p2 : Pos}

theorem po_none : PO X none tNoPart := by
  intro pins s σ H Q I h
  rw [evalPart_none]
  exact wpAny_pure ⟨none, H, I, .none, h⟩
theorem po_some (h : PE X e te) : PO X (some e) (tPart te) := by
  intro pins s σ H Q I hw
  rw [evalPart_some]
  refine thn (h pins s σ H _ I hw) fun u s1 zz => ?_
  obtain ⟨x, H1, I1, r1, q1⟩ := zz
  obtain ⟨i, rfl, q⟩ := q1
  obtain ⟨t, rfl⟩ := r1
  exact ⟨some i, H1, I1, .int i t, q⟩

noncomputable def SlR (X : Cx) (r : V → Option Int → Option Int → Hp → VK → Prop) : Prop :=
  ∀ (pins : List (Addr × Obj)) (s : Shared) (σ : St) (H : Hp) (x : V) (v vl vu : Value) (lo hi : Option Int) (sl : Addr) (Q : VK), Inv X pins σ H s → RelV x v → s.heap.IsSliceOf sl vl vu .none → IsPart vl lo → IsPart vu hi → r x lo hi H Q →
    ∃ T id, typeLookup (.type T) "__getitem__" = pure (some (.builtin id)) ∧ s.TypeIs v T ∧ wpAny (model X.prog X.w) X.A (getItem v (.ref sl)) (EP X pins σ Q) X.xe s
theorem SlR.or {r r' : V → Option Int → Option Int → Hp → VK → Prop} (h : SlR X r) (h' : SlR X r') : SlR X (fun x lo hi H Q => r x lo hi H Q ∨ r' x lo hi H Q) := by
  intro pins s σ H x v vl vu lo hi sl Q I rx hs pl pu q
  rcases q with q | q
  · exact h pins s σ H x v vl vu lo hi sl Q I rx hs pl pu q
  · exact h' pins s σ H x v vl vu lo hi sl Q I rx hs pl pu q
noncomputable def tSl (r : V → Option Int → Option Int → Hp → VK → Prop) (te : TE) (tl th : TO) : TE := fun σ H Q => te σ H fun x H1 => tl σ H1 fun l H2 => th σ H2 fun u H3 => r x l u H3 Q
theorem pe_slice {r : V → Option Int → Option Int → Hp → VK → Prop} (hr : SlR X r) (he : PE X e te) (hl : PO X lo tl) (hu : PO X hi th) : PE X (.Subscript e (.Slice lo hi none p2) pos) (tSl r te tl th) := by
  intro pins s σ H Q I h
  refine Subscript_ (thn (he pins s σ H _ I h) fun v s1 zz => ?_)
  obtain ⟨x, H1, I1, r1, q1⟩ := zz
  refine wpAny_Slice (thn (hl pins s1 σ H1 _ I1 q1) fun vl s2 ⟨l, H2, I2, pl, q2⟩ => thn (hu pins s2 σ H2 _ I2 q2) fun vu s3 zz => ?_)
  obtain ⟨u, H3, I3, pu, q3⟩ := zz
  rw [evalPart_none]
  refine wpAny_pure ?_
  have I4 : Inv X pins σ H3 { s3 with heap := s3.heap.push { cls := .type "slice", data := .fields #[vl, vu, .none] } } := I3.kept (t' := s3.toks) fun b ob q => Heap.get?_push_of_some _ q
  obtain ⟨T, id, hT, ht, hg⟩ := hr pins { s3 with heap := s3.heap.push { cls := .type "slice", data := .fields #[vl, vu, .none] } } σ H3 x v vl vu l u s3.heap.objs.size Q I4 r1 (Heap.IsSliceOf.new ..) pl pu q3
  show wpAny (model X.prog X.w) X.A (subscriptTail e (.Slice lo hi none p2) v (.ref s3.heap.objs.size)) (EP X pins σ Q) X.xe { s3 with heap := s3.heap.push { cls := .type "slice", data := .fields #[vl, vu, .none] } }
  exact tail_any (ops := [.ref s3.heap.objs.size, v]) ht hT hg (by with_unfolding_all rfl)

noncomputable def cutV (xs : List V) (lo hi : Option Int) : List V := (xs.drop (HT.sIx xs.length 0 lo)).take (HT.sIx xs.length xs.length hi - HT.sIx xs.length 0 lo)
theorem cutV_length (xs : List V) (lo hi : Option Int) : (cutV xs lo hi).length ≤ xs.length := by
  unfold cutV
  rw [List.length_take, List.length_drop]
  omega
noncomputable def rSlT (K : PySem.W.Frag) : V → Option Int → Option Int → Hp → VK → Prop := fun x lo hi H Q => ∃ a xs, x = .ref a ∧ SqT K H a xs ∧
  ¬ (HT.sIx xs.length 0 lo = 0 ∧ HT.sIx xs.length xs.length hi = xs.length) ∧ ∀ p, H p = none → Q (.ref p) (upd H p (.tup (cutV xs lo hi)))
theorem sl_tup : SlR X (rSlT X.K) := by
  intro pins s σ H x v vl vu lo hi sl Q I rx hs pl pu h
  obtain ⟨a, xs, rfl, hx, hw, q⟩ := h
  cases rx
  obtain ⟨its, r, ht, hz⟩ := I.tuple hx
  have hlen : its.toArray.size = xs.length := by rw [List.size_toArray]; exact r.length.symm
  refine ⟨"tuple", _, PyProof.Rows.slot_tuple_getitem.lookup, ht.typeIs, ?_⟩
  refine HT.getItem_tuple_cut ht hs pl pu (by rw [hlen]; exact hw) ?_ (by rw [hlen]; exact hz)
  rw [hlen]
  refine ⟨.ref s.heap.objs.size, _, I.laid (t' := s.toks) (o := .tup (cutV xs lo hi)) (fun b ob q => Heap.get?_push_of_some _ q) (Nat.le_refl _) ?_, rfl, q _ (I.hok.fresh (Nat.le_refl _))⟩
  exact ⟨Nat.le_trans (cutV_length xs lo hi) hz, _, (r.drop (HT.sIx xs.length 0 lo)).take (HT.sIx xs.length xs.length hi - HT.sIx xs.length 0 lo), IsTup.new _ _⟩

end
end L2

namespace L2
open PySem PySem.Spec PyProof.Rows

noncomputable def ixN (n : Nat) (i : Int) : Option Nat := if 0 ≤ i then (if i < n then some i.toNat else none) else if -(n : Int) ≤ i then some (i + n).toNat else none
noncomputable def atI {α : Type} (xs : List α) (i : Int) : Option α := (ixN xs.length i).bind fun j => xs[j]?
theorem ixN_seq {n : Nat} {i : Int} {j : Nat} (h : ixN n i = some j) : seqIndex? i n = some j ∧ j < n ∧ -(n : Int) ≤ i ∧ i < n := by
  unfold ixN at h
  by_cases h0 : 0 ≤ i
  · rw [if_pos h0] at h
    by_cases h1 : i < n
    · rw [if_pos h1] at h
      have e : i.toNat = j := Option.some.inj h
      exact ⟨by rw [seqIndex_of h0 h1, e], by omega, by omega, h1⟩
    · rw [if_neg h1] at h; cases h
  · rw [if_neg h0] at h
    by_cases h1 : -(n : Int) ≤ i
    · rw [if_pos h1] at h
      have e : (i + n).toNat = j := Option.some.inj h
      exact ⟨by rw [seqIndex_neg (by omega) h1, e], by omega, h1, by omega⟩
    · rw [if_neg h1] at h; cases h
theorem atI_get {α : Type} {xs : List α} {i : Int} {v : α} (h : atI xs i = some v) : ∃ j, seqIndex? i xs.length = some j ∧ xs[j]? = some v ∧ j < xs.length ∧ -(xs.length : Int) ≤ i ∧ i < xs.length := by
  unfold atI at h
  cases e : ixN xs.length i with
  | none => rw [e] at h; cases h
  | some j =>
    rw [e] at h
    obtain ⟨h1, h2, h3, h4⟩ := ixN_seq e
    exact ⟨j, h1, h, h2, h3, h4⟩
theorem atI_last {α : Type} (xs : List α) (v : α) : atI (xs ++ [v]) (-1) = some v := by
  have hl : (xs ++ [v]).length = xs.length + 1 := by simp
  have e : ixN (xs ++ [v]).length (-1) = some xs.length := by
    unfold ixN
    rw [hl, if_neg (by decide), if_pos (by omega)]
    congr 1
    omega
  unfold atI
  rw [e]
  show (xs ++ [v])[xs.length]? = some v
  simp

noncomputable def PlainIx (b : Expr) : Prop := ∀ o i, subscripted b false o i = operate [o, i] (getItem o i)
noncomputable def IxR (X : Cx) (r : R2) : Prop :=
  ∀ (value slice : Expr) (pins : List (Addr × Obj)) (s : Shared) (σ : St) (H : Hp) (x y : V) (v u : Value) (Q : VK), Inv X pins σ H s → RelV x v → RelV y u → r x y H Q →
    subscripted slice false v u = operate [v, u] (getItem v u) → wpAny (model X.prog X.w) X.A (subscriptTail value slice v u) (EP X pins σ Q) X.xe s
noncomputable def MtR (X : Cx) (id : String) (r : V → List V → Hp → VK → Prop) : Prop :=
  ∀ (pins : List (Addr × Obj)) (s : Shared) (σ : St) (H : Hp) (x : V) (xs : List V) (v : Value) (us : List Value) (Q : VK), Inv X pins σ H s → RelV x v → Vals xs us → r x xs H Q →
    wpAny (model X.prog X.w) X.A (call (.builtin id) (v :: us)) (EP X pins σ Q) X.xe s
section
variable {X : Cx} {a b : Expr} {ta tb : TE} {pos : Pos}
theorem IxR.or {r r' : R2} (h : IxR X r) (h' : IxR X r') : IxR X (fun x y H Q => r x y H Q ∨ r' x y H Q) := by
  intro value slice pins s σ H x y v u Q I rx ry q hs
  rcases q with q | q
  · exact h value slice pins s σ H x y v u Q I rx ry q hs
  · exact h' value slice pins s σ H x y v u Q I rx ry q hs
theorem MtR.or {id : String} {r r' : V → List V → Hp → VK → Prop} (h : MtR X id r) (h' : MtR X id r') : MtR X id (fun x xs H Q => r x xs H Q ∨ r' x xs H Q) := by
  intro pins s σ H x xs v us Q I rx rs q
  rcases q with q | q
  · exact h pins s σ H x xs v us Q I rx rs q
  · exact h' pins s σ H x xs v us Q I rx rs q
theorem pe_ix {r : R2} (hr : IxR X r) (ha : PE X a ta) (hb : PE X b tb) (hs : PlainIx b) : PE X (.Subscript a b pos) (tOp r ta tb) := by
  intro pins s σ H Q I h
  exact Subscript_ (binT ha hb I h fun v u s2 x y H2 I2 rx ry q => hr a b pins s2 σ H2 x y v u Q I2 rx ry q (hs _ _))

noncomputable def rIxL (K : PySem.W.Frag) : R2 := fun x y H Q => ∃ p xs i v, x = .ref p ∧ y = .int i ∧ SqL K H p xs ∧ atI xs i = some v ∧ Q v H
noncomputable def rIxT (K : PySem.W.Frag) : R2 := fun x y H Q => ∃ p xs i v, x = .ref p ∧ y = .int i ∧ SqT K H p xs ∧ atI xs i = some v ∧ Q v H
theorem ix_list : IxR X (rIxL X.K) := by
  intro value slice pins s σ H x y v u Q I rx ry h hs
  obtain ⟨p, xs, i, z, rfl, rfl, hq, he, q⟩ := h
  cases rx
  obtain ⟨t, rfl⟩ := ry
  obtain ⟨its, r, pl, hz⟩ := I.list hq
  obtain ⟨j, h1, h2, h3, h4, h5⟩ := atI_get he
  obtain ⟨w, ew, rw'⟩ := r.get h2
  have hl := r.length
  have hn := line63
  have fin : EP X pins σ Q w s := ⟨z, H, I, rw', q⟩
  by_cases h0 : 0 ≤ i
  · have hj : i.toNat = j := by
      rw [seqIndex_of h0 h5] at h1
      exact Option.some.inj h1
    exact item_listR pl.isList h0 (by omega) (by rw [hj]; simpa using ew) fin hs
  · have hj : (i + (its.toArray.size : Int)).toNat = j := by
      rw [seqIndex_neg (by omega) h4] at h1
      rw [List.size_toArray, ← hl]
      exact Option.some.inj h1
    exact subscriptTail_builtinR (x := w) pl.isList.typeIs slot_list_getitem.lookup
      (wpAny_getItem_list_neg (Q := fun r s' => r = w ∧ EP X pins σ Q r s') pl.isList (by omega) (by rw [List.size_toArray] <;> omega) (by omega) (by rw [hj]; simpa using ew) ⟨rfl, fin⟩) hs
theorem ix_tup : IxR X (rIxT X.K) := by
  intro value slice pins s σ H x y v u Q I rx ry h hs
  obtain ⟨p, xs, i, z, rfl, rfl, hq, he, q⟩ := h
  cases rx
  obtain ⟨t, rfl⟩ := ry
  obtain ⟨its, r, pl, hz⟩ := I.tuple hq
  obtain ⟨j, h1, h2, h3, h4, h5⟩ := atI_get he
  obtain ⟨w, ew, rw'⟩ := r.get h2
  have hl := r.length
  have hn := line63
  have fin : EP X pins σ Q w s := ⟨z, H, I, rw', q⟩
  exact subscriptTail_builtinR (x := w) pl.typeIs slot_tuple_getitem.lookup
    (getItem_tuple (j := j) (Q := fun r s' => r = w ∧ EP X pins σ Q r s') pl (by omega) (by omega) (by rw [List.size_toArray, ← hl]; exact h1) (by simpa using ew) ⟨rfl, fin⟩) hs
theorem mapSeq_set (its : List Value) (n j : Nat) (u : Value) : Obj.mapSeq (·.setIfInBounds j u) { cls := .type "list", data := .seq its.toArray n } = { cls := .type "list", data := .seq (its.set j u).toArray n } := by
  simp [Obj.mapSeq]
theorem Inv.lst {pins : List (Addr × Obj)} {σ : St} {H : Hp} {s : Shared} {p : Addr} {xs : List V} (I : Inv X pins σ H s) (h : H p = some (.lst xs)) :
    ∃ (its : List Value) (n : Nat), Vals xs its ∧ s.heap.get? p = some { cls := .type "list", data := .seq its.toArray n } ∧ xs.length ≤ sizeLine := by
  obtain ⟨z, its, n, r, e⟩ := I.hok p _ h
  exact ⟨its, n, r, e, z⟩
theorem Inv.lstUpd {pins : List (Addr × Obj)} {σ : St} {H : Hp} {s : Shared} {p : Addr} {xs ys : List V} {its its' : List Value} {n n' : Nat} {f : Obj → Obj} (I : Inv X pins σ H s) (h : H p = some (.lst xs))
    (ho : s.heap.get? p = some { cls := .type "list", data := .seq its.toArray n }) (hf : f { cls := .type "list", data := .seq its.toArray n } = { cls := .type "list", data := .seq its'.toArray n' }) (r : Vals ys its') (hz : ys.length ≤ sizeLine) (t : Nat) :
    Inv X pins σ (upd H p (.lst ys)) { s with heap := s.heap.update p f, toks := t } := by
  have e : (s.heap.update p f).get? p = some { cls := .type "list", data := .seq its'.toArray n' } := by
    rw [Heap.get?_update_self f ho (by rw [hf] <;> rfl), hf]
  refine I.write (x := p) (e := p) (by rw [h]; trivial) (.inl rfl) (fun b u hb q => (Heap.get?_update_other _ _ (Ne.symm hb)).trans q) ⟨_, e⟩ ?_
  exact ⟨hz, its', n', r, e⟩
noncomputable def rSetL : V → V → V → Hp → (Hp → Prop) → Prop := fun o i v H Q => ∃ p xs k j, o = .ref p ∧ i = .int k ∧ H p = some (.lst xs) ∧ ixN xs.length k = some j ∧ Q (upd H p (.lst (xs.set j v)))
theorem set_list : PSet X rSetL := by
  intro pins s σ H o i v ov iv u Q I ro ri rv h
  obtain ⟨p, xs, k, j, rfl, rfl, hp, hj, q⟩ := h
  cases ro
  obtain ⟨t, rfl⟩ := ri
  obtain ⟨its, n, r, ho, hz⟩ := I.lst hp
  obtain ⟨h1, h2, h3, h4⟩ := ixN_seq hj
  have hl := r.length
  have hn := line63
  have I' : Inv X pins σ (upd H p (.lst (xs.set j v))) { s with heap := s.heap.update p (Obj.mapSeq (·.setIfInBounds j u)) } :=
    I.lstUpd hp ho (mapSeq_set its n j u) (r.set rv j) (by rw [List.length_set]; exact hz) s.toks
  by_cases h0 : 0 ≤ k
  · have hk : k.toNat = j := by
      rw [seqIndex_of h0 h4] at h1
      exact Option.some.inj h1
    exact PySem.W.ki_setAt ho h0 (by omega) (by rw [List.size_toArray, ← hl]; exact h4) (by rw [hk]; exact ⟨_, I', q⟩)
  · have hk : (k + (its.toArray.size : Int)).toNat = j := by
      rw [seqIndex_neg (by omega) h3] at h1
      rw [List.size_toArray, ← hl]
      exact Option.some.inj h1
    exact PySem.W.ki_setBack ho (by omega) (by rw [List.size_toArray, ← hl]; exact h3) (by omega) (by rw [hk]; exact ⟨_, I', q⟩)

theorem slice_bounds (lo hi : Option Int) (n : Nat) : (sliceBounds lo hi none n).1 = ((HT.sIx n 0 lo : Nat) : Int) ∧ (sliceBounds lo hi none n).2.1 = ((HT.sIx n n hi : Nat) : Int) ∧ (sliceBounds lo hi none n).2.2 = 1 := by
  refine ⟨?_, ?_, rfl⟩
  · cases lo with
    | none => simp [sliceBounds, HT.sIx]
    | some i =>
      simp only [sliceBounds, HT.sIx, Option.getD_none, show (1 : Int) > 0 by decide, if_true]
      by_cases h : i < 0
      · simp only [h, if_true] <;> omega
      · simp only [h, if_false] <;> omega
  · cases hi with
    | none => simp [sliceBounds, HT.sIx]
    | some i =>
      simp only [sliceBounds, HT.sIx, Option.getD_none, show (1 : Int) > 0 by decide, if_true]
      by_cases h : i < 0
      · simp only [h, if_true] <;> omega
      · simp only [h, if_false] <;> omega
theorem slicePick_cut (its : List Value) (lo hi : Option Int) : slicePick its.toArray lo hi none = ((its.drop (HT.sIx its.length 0 lo)).take (HT.sIx its.length its.length hi - HT.sIx its.length 0 lo)).toArray := by
  obtain ⟨h1, h2, h3⟩ := slice_bounds lo hi its.toArray.size
  unfold slicePick
  rw [h1, h2, h3]
  simp only [sliceRange_one, pick_run, List.size_toArray] <;> rfl
noncomputable def rSlL (K : PySem.W.Frag) : V → Option Int → Option Int → Hp → VK → Prop := fun x lo hi H Q => ∃ a xs, x = .ref a ∧ SqL K H a xs ∧ ∀ p, H p = none → Q (.ref p) (upd H p (.lst (cutV xs lo hi)))
theorem sl_list : SlR X (rSlL X.K) := by
  intro pins s σ H x v vl vu lo hi sl Q I rx hs pl pu h
  obtain ⟨a, xs, rfl, hx, q⟩ := h
  cases rx
  obtain ⟨its, r, ht, hz⟩ := I.list hx
  have hlen := r.length
  refine ⟨"list", _, slot_list_getitem.lookup, ht.isList.typeIs, ?_⟩
  refine wpAny_getItem_list_slice ht.isList hs pl pu .none (by simp) ?_ (by rw [List.size_toArray] <;> omega)
  rw [slicePick_cut, ← hlen]
  refine ⟨.ref s.heap.objs.size, _, I.laid (t' := s.toks) (o := .lst (cutV xs lo hi)) (fun b ob q => Heap.get?_push_of_some _ q) (Nat.le_refl _) ?_, rfl, q _ (I.hok.fresh (Nat.le_refl _))⟩
  exact ⟨Nat.le_trans (cutV_length xs lo hi) hz, _, 0, (r.drop (HT.sIx xs.length 0 lo)).take (HT.sIx xs.length xs.length hi - HT.sIx xs.length 0 lo), Heap.get?_push_size _ rfl⟩

theorem call_len_seq : CallR X (.builtin "len") (fun xs H Q => ∃ p ys, xs = [.ref p] ∧ (SqL X.K H p ys ∨ SqT X.K H p ys) ∧ Q (.int ys.length) H) := by
  intro pins s σ H xs us Q I r h
  obtain ⟨p, ys, rfl, hq, q⟩ := h
  obtain ⟨u, rfl, rx⟩ := vals1 r
  cases rx
  have hn := line63
  rcases hq with hq | hq
  · obtain ⟨its, r', pl, hz⟩ := I.list hq
    have hlen := r'.length
    exact Calls.call_len_list pl.isList (by simp only [List.size_toArray] <;> omega) ⟨.int ys.length, H, I.tok _, ⟨s.toks + 1, by rw [List.size_toArray, hlen]⟩, q⟩
  · obtain ⟨its, r', pl, hz⟩ := I.tuple hq
    have hlen := r'.length
    exact len_tuple pl (by simp only [List.size_toArray] <;> omega) ⟨.int ys.length, H, I.tok _, ⟨s.toks + 1, by rw [List.size_toArray, hlen]⟩, q⟩
theorem CallR.or {f : Value} {r r' : List V → Hp → VK → Prop} (h : CallR X f r) (h' : CallR X f r') : CallR X f (fun xs H Q => r xs H Q ∨ r' xs H Q) := by
  intro pins s σ H xs us Q I rs q
  rcases q with q | q
  · exact h pins s σ H xs us Q I rs q
  · exact h' pins s σ H xs us Q I rs q
theorem call_list_of : CallR X (.type "list") (fun xs H Q => ∃ p ys, xs = [.ref p] ∧ (SqL X.K H p ys ∨ SqT X.K H p ys) ∧ ∀ l, H l = none → Q (.ref l) (upd H l (.lst ys))) := by
  intro pins s σ H xs us Q I r h
  obtain ⟨p, ys, rfl, hq, q⟩ := h
  obtain ⟨u, rfl, rx⟩ := vals1 r
  cases rx
  have fin : ∀ (its : List Value), Vals ys its → ys.length ≤ sizeLine → ∀ (h' : Heap) (c' : Nat), (∀ b o', s.heap.get? b = some o' → h'.get? b = some o') →
      h'.get? s.heap.objs.size = some { cls := .type "list", dict := none, data := .seq its.toArray c', slots := #[] } → EP X pins σ Q (.ref s.heap.objs.size) { s with heap := h' } := fun its r' hz h' c' kp e =>
    ⟨.ref s.heap.objs.size, _, I.laid (t' := s.toks) kp (Nat.le_refl _) (show ObjOk X.prog X.w _ h' _ (.lst ys) from ⟨hz, its, c', r', e⟩), rfl, q _ (I.hok.fresh (Nat.le_refl _))⟩
  rcases hq with hq | hq
  · obtain ⟨its, r', pl, hz⟩ := I.list hq
    have hlen := r'.length
    obtain ⟨o, ho, hc, n, hd⟩ := pl.isList
    exact call_list_seq p (.inl rfl) ho hc hd (fun h' c' kp e => fin its r' hz h' c' kp e) (by simp only [List.size_toArray] <;> omega)
  · obtain ⟨its, r', pl, hz⟩ := I.tuple hq
    have hlen := r'.length
    obtain ⟨o, ho, hc, n, hd⟩ := pl
    exact call_list_seq p (.inr rfl) ho hc hd (fun h' c' kp e => fin its r' hz h' c' kp e) (by simp only [List.size_toArray] <;> omega)
theorem call_tuple_of : CallR X (.type "tuple") (fun xs H Q => ∃ p ys, xs = [.ref p] ∧ ((SqL X.K H p ys ∧ ∀ l, H l = none → Q (.ref l) (upd H l (.tup ys))) ∨ (SqT X.K H p ys ∧ Q (.ref p) H))) := by
  intro pins s σ H xs us Q I r h
  obtain ⟨p, ys, rfl, h⟩ := h
  obtain ⟨u, rfl, rx⟩ := vals1 r
  cases rx
  rcases h with ⟨hq, q⟩ | ⟨hq, q⟩
  · obtain ⟨its, r', pl, hz⟩ := I.list hq
    have hlen := r'.length
    refine call_tuple_list pl.isList (fun h' kp => ?_) (by simp only [List.size_toArray] <;> omega)
    have I1 : Inv X pins σ H { s with heap := h' } := I.kept (t' := s.toks) kp
    have I2 : Inv X pins σ (upd H h'.objs.size (.tup ys)) { s with heap := h'.push { cls := .type "tuple", data := .seq its.toArray } } :=
      I1.laid (t' := s.toks) (fun b o e => Heap.get?_push_of_some _ e) (Nat.le_refl _) (show ObjOk X.prog X.w _ _ _ (.tup ys) from ⟨hz, its, r', IsTup.new _ _⟩)
    exact ⟨.ref h'.objs.size, _, I2, rfl, q _ (I1.hok.fresh (Nat.le_refl _))⟩
  · obtain ⟨its, r', pl, hz⟩ := I.tuple hq
    exact call_tuple_same pl ⟨.ref p, H, I, rfl, q⟩

noncomputable def tyV (K : PySem.W.Frag) (T : String) (x : V) (H : Hp) : Prop := match x with
  | .str _ => T = "str"
  | .int _ => T = "int"
  | .ref p => (T = "list" ∧ ∃ xs, SqL K H p xs) ∨ (T = "tuple" ∧ ∃ o, K.lookup p = some o ∧ o.cls = .type "tuple" ∧ o.dict = none) ∨
      (T = "dict" ∧ ((∃ kvs, H p = some (.dK kvs)) ∨ ∃ hs kvs, H p = some (.dT hs kvs))) ∨ (T = "set" ∧ ∃ S n, H p = some (.set S n))
  | _ => False
theorem tyV_is {pins : List (Addr × Obj)} {σ : St} {H : Hp} {s : Shared} {T : String} {x : V} {v : Value} (I : Inv X pins σ H s) (r : RelV x v) (ty : tyV X.K T x H) :
    s.TypeIs v T ∧ ∀ a, v = .ref a → ∃ ob, s.heap.get? a = some ob ∧ ob.dict = none := by
  cases x with
  | str z =>
    obtain ⟨t, rfl⟩ := r
    cases (show T = "str" from ty)
    exact ⟨typeIs_str s z t, fun _ e => nomatch e⟩
  | int i =>
    obtain ⟨t, rfl⟩ := r
    cases (show T = "int" from ty)
    exact ⟨typeIs_int s i t, fun _ e => nomatch e⟩
  | ref p =>
    cases r
    rcases ty with ⟨rfl, xs, hq⟩ | ⟨rfl, o, hk, hc, hd⟩ | ⟨rfl, hk⟩ | ⟨rfl, S, n, hk⟩
    · obtain ⟨its, _, pl, _⟩ := I.list hq
      refine ⟨pl.isList.typeIs, fun a e => ?_⟩
      cases e
      obtain ⟨o, n, e, c, hd, _⟩ := pl
      exact ⟨o, e, hd⟩
    · refine ⟨⟨o, I.kIn p o hk, hc⟩, fun a e => ?_⟩
      cases e
      exact ⟨o, I.kIn _ o hk, hd⟩
    · have z : ∃ o, s.heap.get? p = some o ∧ o.ExactDict := by
        rcases hk with ⟨kvs, hk⟩ | ⟨hs, kvs, hk⟩
        · obtain ⟨_, _, _, _, o, _, _, e, ex, _⟩ := I.hok p _ hk
          exact ⟨o, e, ex⟩
        · obtain ⟨_, _, _, _, o, _, _, e, ex, _⟩ := I.hok p _ hk
          exact ⟨o, e, ex⟩
      obtain ⟨o, e, ex⟩ := z
      refine ⟨⟨o, e, ex.1⟩, fun a e2 => ?_⟩
      cases e2
      exact ⟨o, e, ex.2.1⟩
    · obtain ⟨o, _, _, _, e, ex, _⟩ := I.hok p _ hk
      refine ⟨⟨o, e, ex.1⟩, fun a e2 => ?_⟩
      cases e2
      exact ⟨o, e, ex.2.1⟩
  | _ => exact False.elim ty
noncomputable def tBM (K : PySem.W.Frag) (T : String) (r : V → List V → Hp → VK → Prop) (to : TE) (t : TA) : TE := fun σ H Q => to σ H fun x H1 => tyV K T x H1 ∧ t σ H1 fun xs H2 => r x xs H2 Q
variable {o e : Expr} {es : List Expr} {to : TE} {t : TA} {name : Str} {apos cpos : Pos} {T id : String} {r : V → List V → Hp → VK → Prop}
theorem pe_bm (pa : PlainAttrs T) (slot : Slot T name id) (hty : typeOf (.builtin id) = pure (.type "method_descriptor")) (hm : MtR X id r) (ho : PE X o to) (ha : PA X (e :: es) t)
    (hbase : attributeBase o name X.env (eval o X.env) = eval o X.env := by rfl)
    (hfew : ((backTo cpos (starEach (e :: es) X.env)).all (fun x => !x.1) && (backToKw cpos (keywordEach [] X.env)).all (fun x => x.1.isSome)
      && decide ((e :: es).length + ([] : List Keyword).length + (if ([] : List Keyword).isEmpty then 0 else 1) < 30)) = true := by rfl)
    (hline : (apos.endLine == cpos.line) = true := by rfl) (hs : starEach (e :: es) X.env = (false, eval e X.env) :: starEach es X.env := by rfl) (hplain : (backTo cpos (starEach es X.env)).any (·.1) = false := by rfl) :
    PE X (.Call (.Attribute o name apos) (e :: es) [] cpos) (tBM X.K T r to t) := by
  intro pins s σ H Q I h
  refine wpAny_Call_method_late hbase hfew hline rfl (thn (ho pins s σ H _ I h) fun v s1 zz => ?_)
  obtain ⟨x, H1, I1, r1, ty, q1⟩ := zz
  obtain ⟨h1, h2⟩ := tyV_is I1 r1 ty
  refine ⟨T, id, pa, slot, hty, h1, h2, ?_⟩
  have hA := ha cpos pins s1 σ H1 _ I1 q1
  rw [hs] at hA ⊢
  refine Calls.callWith_builtin (by show (false || (backTo cpos (starEach es X.env)).any (·.1)) = false; rw [hplain] <;> rfl) (Calls.evalArgs_plain ?_)
  exact thn hA fun us s2 ⟨vs, H2, I2, r2, q2⟩ => hm pins s2 σ H2 x vs v us Q I2 r1 r2 q2
/- xs.append(e), list.index on a module's tuple .. are MtR facts of 06m -/
end
end L2

namespace L2
open PySem PySem.Spec PyProof.Rows

noncomputable def MtM (X : Cx) (id : String) (r : V → List V → Hp → VK → Prop) : Prop :=
  ∀ (pins : List (Addr × Obj)) (s : Shared) (σ : St) (H : Hp) (x : V) (xs : List V) (v : Value) (us : List Value) (Q : VK), Inv X pins σ H s → RelV x v → Vals xs us → r x xs H Q →
    wpAny (model X.prog X.w) X.A (call (.builtin id) (v :: us)) (EP X pins σ Q) X.xe s

theorem Vals.one {x : V} {us : List Value} (h : Vals [x] us) : ∃ u, us = [u] ∧ RelV x u := by
  cases h with | cons r t => cases t; exact ⟨_, rfl, r⟩
theorem Vals.two {x y : V} {us : List Value} (h : Vals [x, y] us) : ∃ u v, us = [u, v] ∧ RelV x u ∧ RelV y v := by
  cases h with | cons r t => cases t with | cons q t2 => cases t2; exact ⟨_, _, rfl, r, q⟩
theorem Vals.zero : ∀ {us : List Value}, Vals [] us → us = []
  | _, .nil => rfl
theorem Vals.dropLast {xs : List V} {us : List Value} (h : Vals xs us) : Vals xs.dropLast us.dropLast := by
  induction h with
  | nil => exact .nil
  | cons r t ih =>
    cases t with
    | nil => exact .nil
    | cons q t' => exact .cons r ih
theorem Vals.reverse {xs : List V} {us : List Value} (h : Vals xs us) : Vals xs.reverse us.reverse := by
  induction h with
  | nil => exact .nil
  | cons r t ih => rw [List.reverse_cons, List.reverse_cons]; exact Vals.append ih (.cons r .nil)
theorem Vals.rep {xs : List V} {us : List Value} (h : Vals xs us) : ∀ k : Nat, Vals (List.replicate k xs).flatten (List.replicate k us).flatten
  | 0 => .nil
  | k + 1 => by
    rw [List.replicate_succ, List.replicate_succ, List.flatten_cons, List.flatten_cons]
    exact Vals.append h (Vals.rep h k)
theorem foldl_rep (its : List Value) : ∀ (k : Nat) (acc : List Value),
    List.foldl (fun x1 x2 => x1 ++ x2) acc.toArray (List.replicate k its.toArray) = (acc ++ (List.replicate k its).flatten).toArray
  | 0, acc => by simp
  | k + 1, acc => by
    have e : acc.toArray ++ its.toArray = (acc ++ its).toArray := by simp
    have e2 : (acc ++ its) ++ (List.replicate k its).flatten = acc ++ (List.replicate (k + 1) its).flatten := by
      rw [List.replicate_succ, List.flatten_cons, List.append_assoc]
    rw [← e2, ← foldl_rep its k (acc ++ its), ← e, List.replicate_succ, List.foldl_cons]

section
variable {X : Cx} {pins : List (Addr × Obj)} {σ : St} {H : Hp} {s : Shared} {l b : Addr} {xs ys zs : List V}

theorem Inv.lset {its its' : List Value} {n : Nat} {f : Array Value → Array Value} {t' : Nat} (I : Inv X pins σ H s) (hH : H l = some (.lst xs))
    (e : s.heap.get? l = some { cls := .type "list", data := .seq its.toArray n }) (hf : f its.toArray = its'.toArray) (hv : Vals ys its') (hz : ys.length ≤ sizeLine) :
    Inv X pins σ (upd H l (.lst ys)) { s with heap := s.heap.update l (Obj.mapSeq f), toks := t' } := by
  have q := PySem.IsL.update e f
  rw [hf] at q
  refine I.write (x := l) (e := l) (by rw [hH]; exact trivial) (.inl rfl) (fun b' u hb hu => (Heap.get?_update_other s.heap (Obj.mapSeq f) (Ne.symm hb)).trans hu) ⟨_, q⟩ ?_
  exact ⟨hz, its', _, hv, q⟩
theorem Inv.lnew {its : List Value} {t' : Nat} (I : Inv X pins σ H s) (hv : Vals ys its) (hz : ys.length ≤ sizeLine) :
    Inv X pins σ (upd H s.heap.objs.size (.lst ys)) { s with heap := s.heap.push { cls := .type "list", data := .seq its.toArray }, toks := t' } :=
  I.laid (fun _ _ q => Heap.get?_push_of_some _ q) (Nat.le_refl _) ⟨hz, its, 0, hv, Heap.get?_push_size _ rfl⟩
theorem Inv.fresh (I : Inv X pins σ H s) : H s.heap.objs.size = none := I.hok.fresh (Nat.le_refl _)
theorem Inv.lstM (I : Inv X pins σ H s) (hH : H l = some (.lst xs)) : xs.length ≤ sizeLine ∧ ∃ (its : List Value) (n : Nat), Vals xs its ∧ xs.length = its.length ∧ s.heap.get? l = some { cls := .type "list", data := .seq its.toArray n } := by
  obtain ⟨z, its, n, r, e⟩ := I.hok l _ hH
  exact ⟨z, its, n, r, r.length, e⟩

theorem notLongL {n : Nat} (h : n ≤ sizeLine) : Builtin.List.listTooLong n = false := by
  unfold Builtin.List.listTooLong
  exact decide_eq_false (by omega)
end

section
variable {X : Cx}

noncomputable def rAppend : V → List V → Hp → VK → Prop := fun x vs H Q => ∃ l xs y, x = .ref l ∧ vs = [y] ∧ H l = some (.lst xs) ∧ xs.length < sizeLine ∧ Q .non (upd H l (.lst (xs ++ [y])))
theorem mt_append : MtM X "list.append" rAppend := by
  intro pins s σ H x vs v us Q I rx rv h
  obtain ⟨l, xs, y, rfl, rfl, hH, hz, q⟩ := h
  cases rx
  obtain ⟨u, rfl, ru⟩ := rv.one
  obtain ⟨z, its, n, r, hl, e⟩ := I.lstM hH
  refine call_meets F.slot_list_append ⟨_, e, rfl⟩ F.entry_list_append (F.args_list_append_2 _ _) (PySem.list_append l its.toArray n u (by rw [List.size_toArray]; omega)) ⟨e, ?_⟩
  refine ⟨.non, _, I.lset (its' := its ++ [u]) hH e (by simp) (r.append (.cons ru .nil)) ?_, rfl, q⟩
  rw [List.length_append, List.length_singleton]
  omega

noncomputable def rRep : R2 := fun x y H Q => ∃ l k xs, x = .ref l ∧ y = .int k ∧ H l = some (.lst xs) ∧ -(2 ^ 63) ≤ k ∧ k < 2 ^ 63 ∧ xs.length * k.toNat ≤ sizeLine ∧
  ∀ p, H p = none → Q (.ref p) (upd H p (.lst (List.replicate k.toNat xs).flatten))
theorem len_rep {α : Type} (xs : List α) (k : Nat) : (List.replicate k xs).flatten.length = k * xs.length := by
  induction k with
  | zero => simp
  | succ k ih => rw [List.replicate_succ, List.flatten_cons, List.length_append, ih, Nat.succ_mul, Nat.add_comm]
theorem op_rep : OpR X (binaryOp .Mult) rRep := by
  intro pins s σ H x y v u Q I rx ry h
  obtain ⟨l, k, xs, rfl, rfl, hH, h1, h2, hz, q⟩ := h
  cases rx
  obtain ⟨t, rfl⟩ := ry
  obtain ⟨z, its, n, r, hl, e⟩ := I.lstM hH
  have hlen : its.toArray.size * k.toNat ≤ sizeLine := by rw [List.size_toArray, ← hl]; exact hz
  have hcap : ¬ its.toArray.size * k.toNat > (2 ^ 63 - 1) / 8 := by
    have : (sizeLine : Nat) ≤ (2 ^ 63 - 1) / 8 := by decide
    omega
  have hfit : ¬ (!Builtin.List.listFitsIndex k) = true := by
    rw [fitsIndex_both h1 h2]
    exact Bool.false_ne_true
  have hlong : ¬ Builtin.List.listTooLong (its.toArray.size * k.toNat) = true := by
    rw [notLongL hlen]
    exact Bool.false_ne_true
  have hnew : List.foldl (fun x1 x2 => x1 ++ x2) #[] (List.replicate (if its.toArray.isEmpty = true then 0 else k.toNat) its.toArray) = (List.replicate k.toNat its).flatten.toArray := by
    have f0 : ∀ m : Nat, List.foldl (fun x1 x2 => x1 ++ x2) #[] (List.replicate m its.toArray) = (List.replicate m its).flatten.toArray := fun m => by
      have := foldl_rep its m []
      rw [List.nil_append] at this
      exact this
    rw [f0]
    cases its with
    | nil => simp
    | cons a r' => rw [if_neg (by simp)]
  refine wpAny_binaryOp_repeat_ref (T := "list") (U := "int") (by decide) ⟨_, e, rfl⟩ (fun s' => typeIs_int s' k t) noFill_list_mul F.fills_int_mul F.slot_int_rmul repeat_list F.slot_int_index.lookup
    (call_meets F.slot_int_rmul (typeIs_int s k t) F.entry_int_rmul (F.args_int_rmul_2 _ _) (int___rmul___int_list k t l its.toArray n)
      ⟨e, rfl, ⟨_, e, rfl⟩, call_meets F.slot_list_mul ⟨_, e, rfl⟩ F.entry_list_mul (F.args_list_mul_2 _ _) (AutoListH.list___mul___list_int_3 l its.toArray n k t hfit hcap hlong) ⟨e, ?_⟩⟩)
  rw [hnew]
  exact ⟨.ref _, _, I.lnew (t' := s.toks) (r.rep k.toNat) (by rw [len_rep, Nat.mul_comm]; exact hz), rfl, q _ I.fresh⟩

end

section
variable {prog : Program} {w : World} {A : Around} {E : Value → Shared → Prop} {s : Shared}
end

section
variable {X : Cx}
end
end L2

namespace Att
open PySem PySem.W PySem.Calls PyProof.Rows

theorem ints_of_wellAll {P : Params} {h : Heap} : ∀ (ns : List Int) (vs : List Value), WellAll P h vs (ns.map WData.int) → IntsAre vs ns := by
  intro ns
  induction ns with
  | nil =>
    intro vs w
    rw [List.map_nil] at w
    cases w
    exact .nil
  | cons n ns ih =>
    intro vs w
    rw [List.map_cons] at w
    cases w with
    | cons a b =>
      cases a
      exact .cons _ _ (ih _ b)

theorem script_of {l : OpenLaw} {n : Nat} (hn : l.most = some n) {P : Params} {h : Heap} {args : List WData} {vals : List Value}
    (hpre : l.row.toRowW.claim.pre args = true) (hwl : WellAll P h vals args) :
    ∃ a vs ns, vals = [Value.ref a] ∧ args = [WData.list (ns.map WData.int)] ∧ h.get? a = some { cls := .type "list", data := .seq vs.toArray } ∧ IntsAre vs ns ∧ ns.length ≤ n := by
  have hsh : WShape.hasAll [] args [.list .int] = true := (pre_splitW hpre).1
  have hc : l.pre.holds [] { args := args } = true := (pre_splitW hpre).2
  obtain ⟨d, r, rfl, h1, h2⟩ := hasAllW_cons hsh
  obtain rfl := hasAllW_nil h2
  obtain ⟨xs, rfl, h3⟩ := hasW_list h1
  obtain ⟨ns, rfl⟩ := items_int h3
  have hlen : ns.length ≤ n := by
    unfold OpenLaw.pre at hc
    have h4 : (WTm.not (.lt (.lit (.int (n : Int))) (.len (.arg 0)))).holds [] { args := [.list (ns.map .int)] } = true := by
      have h4 := (holds_andW hc).1
      rw [hn] at h4
      exact h4
    have h5 := condW_of h4 (w_not (w_lt w_lit (w_len_list (w_arg rfl))))
    rw [List.length_map] at h5
    refine Nat.le_of_not_lt fun q => ?_
    have q' : (n : Int) < ((ns.length : Nat) : Int) := by omega
    first
      | (rw [decide_eq_true q'] at h5; exact absurd h5 (by decide))
      | (simp at h5; omega)
  cases hwl with
  | cons w1 w2 =>
    cases w2
    cases w1 with
    | list ho hall => exact ⟨_, _, ns, rfl, rfl, ho, ints_of_wellAll ns _ hall, hlen⟩

theorem post_true (l : OpenLaw) (args : List WData) : l.row.toRowW.claim.post args (.bool true) args = true :=
  postW_of (r := l.row.toRowW) (X := (true == true))
    (show WShape.has [] (.bool true) .bool = true by first | rfl | decide | simp [WShape.has, WShape.arms, WShape.armsAll])
    (show (WTm.eq .res (.lit (.bool true))).value [] { args := args, res := some (.bool true), after := args } = some (.bool (true == true)) from w_eq_bool (w_res rfl) w_lit) rfl

theorem attach_call {l : OpenLaw} {n : Nat} {q : Program} {loose : List Str} {XP : (Str → Option Value) → Heap → Prop} {YP : World → Heap → Prop} {d : DefRec}
    (hn : l.most = some n) (hdf : d.params.defaults = [])
    (call : ∀ (w : World) (s₀ s₁ : Shared) (mg mb : Str → Option Value) (fa : Addr) (o : Obj) (pm cd doc : Value) (a : Addr) (vs : List Value) (ns : List Int),
      Ground q loose [] XP w s₀ mg mb s₁.heap → YP w s₁.heap →
      s₁.heap.get? fa = some o → o.data = .func (docDef d.name d.params d.body d.scope pm cd doc) → s₁.heap.CodeRec cd d.name → mg d.name = some (.ref fa) →
      s₁.heap.get? a = some { cls := .type "list", data := .seq vs.toArray } → IntsAre vs ns → ns.length ≤ n → s₁.gens = #[] →
      codeAny (model l.prog w) callerA (.call (.ref fa) ⟨[.ref a], []⟩) (fun r s' => r = .ok (.ret (.bool true)) ∧ OldK s₁.heap s'.heap ∧ s'.os = s₁.os ∧ AllBare s'.gens) s₁) :
    WalkO q loose XP YP l.row.toRowW d [] (fun f vs => PySem.call f vs) := by
  intro w s₀ s₁ mg mb G Y fa o pm cd doc dV kV ho hd hcd hD hmg hg args vals as hpre hlay hrd hwl hlo
  obtain rfl : dV = .none := Dflts.none hD hdf
  obtain rfl : kV = .none := Dflts.noKw hD
  obtain ⟨a, vs, ns, rfl, rfl, hobj, hints, hlen⟩ := script_of hn hpre hwl
  refine enter_call (codeAny_mono (call w s₀ s₁ mg mb fa o pm cd doc a vs ns G Y ho (fd_plain hd) hcd hmg hobj hints hlen hg) fun r s' hq => ?_)
  obtain ⟨rfl, h2, h3, h4⟩ := hq
  exact ⟨.inl ⟨.bool true, .bool true, [], rfl, fun _ => rfl, .bool true, post_true l _, fun _ => ⟨List.Pairwise.nil, fun _ hm => (nomatch hm)⟩⟩, h2, h3, h4⟩

section
variable {prog : Program} {w : World} {A : Around} {E : Value → Shared → Prop} {s : Shared} {K : Frag}

end
end Att

namespace L2
open PySem PySem.Spec PyProof.Rows

theorem vals_ints : ∀ {vs : List Value} {ns : List Int}, IntsAre vs ns → Vals (ns.map V.int) vs
  | _, _, .nil => .nil
  | _, _, .cons n t h => .cons ⟨t, rfl⟩ (vals_ints h)

noncomputable def Only (H : Hp) : Prop := ∀ b, H b = none ∨ ∃ o xs, H b = some (.frz o (.lst xs))

theorem law_call {P : Program} {w : World} {K : PySem.W.Frag} {mg mb : Str → Option Value} {CX : CXT} {k : Nat} {fa a : Addr} {fd : FuncData} {x : Str} {sp : Sp} {s₁ : Shared} {vs : List Value} {ns : List Int}
    (KX : K.In s₁.heap) (hns : s₁.heap.Ns mainGlobals mg) (hb : s₁.heap.Ns builtinsNs mb) (hbb : ∀ x : Str, x ≠ "__name__" → mb x = bootBuiltins x) (hlim : s₁.heap.NoLimit) (hg : s₁.gens = #[])
    (ha : s₁.heap.get? a = some { cls := .type "list", data := .seq vs.toArray }) (hi : IntsAre vs ns) (hl : ns.length ≤ sizeLine) (hr : Room k callerA)
    (F : ∀ base : Heap, K.In base → base.Ns mainGlobals mg → FnOk P w K mg base CX k fa fd [x] sp) (hbind : ∀ (s : Shared) (u : Value), BindsTo s fd ⟨[u], []⟩ [(x, u)])
    (hsp : ∀ H : Hp, Only H → SqL K H a (ns.map V.int) → sp [.ref a] H (fun v _ => v = .bl true) fun _ _ _ => False)
    (hCX : ∀ H e s', CX [] H s₁ (fun _ _ _ => False) e s' → False) :
    codeAny (model P w) callerA (.call (.ref fa) ⟨[.ref a], []⟩) (fun r s' => r = .ok (.ret (.bool true)) ∧ OldK s₁.heap s'.heap ∧ s'.os = s₁.os ∧ AllBare s'.gens) s₁ := by
  have rv := vals_ints hi
  have lenV := hi.length
  -- from an abstract heap in which nothing but the script may be tracked
  have core : ∀ H : Hp, Only H → SqL K H a (ns.map V.int) → HOk P w H s₁.heap → (∀ b, H b ≠ none → b = a) → (H a ≠ none → K.lookup a = none) →
      codeAny (model P w) callerA (.call (.ref fa) ⟨[.ref a], []⟩) (fun r s' => r = .ok (.ret (.bool true)) ∧ OldK s₁.heap s'.heap ∧ s'.os = s₁.os ∧ AllBare s'.gens) s₁ := by
    intro H hO hS hok hA hK
    have base_of : ∀ {b : Addr} {o : Obj}, s₁.heap.get? b = some o → H b = none → (hidT s₁.heap H).get? b = some o := fun e n => hidT_get e n
    have noA : ∀ {b : Addr} {o : Obj} {es : Array DictEntry} {ep : Nat}, s₁.heap.get? b = some o → o.data = .dict es ep → H b = none := fun {b o es ep} e d => by
      cases q : H b with
      | none => rfl
      | some u =>
        have e' : b = a := hA b (by rw [q]; simp)
        subst e'
        rw [ha] at e; cases e
        have d' : Data.seq vs.toArray _ = Data.dict es ep := d
        cases d'
    have nsK : ∀ {b : Addr} {m : Str → Option Value}, s₁.heap.Ns b m → (hidT s₁.heap H).Ns b m := fun {b m} ⟨o, es, ep, e, d, r⟩ => ⟨o, es, ep, base_of e (noA e d), d, r⟩
    have hKb : K.In (hidT s₁.heap H) := fun b o e => base_of (KX b o e) (by
      cases q : H b with
      | none => rfl
      | some u =>
        have e' : b = a := hA b (by rw [q]; simp)
        subst e'
        rw [hK (by rw [q]; simp)] at e; cases e)
    have hM : Mod K mg (hidT s₁.heap H) := ⟨hKb, nsK hns, ⟨mb, nsK hb, hbb⟩, let ⟨mc, h1, h2⟩ := hlim; ⟨mc, nsK h1, h2⟩⟩
    have e0 : Env0 P w K mg (hidT s₁.heap H) callerA [] s₁ H := ⟨rfl, hM, fun b o e => of_hidT e, Nat.le_of_eq (hidT_size _ _), trivial, fun b hb => absurd (show b ∈ ([] : List Addr) from hb) (by simp), hok, .of_eq hg⟩
    refine codeAny_mono ((F _ hKb (nsK hns)).run callerA [] s₁ H ⟨[.ref a], []⟩ [.ref a] [.ref a] _ _ hr e0 (hbind s₁ (.ref a)) (.cons rfl .nil) (hsp H hO hS)) fun r s' h => ?_
    cases r with
    | error e => exact (hCX H e s' h).elim
    | ok fl =>
      cases fl with
      | next => exact False.elim h
      | brk => exact False.elim h
      | cont => exact False.elim h
      | ret u =>
        obtain ⟨v, H', os, bare, un, hok', r', q⟩ := h
        have q' : v = .bl true := q
        subst q'
        obtain rfl : u = Value.bool true := r'
        refine ⟨rfl, OldK.of_keep fun b o e => ?_, os, bare⟩
        cases q : H b with
        | none => exact un.keep b o e q (by intro z; exact absurd (show b ∈ ([] : List Addr) from z) (by simp)) (by simp)
        | some u =>
          rcases hO b with z | ⟨ob, xs, z⟩
          · rw [q] at z; cases z
          · have z2 := un.frzs b ob _ z
            obtain ⟨e1, _⟩ := hok b _ z
            obtain ⟨e2, _⟩ := hok' b _ z2
            rw [e] at e1; cases e1
            exact e2
  cases hk : K.lookup a with
  | some o =>
    -- the script is one of the module's own objects
    have e := KX a o hk
    rw [ha] at e
    cases e
    refine core (fun _ => none) (fun _ => .inl rfl) (.inr ⟨_, vs.toArray, _, hk, rfl, rfl, rfl, by rw [List.size_toArray, lenV]; exact hl, by simpa using rv⟩) (fun b u z => by have z' : (none : Option HO) = some u := z; cases z') (fun b z => absurd rfl z) fun z => absurd rfl z
  | none =>
    refine core (fun b => if b = a then some (.frz { cls := .type "list", data := .seq vs.toArray } (.lst (ns.map V.int))) else none) (fun b => ?_) (.inl (.inr ⟨{ cls := .type "list", data := .seq vs.toArray }, if_pos rfl⟩)) (fun b u z => ?_) (fun b z => ?_) fun _ => hk
    · by_cases hb : b = a
      · exact .inr ⟨_, _, if_pos hb⟩
      · exact .inl (if_neg hb)
    · by_cases hb : b = a
      · have z' := (if_pos hb).symm.trans z
        cases z'
        subst hb
        exact ⟨ha, by rw [List.length_map]; exact hl, vs, _, rv, ha⟩
      · have z' := (if_neg hb).symm.trans z
        cases z'
    · by_cases hb : b = a
      · exact hb
      · exact absurd (if_neg hb) z
end L2

namespace L2
open PySem PySem.Spec PyProof.Rows

theorem walk_of {l : PySem.W.OpenLaw} {n k : Nat} {q : Program} {loose : List Str} {XP : (Str → Option Value) → Heap → Prop} {YP : World → Heap → Prop} {d : DefRec} {K : Params → PySem.W.Frag} {CX : World → CXT} {sp : World → Sp} {x : Str}
    (hn : l.most = some n) (hn2 : n ≤ sizeLine) (hdf : d.params.defaults = []) (hr : Room k callerA)
    (hY : ∀ (w : World) (h : Heap), YP w h → (K w.params).In h)
    (F : ∀ (w : World) (mg : Str → Option Value) (fa : Addr) (h : Heap), (K w.params).In h → h.Ns mainGlobals mg → mg d.name = some (.ref fa) →
      ∃ fd : FuncData, (∀ (s : Shared) (u : Value), BindsTo s fd ⟨[u], []⟩ [(x, u)]) ∧
        ∀ base : Heap, (K w.params).In base → base.Ns mainGlobals mg → FnOk l.prog w (K w.params) mg base (CX w) k fa fd [x] (sp w))
    (hsp : ∀ (w : World) (H : Hp) (a : Addr) (ns : List Int), ns.length ≤ n → Only H → SqL (K w.params) H a (ns.map V.int) → sp w [.ref a] H (fun v _ => v = .bl true) fun _ _ _ => False)
    (hCX : ∀ (w : World) (H : Hp) (s : Shared) (e : Value) (s' : Shared), CX w [] H s (fun _ _ _ => False) e s' → False) :
    PySem.W.WalkO q loose XP YP l.row.toRowW d [] (fun f vs => PySem.call f vs) := by
  refine Att.attach_call hn hdf fun w s₀ s₁ mg mb fa o pm cd doc a vs ns G Y ho hd hcd hmg hobj hints hlen hg => ?_
  have KX := hY w _ Y
  obtain ⟨fd, hb, hF⟩ := F w mg fa _ KX G.T.g hmg
  exact law_call KX G.T.g G.T.b G.T.builtins G.T.nolimit hg hobj hints (Nat.le_trans hlen hn2) hr hF hb (fun H hO hS => hsp w H a ns hlen hO hS) fun H e s' => hCX w H s₁ e s'
theorem walk_ofK {l : PySem.W.OpenLaw} {n k : Nat} {q : Program} {loose : List Str} {XP : (Str → Option Value) → Heap → Prop} {YP : World → Heap → Prop} {d : DefRec} {K : Params → PySem.W.Frag} {CX : CXT} {sp : PySem.W.Frag → Sp} {x : Str}
    (hn : l.most = some n) (hn2 : n ≤ sizeLine) (hdf : d.params.defaults = []) (hr : Room k callerA)
    (hY : ∀ (w : World) (h : Heap), YP w h → (K w.params).In h)
    (F : ∀ (w : World) (mg : Str → Option Value) (fa : Addr) (h : Heap), (K w.params).In h → h.Ns mainGlobals mg → mg d.name = some (.ref fa) →
      ∃ fd : FuncData, (∀ (s : Shared) (u : Value), BindsTo s fd ⟨[u], []⟩ [(x, u)]) ∧
        ∀ base : Heap, (K w.params).In base → base.Ns mainGlobals mg → FnOk l.prog w (K w.params) mg base CX k fa fd [x] (sp (K w.params)))
    (hsp : ∀ (K : PySem.W.Frag) (H : Hp) (a : Addr) (ns : List Int), ns.length ≤ n → Only H → SqL K H a (ns.map V.int) → sp K [.ref a] H (fun v _ => v = .bl true) fun _ _ _ => False)
    (hCX : ∀ (H : Hp) (s : Shared) (e : Value) (s' : Shared), CX [] H s (fun _ _ _ => False) e s' → False) :
    PySem.W.WalkO q loose XP YP l.row.toRowW d [] (fun f vs => PySem.call f vs) :=
  walk_of (K := K) (CX := fun _ => CX) (sp := fun w => sp (K w.params)) hn hn2 hdf hr hY F (fun w H a ns h1 h2 h3 => hsp (K w.params) H a ns h1 h2 h3) fun _ H s e s' => hCX H s e s'
end L2


namespace L2
open PySem PySem.Spec PyProof.Rows

noncomputable def defArgs (s : Stmt) : Arguments := match s with
  | .FunctionDef _ a _ _ _ _ _ _ _ _ => a
  | _ => { posonlyargs := [], args := [], vararg := none, kwonlyargs := [], kw_defaults := [], kwarg := none, defaults := [] }
noncomputable def defBody (s : Stmt) : List Stmt := match s with
  | .FunctionDef _ _ b _ _ _ _ _ _ _ => b
  | _ => []
noncomputable def defScope (s : Stmt) : Scope := match s with
  | .FunctionDef _ _ _ _ _ _ sc _ _ _ => sc
  | _ => { kind := .function, names := [], isGenerator := false, isCoroutine := false }

noncomputable abbrev CX0 : CXT := fun _ _ _ _ _ _ => False
noncomputable abbrev E0 : XK := fun _ _ _ => False
theorem pass0 {X : Cx} : Passes CX0 X E0 := fun _ _ _ _ _ _ _ h => h.elim

section
variable {P : Program} {w : World} {K : PySem.W.Frag} {mg : Str → Option Value} {base : Heap}
end
section
variable {X : Cx}
end

end L2

end
namespace RM
open Rat
noncomputable def bl (n : Nat) : Nat := n.log2 + 1
theorem lt_bl (n : Nat) : n < 2 ^ bl n := Nat.lt_log2_self
theorem bl_le {n k : Nat} (h : n < 2 ^ k) (hk : 0 < k) : bl n ≤ k := by
  unfold bl
  rcases Nat.eq_zero_or_pos n with h0 | h0
  · subst h0; rw [Nat.log2_zero]; omega
  · have := (Nat.log2_lt (Nat.pos_iff_ne_zero.mp h0)).mpr h
    omega
theorem bl_pos (n : Nat) : 0 < bl n := Nat.succ_pos _
theorem bl_mono {m n : Nat} (h : m ≤ n) : bl m ≤ bl n := bl_le (Nat.lt_of_le_of_lt h (lt_bl n)) (bl_pos n)
theorem bl_mul (m n : Nat) : bl (m * n) ≤ bl m + bl n := by
  refine bl_le ?_ (Nat.add_pos_left (bl_pos m) _)
  rw [Nat.pow_add]
  exact Nat.mul_lt_mul'' (lt_bl m) (lt_bl n)
theorem bl_add (m n : Nat) : bl (m + n) ≤ max (bl m) (bl n) + 1 := by
  refine bl_le ?_ (Nat.succ_pos _)
  have h1 := lt_bl m
  have h2 := lt_bl n
  have e1 : 2 ^ bl m ≤ 2 ^ max (bl m) (bl n) := Nat.pow_le_pow_right (by decide) (Nat.le_max_left _ _)
  have e2 : 2 ^ bl n ≤ 2 ^ max (bl m) (bl n) := Nat.pow_le_pow_right (by decide) (Nat.le_max_right _ _)
  rw [Nat.pow_succ]
  omega
noncomputable def sz (q : Rat) : Nat := max (bl q.num.natAbs) (bl q.den)
theorem sz_num (q : Rat) : bl q.num.natAbs ≤ sz q := Nat.le_max_left _ _
theorem sz_den (q : Rat) : bl q.den ≤ sz q := Nat.le_max_right _ _
theorem sz_le {q : Rat} {n : Nat} (h1 : bl q.num.natAbs ≤ n) (h2 : bl q.den ≤ n) : sz q ≤ n := Nat.max_le.mpr ⟨h1, h2⟩
theorem num_le (a b : Int) : (divInt a b).num.natAbs ≤ a.natAbs := by
  rw [num_divInt]
  rcases Int.lt_trichotomy b 0 with h | h | h
  · rw [Int.sign_eq_neg_one_of_neg h]
    refine Nat.le_trans (Int.natAbs_ediv_le_natAbs _ _) ?_
    simp
  · subst h; simp
  · rw [Int.sign_eq_one_of_pos h, Int.one_mul]
    exact Int.natAbs_ediv_le_natAbs _ _
theorem den_le (a b : Int) (hb : b ≠ 0) : (divInt a b).den ≤ b.natAbs := by
  rw [den_divInt, if_neg hb]
  exact Nat.div_le_self _ _
theorem sz_divInt (a b : Int) (hb : b ≠ 0) : sz (divInt a b) ≤ max (bl a.natAbs) (bl b.natAbs) :=
  sz_le (Nat.le_trans (bl_mono (num_le a b)) (Nat.le_max_left _ _)) (Nat.le_trans (bl_mono (den_le a b hb)) (Nat.le_max_right _ _))
theorem den_ne (q : Rat) : (q.den : Int) ≠ 0 := by have := q.den_nz; omega
theorem add_eq (q r : Rat) : q + r = divInt (q.num * r.den + r.num * q.den) (q.den * r.den) := by
  conv => lhs; rw [← num_divInt_den q, ← num_divInt_den r]
  rw [divInt_add_divInt _ _ (den_ne q) (den_ne r)]
theorem mul_eq (q r : Rat) : q * r = divInt (q.num * r.num) (q.den * r.den) := by
  conv => lhs; rw [← num_divInt_den q, ← num_divInt_den r]
  rw [divInt_mul_divInt]
theorem natAbs_add_le' (a b : Int) : (a + b).natAbs ≤ a.natAbs + b.natAbs := Int.natAbs_add_le a b
theorem sz_add (q r : Rat) : sz (q + r) ≤ sz q + sz r + 1 := by
  rw [add_eq]
  have hb : ((q.den : Int) * (r.den : Int)) ≠ 0 := Int.mul_ne_zero (den_ne q) (den_ne r)
  refine Nat.le_trans (sz_divInt _ _ hb) (Nat.max_le.mpr ⟨?_, ?_⟩)
  · refine Nat.le_trans (bl_mono (natAbs_add_le' _ _)) (Nat.le_trans (bl_add _ _) ?_)
    rw [Int.natAbs_mul, Int.natAbs_mul]
    have h1 := bl_mul q.num.natAbs (r.den : Int).natAbs
    have h2 := bl_mul r.num.natAbs (q.den : Int).natAbs
    have a1 := sz_num q
    have a2 := sz_num r
    have a3 := sz_den q
    have a4 := sz_den r
    simp only [Int.natAbs_natCast] at h1 h2 ⊢
    omega
  · rw [Int.natAbs_mul]
    have h1 := bl_mul (q.den : Int).natAbs (r.den : Int).natAbs
    have a3 := sz_den q
    have a4 := sz_den r
    simp only [Int.natAbs_natCast] at h1 ⊢
    omega
theorem sz_mul (q r : Rat) : sz (q * r) ≤ sz q + sz r := by
  rw [mul_eq]
  have hb : ((q.den : Int) * (r.den : Int)) ≠ 0 := Int.mul_ne_zero (den_ne q) (den_ne r)
  refine Nat.le_trans (sz_divInt _ _ hb) (Nat.max_le.mpr ⟨?_, ?_⟩)
  · rw [Int.natAbs_mul]
    have h1 := bl_mul q.num.natAbs r.num.natAbs
    have a1 := sz_num q
    have a2 := sz_num r
    omega
  · rw [Int.natAbs_mul]
    have h1 := bl_mul (q.den : Int).natAbs (r.den : Int).natAbs
    have a3 := sz_den q
    have a4 := sz_den r
    simp only [Int.natAbs_natCast] at h1 ⊢
    omega
theorem sz_neg (q : Rat) : sz (-q) = sz q := by
  unfold sz
  rw [Rat.neg_num, Rat.neg_den, Int.natAbs_neg]
theorem sz_sub (q r : Rat) : sz (q - r) ≤ sz q + sz r + 1 := by
  rw [Rat.sub_eq_add_neg]
  have := sz_add q (-r)
  rw [sz_neg] at this
  exact this
theorem sz_zero : sz 0 = 1 := by decide
theorem sz_one : sz 1 = 1 := by decide
end RM

namespace L2
open PySem PySem.Spec PyProof.Rows
section
variable {prog : Program} {w : World} {A : Around} {R : Result → Shared → Prop} {s : Shared}
noncomputable def testsOf (ifs : List Expr) (env : Env) : Sem Bool := forIn ifs true fun c r => if r = true then do let ok ← isTrue c env (eval c env); pure (ForInStep.yield ok) else pure (ForInStep.yield r)
theorem compLoop_goT {elt target iter : Expr} {ifs : List Expr} {scope : Scope} {pos : Pos} {it acc : Value} {env : Env} (I : Nat → Shared → Prop)
    (turn : ∀ n s, I n s → wpAny (model prog w) A (pyNext it) (fun r s₁ => match r with
      | none => R (.ok .next) s₁
      | some v => wpAny (model prog w) A (letOwnedTupleGo target it v) (fun _ s₁' => wpAny (model prog w) A (assign target env v) (fun _ s₂ => wpAny (model prog w) A (testsOf ifs env) (fun ok s₂' => if ok = true then wpAny (model prog w) A (eval elt env) (fun x s₃ =>
          wpAny (model prog w) A (call (.builtin "list.append") [acc, x]) (fun _ s₄ => ∃ m, m < n ∧ I m s₄) (notedBy (model prog w) A env fun e s' => R (.error e) s') s₃)
          (notedBy (model prog w) A env fun e s' => R (.error e) s') s₂' else ∃ m, m < n ∧ I m s₂') (notedBy (model prog w) A env fun e s' => R (.error e) s') s₂) (notedBy (model prog w) A env fun e s' => R (.error e) s') s₁') (notedBy (model prog w) A env fun e s' => R (.error e) s') s₁) (notedBy (model prog w) A env fun e s' => R (.error e) s') s)
    (n : Nat) (h : I n s) :
    codeAny (model prog w) A (.compLoop (.ListComp elt [⟨target, iter, ifs, 0⟩] scope pos) 0 it acc env) R s := by
  refine codeAny_loop rfl I (fun n s hI => ?_) n h
  show wpAny _ _ ((compTurn (.ListComp elt [⟨target, iter, ifs, 0⟩] scope pos) 0 it acc env).onRaise (fun x => do noteFrame x env; theTreesLotGoes x)) _ _ s
  refine wpAny_noted ?_
  rw [compTurn_list]
  refine wpAny_bind (wpAny_standAt (wpAny_bind (wpAny_mono (turn n s hI) (fun r s₁ h₁ => ?_) fun _ _ h' => h')))
  cases r with
  | none => exact wpAny_pure h₁
  | some v =>
    refine wpAny_bind (wpAny_mono h₁ (fun _ s₁' h₁' => ?_) fun _ _ h' => h')
    refine wpAny_bind (wpAny_mono h₁' (fun _ s₂ h₂ => wpAny_bind (wpAny_mono h₂ (fun ok s₂' h₃ => ?_) fun _ _ h' => h')) fun _ _ h' => h')
    cases ok with
    | true =>
      refine wpAny_bind (wpAny_bind (wpAny_mono h₃ (fun x s₃ h₄ => wpAny_bind (wpAny_mono h₄ (fun _ s₄ h₅ => wpAny_pure (wpAny_pure ⟨rfl, h₅⟩)) fun _ _ h' => h')) fun _ _ h' => h'))
    | false => exact wpAny_bind (wpAny_pure (wpAny_pure ⟨rfl, h₃⟩))
end
noncomputable def PIfs (X : Cx) (ifs : List Expr) (t : TT) : Prop :=
  ∀ (pins : List (Addr × Obj)) (s : Shared) (σ : St) (H : Hp) (Q : Bool → Hp → Prop), Inv X pins σ H s → t σ H Q → wpAny (model X.prog X.w) X.A (testsOf ifs X.env) (TP X pins σ Q) X.xe s
noncomputable def tYes : TT := fun _ H Q => Q true H
theorem pifs_nil {X : Cx} : PIfs X [] tYes := fun pins s σ H Q I q => wpAny_pure ⟨H, I, q⟩
end L2
namespace L2
open PySem PySem.Spec PyProof.Rows
noncomputable def clFor (cells : List (Str × Addr)) : List (Str × NameKind) → List (Str × Addr) → List (Str × Addr)
  | [], acc => acc
  | (n, k) :: r, acc => if k == .free then clFor cells r ((n, (cells.lookup n).getD 0) :: acc) else clFor cells r acc
theorem closure_go {env : Env} : ∀ (names : List (Str × NameKind)) (acc : List (Str × Addr)), (∀ n, (n, NameKind.free) ∈ names → ∃ c, env.cells.lookup n = some c) →
    (forIn names acc (fun (x : Str × NameKind) (cs : List (Str × Addr)) => if (x.2 == NameKind.free) = true then (do let a ← cellOf env x.1; pure (ForInStep.yield ((x.1, a) :: cs))) else pure (ForInStep.yield cs)) : Sem (List (Str × Addr))) = pure (clFor env.cells names acc)
  | [], acc, _ => rfl
  | (n, k) :: r, acc, h => by
    rw [List.forIn_cons]
    unfold clFor
    by_cases hk : (k == NameKind.free) = true
    · have e : k = .free := by cases k <;> first | rfl | (exact absurd hk (by decide))
      subst e
      obtain ⟨c, hc⟩ := h n List.mem_cons_self
      rw [if_pos hk, if_pos hk]
      have e1 : cellOf env n = pure c := by unfold cellOf; rw [hc]
      rw [e1, pure_bind, pure_bind, hc]
      exact closure_go r _ fun m hm => h m (List.mem_cons_of_mem _ hm)
    · rw [if_neg hk, if_neg hk, pure_bind]
      exact closure_go r _ fun m hm => h m (List.mem_cons_of_mem _ hm)
theorem closure_for {scope : Scope} {env : Env} (h : ∀ n, (n, NameKind.free) ∈ scope.names → ∃ c, env.cells.lookup n = some c) : closureFor scope env = pure (clFor env.cells scope.names []) := by
  have := closure_go (env := env) scope.names [] h
  unfold closureFor
  first
    | (simp only [] at this ⊢; rw [← this]; simp only [bind_pure]; rfl)
    | (rw [← this]; rfl)
    | (simp only [bind_pure, pure_bind]; exact this)
theorem clFor_some {cells : List (Str × Addr)} {x : Str} {c : Addr} : ∀ (names : List (Str × NameKind)) (acc : List (Str × Addr)), (∀ n, (n, NameKind.free) ∈ names → ∃ c, cells.lookup n = some c) → (∀ y d, acc.lookup y = some d → cells.lookup y = some d) → (clFor cells names acc).lookup x = some c → cells.lookup x = some c
  | [], acc, _, ha, h => ha x c h
  | (n, k) :: r, acc, hn, ha, h => by
    unfold clFor at h
    by_cases hk : (k == NameKind.free) = true
    · rw [if_pos hk] at h
      have e : k = .free := by cases k <;> first | rfl | (exact absurd hk (by decide))
      subst e
      obtain ⟨d, hd⟩ := hn n List.mem_cons_self
      refine clFor_some r _ (fun m hm => hn m (List.mem_cons_of_mem _ hm)) (fun y e hy => ?_) h
      rw [List.lookup_cons] at hy
      split at hy
      · rename_i hz
        have hz' : y = n := by simpa using hz
        subst hz'
        rw [hd] at hy ⊢
        cases hy; rfl
      · exact ha y e hy
    · rw [if_neg hk] at h
      exact clFor_some r _ (fun m hm => hn m (List.mem_cons_of_mem _ hm)) ha h
theorem clFor_has {cells : List (Str × Addr)} {x : Str} : ∀ (names : List (Str × NameKind)) (acc : List (Str × Addr)), ((x, NameKind.free) ∈ names ∨ ∃ c, acc.lookup x = some c) → ∃ c, (clFor cells names acc).lookup x = some c
  | [], acc, h => by
    rcases h with h | h
    · cases h
    · exact h
  | (n, k) :: r, acc, h => by
    unfold clFor
    by_cases hk : (k == NameKind.free) = true
    · rw [if_pos hk]
      refine clFor_has r _ ?_
      by_cases hx : x = n
      · right; rw [List.lookup_cons]; simp [hx]
      · rcases h with h | ⟨c, h⟩
        · rcases List.mem_cons.mp h with z | z
          · injection z with z1 _; exact absurd z1 hx
          · exact .inl z
        · right
          refine ⟨c, ?_⟩
          rw [List.lookup_cons]
          have : (x == n) = false := by simpa using hx
          rw [this]; exact h
    · rw [if_neg hk]
      refine clFor_has r _ ?_
      rcases h with h | h
      · rcases List.mem_cons.mp h with z | z
        · injection z with _ z2
          subst z2
          exact absurd rfl hk
        · exact .inl z
      · exact .inr h
theorem relabel_mem {scope : Scope} {env : Env} {x : Str} {k : NameKind} (h : (relabel scope env).names.lookup x = some k) (hk : k = .cell ∨ k = .free) (hcell : ∀ y ∈ scope.names, y.2 ≠ .cell) : (x, NameKind.free) ∈ scope.names := by
  have go : ∀ (l : List (Str × NameKind)), (∀ y ∈ l, y.2 ≠ .cell) → (l.map fun (n, k) => if (k == NameKind.free && env.scope.kind == .function && env.kindOf n == some .cell) = true then (n, NameKind.cell) else (n, k)).lookup x = some k → (x, NameKind.free) ∈ l := by
    intro l
    induction l with
    | nil => intro _ h; cases h
    | cons p r ih =>
      intro hl h
      obtain ⟨n, j⟩ := p
      rw [List.map_cons, List.lookup_cons] at h
      by_cases hj : j = .free
      · subst hj
        by_cases hx : x = n
        · subst hx; exact List.mem_cons_self
        · refine List.mem_cons_of_mem _ (ih (fun y hy => hl y (List.mem_cons_of_mem _ hy)) ?_)
          have e : ∀ b : Bool, (x == (if b = true then (n, NameKind.cell) else (n, NameKind.free)).1) = false := fun b => by cases b <;> simpa using hx
          dsimp only at h
          rw [e] at h
          exact h
      · have e : (j == NameKind.free) = false := by simpa using hj
        have hc := hl (n, j) List.mem_cons_self
        dsimp only at h
        rw [e] at h
        simp only [Bool.false_and, Bool.false_eq_true, if_false] at h
        by_cases hx : x = n
        · have : (x == n) = true := by simpa using hx
          rw [this] at h
          have h' : j = k := by simpa using h
          subst h'
          rcases hk with z | z
          · exact absurd z hc
          · exact absurd z hj
        · have : (x == n) = false := by simpa using hx
          rw [this] at h
          exact List.mem_cons_of_mem _ (ih (fun y hy => hl y (List.mem_cons_of_mem _ hy)) h)
  exact go scope.names hcell h
noncomputable def cxF (X : Cx) (scope : Scope) (cl : List (Str × Addr)) (N' : List Str) (s3 : Shared) (H3 : Hp) (C : Addr) (fp : List Addr) (pins : List (Addr × Obj)) : Cx :=
  { X with N := N', s₀ := s3, H₀ := H3, env := compEnvC scope cl C X.env, outer := X.stack, ex := fp, fn := fun _ => false, pn := X.pn ++ pins, xe := fun _ _ => False }
noncomputable def capF (n : Nat) (caps : List Nat) (σ : St) : St := List.replicate n none ++ caps.map fun i => (σ[i]?).getD none
noncomputable def tCompF (n : Nat) (caps : List Nat) (wi : TI) (g : TG) (tc : TT) (te : TE) : TE := fun σ H Q => wi σ H fun J H1 => ∀ D, H1 D = none → ∃ W : Nat → Nat → Hp → Prop, (∃ m, W 0 m (upd H1 D (.lst []))) ∧ ∀ i m H, W i m H →
  (J.stop i H ∧ Q (.ref D) H) ∨ (J.go i H ∧ ∀ x H', J.yld i H x H' → g x (capF n caps σ) H' fun σ2 H2 => tc σ2 H2 fun b H2' => if b = true then te σ2 H2' fun v H3 => ∃ ys, H3 D = some (.lst ys) ∧ ys.length < sizeLine ∧ ∃ m', m' < m ∧ W (i + 1) m' (upd H3 D (.lst (ys ++ [v]))) else ∃ m', m' < m ∧ W (i + 1) m' H2')
section
variable {X : Cx} {elt tg iter : Expr} {scope : Scope} {cl : List (Str × Addr)} {tgs cps : List Str} {caps : List Nat} {wi : TI} {g : TG} {tc : TT} {te : TE} {pos : Pos} {ifs : List Expr}
noncomputable def CapOk (s3 : Shared) (H3 : Hp) (fp : List Addr) (cl : List (Str × Addr)) (x : Str) (v : V) : Prop :=
  ∃ (u : Value) (c : Addr) (o : Obj), RelV v u ∧ cl.lookup x = some c ∧ s3.heap.get? c = some o ∧ o.data = .cell (some u) ∧ H3 c = none ∧ c ∉ fp
theorem Inv.reset {pins pins' : List (Addr × Obj)} {σ0 σ' : St} {H3 H' : Hp} {s3 s' : Shared} {fp : List Addr} {C : Addr} (I : Inv (cxF X scope cl (tgs ++ cps) s3 H3 C fp pins) pins' σ' H' s')
    (hsc : ∀ x ∈ cps, (relabel scope X.env).names.lookup x = some .cell ∨ (relabel scope X.env).names.lookup x = some .free) (hl : caps.length = cps.length)
    (hc : ∀ (j : Nat) (x : Str) (v : V), cps[j]? = some x → (caps.map fun i => (σ0[i]?).getD none)[j]? = some (some v) → CapOk s3 H3 fp cl x v) :
    Inv (cxF X scope cl (tgs ++ cps) s3 H3 C fp pins) pins' (capF tgs.length caps σ0) H' s' := by
  obtain ⟨m, hn, _⟩ := I.loc
  refine ⟨I.ok, I.os, I.bare, I.base, ⟨m, hn, fun i x v e1 e2 e3 => ?_⟩, I.cell, I.free, I.freeC, I.pin, I.hok, by simp [capF, cxF, hl]⟩
  have e1 : (tgs ++ cps)[i]? = some x := e1
  unfold capF at e2
  rw [List.getElem?_append] at e1 e2
  rw [List.length_replicate] at e2
  by_cases hi : i < tgs.length
  · rw [if_pos hi] at e2
    rw [List.getElem?_replicate] at e2
    split at e2 <;> cases e2
  · rw [if_neg hi] at e1 e2
    obtain ⟨u, c, o, r, h1, h2, h3, h4, h5⟩ := hc (i - tgs.length) x v e1 e2
    obtain ⟨sl, k⟩ := I.base.any h2 h4 h5
    refine ⟨u, r, .inr ⟨?_, c, h1, _, k, h3⟩⟩
    rcases hsc x (List.mem_of_getElem? e1) with z | z
    · exact .inl z
    · exact .inr z
theorem compF_block {pins : List (Addr × Obj)} {σ0 : St} {σ : St} {H3 : Hp} {s3 : Shared} {fp : List Addr} {it D C : Addr} {tn : Nat → Heap → Prop} {J : It} {h₁ : Heap} {tk : Nat} {m : Str → Option Value} {R : Result → Shared → Prop} {Qd : Hp → Prop}
    (hc : X.calm = true) (hcell : ∀ x ∈ scope.names, x.2 ≠ .cell) (hkind : scope.kind = .function)
    (hcl : ∀ x c, cl.lookup x = some c → X.env.cells.lookup x = some c) (hhas : ∀ x, (x, NameKind.free) ∈ scope.names → ∃ c, cl.lookup x = some c)
    (hsc : ∀ x ∈ cps, (relabel scope X.env).names.lookup x = some .cell ∨ (relabel scope X.env).names.lookup x = some .free) (hl : caps.length = cps.length)
    (hcap : ∀ (j : Nat) (x : Str) (v : V), cps[j]? = some x → (caps.map fun i => (σ0[i]?).getD none)[j]? = some (some v) → CapOk s3 H3 fp cl x v)
    (hg : ∀ cl s3 H3 C fp pins, PG (cxF X scope cl (tgs ++ cps) s3 H3 C fp pins) tg g) (hq : ∀ cl s3 H3 C fp pins, PIfs (cxF X scope cl (tgs ++ cps) s3 H3 C fp pins) ifs tc) (he : ∀ cl s3 H3 C fp pins, PE (cxF X scope cl (tgs ++ cps) s3 H3 C fp pins) elt te)
    (I3 : Inv X pins σ H3 s3) (T : Turn X.prog X.w X.K tg J fp it tn) (st3 : tn 0 s3.heap) (f3 : ∀ b ∈ fp, FpOk X pins H3 b) (hC : C = s3.heap.objs.size) (hn : h₁.Ns C m) (hk : ∀ b o, s3.heap.get? b = some o → h₁.get? b = some o)
    (W : Nat → Nat → Hp → Prop) (m0 : Nat) (w0 : W 0 m0 H3)
    (turn : ∀ i m H, W i m H → (J.stop i H ∧ Qd H) ∨ (J.go i H ∧ ∀ x H', J.yld i H x H' → g x (capF tgs.length caps σ0) H' fun σ2 H2 => tc σ2 H2 fun b H2' => if b = true then te σ2 H2' fun v H3 => ∃ ys, H3 D = some (.lst ys) ∧ ys.length < sizeLine ∧ ∃ m', m' < m ∧ W (i + 1) m' (upd H3 D (.lst (ys ++ [v]))) else ∃ m', m' < m ∧ W (i + 1) m' H2'))
    (hR : ∀ s' H' σ', Inv (cxF X scope cl (tgs ++ cps) s3 H3 C fp pins) [] σ' H' s' → Qd H' → R (.ok .next) s') :
    codeAny (model X.prog X.w) X.A (.compStart (.ListComp elt [⟨tg, iter, ifs, 0⟩] scope pos) 0 (.ref it) (.ref D) (compEnvC scope cl C X.env)) R { s3 with heap := h₁, toks := tk } := by
  have lt3 : ∀ b ∈ fp, b < s3.heap.objs.size := fun b hb => by
    obtain ⟨o, e, _⟩ := T.obj 0 _ st3 b hb
    exact Heap.lt_size e
  have ok' : (cxF X scope cl (tgs ++ cps) s3 H3 C fp pins).Ok := {
    mod := I3.ok.mod
    kind := hkind
    glob := I3.ok.glob
    blt := I3.ok.blt
    above := Nat.le_of_eq hC.symm
    inj := fun x y c e e' => I3.ok.inj x y c (hcl x c e) (hcl y c e')
    has := fun x h => by
      rcases h with h | h
      · exact hhas x (relabel_mem h (.inl rfl) hcell)
      · exact hhas x (relabel_mem h (.inr rfl) hcell)
    cab := fun x c h => by cases h
    hd := fun _ => I3.ok.hd hc
    frames := I3.ok.frames
    stk := .inl rfl
    exf := fun b hb => ⟨fun z => by
      have z' : b = C := z
      have h1 := lt3 b hb
      rw [z', hC] at h1
      exact Nat.lt_irrefl _ h1, fun x c e => (f3 b hb).2.2.2.2.1 x c (hcl x c e)⟩
    bs := fun b o e => I3.bs b o e
    bsz := Nat.le_trans I3.ok.bsz I3.sz
    noex := fun b o e hb => by
      obtain ⟨_, _, _, q, _⟩ := f3 b hb
      rcases q with q | q
      · exact I3.ok.noex b o e q
      · have h1 := Heap.lt_size e
        exact absurd (Nat.lt_of_lt_of_le (Nat.lt_of_lt_of_le h1 I3.ok.bsz) q) (Nat.lt_irrefl _)
    exfs := fun b hb z => by
      obtain ⟨_, q1, q2, _⟩ := f3 b hb
      rcases List.mem_cons.mp (I3.stkSub b z) with y | y
      · exact q1 y
      · exact q2 y
    funs := I3.stack
    frf := I3.stkFree }
  have J0 : Inv (cxF X scope cl (tgs ++ cps) s3 H3 C fp pins) [] (List.replicate (tgs ++ cps).length none) H3 { s3 with heap := h₁, toks := tk } := {
    ok := ok'
    os := rfl
    bare := I3.bare
    base := Un.kept hk
    loc := ⟨m, hn, fun i x v _ e _ => by
      rw [List.getElem?_replicate] at e
      split at e <;> cases e⟩
    cell := fun x c e => by
      obtain ⟨v, o, ho, hd⟩ := I3.cell x c (hcl x c e)
      exact ⟨v, o, hk c o ho, hd⟩
    free := I3.hok.fresh (Nat.le_of_eq hC.symm)
    freeC := fun x c e => I3.freeC x c (hcl x c e)
    pin := fun p hp => by
      have hp' : p ∈ X.pn ++ pins := by simpa [cxF] using hp
      obtain ⟨a1, a2, a3, a4, a5⟩ := I3.pin p hp'
      refine ⟨hk _ _ a1, a2, fun z => ?_, fun z => ?_, a5⟩
      · have z' : p.1 = C := z
        have h1 := Heap.lt_size a1
        rw [z', hC] at h1
        exact Nat.lt_irrefl _ h1
      · rcases List.mem_cons.mp (I3.stkSub _ z) with y | y
        · exact a3 y
        · exact a4 y
    hok := I3.hok.kept hk
    len := by simp [cxF] }
  have stat : ∀ {H' : Hp}, (∀ b ∈ fp, H' b = none) → ∀ b ∈ fp, FpOk (cxF X scope cl (tgs ++ cps) s3 H3 C fp pins) [] H' b := fun hn b hb => by
    obtain ⟨_, _, _, _, _, q⟩ := f3 b hb
    exact ⟨hn b hb, (ok'.exf b hb).1, ok'.exfs b hb, .inl hb, (ok'.exf b hb).2, fun p hp => q p (by simpa [cxF] using hp)⟩
  have loop : codeAny (model X.prog X.w) X.A (.compLoop (.ListComp elt [⟨tg, iter, ifs, 0⟩] scope pos) 0 (.ref it) (.ref D) (compEnvC scope cl C X.env)) R { s3 with heap := h₁, toks := tk } := by
    refine compLoop_goT (fun n s' => ∃ i σ' H', Inv (cxF X scope cl (tgs ++ cps) s3 H3 C fp pins) [] σ' H' s' ∧ tn i s'.heap ∧ (∀ b ∈ fp, H' b = none) ∧ W i n H') ?_ m0
      ⟨0, _, H3, J0, T.keep _ _ _ st3 fun b hb o e => hk b o e, fun b hb => (f3 b hb).1, w0⟩
    rintro n s4 ⟨i, σ4, H4, I4, st4, fr4, w4⟩
    rcases turn i n H4 w4 with ⟨stop, qn⟩ | ⟨go, step⟩
    · refine thn (T.done (cxF X scope cl (tgs ++ cps) s3 H3 C fp pins) rfl rfl rfl hc i [] s4 σ4 H4 _ I4 (stat fr4) st4 stop) fun r s5 zz => ?_
      obtain ⟨hr, I5⟩ := zz
      subst hr
      exact hR s5 H4 σ4 I5 qn
    · refine thn (T.item (cxF X scope cl (tgs ++ cps) s3 H3 C fp pins) rfl rfl rfl hc i [] s4 σ4 H4 _ I4 (stat fr4) st4 go) fun r s5 zz => ?_
      obtain ⟨u, hr, h5⟩ := zz
      subst hr
      refine thn h5 fun _ s6 zz => ?_
      obtain ⟨x, H6, I6, r6, y6, st6, fr6⟩ := zz
      have I6w := I6.reset hsc hl hcap
      have I6' := I6w.pinned (stat fr6) (T.obj _ _ st6)
      refine wpAny_mono (hg cl s3 H3 C fp pins _ s6 _ H6 x u _ I6' r6 (step x H6 y6)) (fun _ s7 ⟨σ7, H7, I7, q7⟩ => ?_) fun _ _ z => z.elim
      refine wpAny_mono (hq cl s3 H3 C fp pins _ s7 σ7 H7 _ I7 q7) (fun b s7' ⟨H7', I7', q7'⟩ => ?_) fun _ _ z => z.elim
      cases b with
      | false =>
        obtain ⟨m', hm, w8⟩ := q7'
        refine ⟨m', hm, i + 1, σ7, H7', I7'.unpinned, T.keep _ _ _ st6 fun b hb o e => (I7'.pin (b, o) (List.mem_append_right _ (List.mem_append_right _ (mem_pinsAt hb e)))).1, fun b hb => ?_, w8⟩
        obtain ⟨o, e, d⟩ := T.obj _ _ st6 b hb
        exact (I7'.pin (b, o) (List.mem_append_right _ (List.mem_append_right _ (mem_pinsAt hb e)))).2.1
      | true =>
        refine wpAny_mono (he cl s3 H3 C fp pins _ s7' σ7 H7' _ I7' q7') (fun v s8 ⟨y, H8, I8, r8, q8⟩ => ?_) fun _ _ z => z.elim
        obtain ⟨ys, hy, hz, m', hm, w8⟩ := q8
        refine wpAny_mono (mt_append (X := cxF X scope cl (tgs ++ cps) s3 H3 C fp pins) _ s8 σ7 H8 (.ref D) [y] (.ref D) [v] (fun _ H9 => W (i + 1) m' H9) I8 rfl (.cons r8 .nil) ⟨D, ys, y, rfl, rfl, hy, hz, w8⟩) (fun _ s9 ⟨_, H9, I9, _, w9⟩ => ?_) fun _ _ z => z.elim
        refine ⟨m', hm, i + 1, σ7, H9, I9.unpinned, T.keep _ _ _ st6 fun b hb o e => (I9.pin (b, o) (List.mem_append_right _ (List.mem_append_right _ (mem_pinsAt hb e)))).1, fun b hb => ?_, w9⟩
        obtain ⟨o, e, d⟩ := T.obj _ _ st6 b hb
        exact (I9.pin (b, o) (List.mem_append_right _ (List.mem_append_right _ (mem_pinsAt hb e)))).2.1
  exact codeAny_compStart_list loop (T.self _ 0 _ _ _ (T.keep _ _ _ st3 fun b hb o e => hk b o e) loop)
theorem compF_gen (hc : X.calm = true) (hcell : ∀ x ∈ scope.names, x.2 ≠ .cell) (hkind : scope.kind = .function) (hnames : ∀ x ∈ scope.names, x.2 = .local → scope.names.lookup x.1 = some .local)
    (hfr : ∀ x ∈ scope.names, x.2 = .free → x.1 ∈ cps) (hN : caps.map (fun i => X.N[i]?) = cps.map some) (hX : ∀ x ∈ cps, X.env.scope.names.lookup x = some .cell ∧ scope.names.lookup x = some .free)
    (hsc : ∀ x ∈ cps, (relabel scope X.env).names.lookup x = some .cell ∨ (relabel scope X.env).names.lookup x = some .free)
    (hi : PI X tg iter wi) (hg : ∀ cl s3 H3 C fp pins, PG (cxF X scope cl (tgs ++ cps) s3 H3 C fp pins) tg g) (hq : ∀ cl s3 H3 C fp pins, PIfs (cxF X scope cl (tgs ++ cps) s3 H3 C fp pins) ifs tc) (he : ∀ cl s3 H3 C fp pins, PE (cxF X scope cl (tgs ++ cps) s3 H3 C fp pins) elt te)
    (hs : ∀ x, foldedSetIterable iter X.env x = pure x) {use : Option (Value → Sem Unit)} {Qf : Value → Shared → Prop} {pins : List (Addr × Obj)} {s : Shared} {σ : St} {H : Hp} {Q : VK} (I : Inv X pins σ H s) (h : tCompF tgs.length caps wi g tc te σ H Q)
    (hU : ∀ (D C : Addr) (s' : Shared) (H4 : Hp) (m4 : Str → Option Value), s'.heap.Ns C m4 → FpOk X pins H4 C → (∀ h', Heap.SameBut C s'.heap h' → Inv X pins σ H4 { s' with heap := h' }) → Q (.ref D) H4 → compPost (model X.prog X.w) X.A X.xe use Qf (.ref D) C (.ok .next) s') :
    wpAny (model X.prog X.w) X.A (comprehension (.ListComp elt [⟨tg, iter, ifs, 0⟩] scope pos) scope X.env (firstIterPos [⟨tg, iter, ifs, 0⟩] pos) (newList []) false (eval iter X.env) use) Qf X.xe s := by
  have hl : caps.length = cps.length := by
    have := congrArg List.length hN
    simpa using this
  have hcells : ∀ n, (n, NameKind.free) ∈ scope.names → ∃ c, X.env.cells.lookup n = some c := fun n hn => I.ok.has n (.inl (hX n (hfr _ hn rfl)).1)
  refine wpAny_comprehension_free (use := use) rfl hs (closure_for hcells) hkind hnames (thn (hi pins s σ H _ I h) fun v s1 h1 => thn h1 fun itv s2 h2 => ?_)
  obtain ⟨it, fp, tn, J, H', e, I2, T, st2, f2, hW⟩ := h2
  subst e
  refine wpAny_newObj_type (hd := by size_fits) (wpAny_newFunctionEnv hcell (by intro y hy; simp at hy) (fun h₁ hns₁ hsb₁ => ?_) hkind)
  dsimp only at hns₁ hsb₁ ⊢
  have I3 := I2.lnew (ys := []) (its := []) (t' := s2.toks) .nil (Nat.zero_le _)
  obtain ⟨W, ⟨m0, w0⟩, turn⟩ := hW _ I2.fresh
  have st3 : tn 0 (s2.heap.push { cls := .type "list", data := .seq ([] : List Value).toArray }) := T.keep _ _ _ st2 fun b hb o e => Heap.get?_push_of_some _ e
  have f3 : ∀ b ∈ fp, FpOk X pins (upd H' s2.heap.objs.size (.lst [])) b := fun b hb => by
    obtain ⟨q0, q⟩ := f2 b hb
    obtain ⟨o, e, _⟩ := T.obj 0 _ st2 b hb
    exact ⟨by rw [upd_ne (Nat.ne_of_lt (Heap.lt_size e))]; exact q0, q⟩
  have old : ∀ b o, (s2.heap.push { cls := .type "list", data := .seq ([] : List Value).toArray }).get? b = some o → h₁.get? b = some o := fun b o e =>
    hsb₁.extBut b o (Nat.ne_of_lt (Heap.lt_size e)) (Heap.get?_push_of_some _ e)
  have hcap : ∀ (j : Nat) (x : Str) (v : V), cps[j]? = some x → (caps.map fun i => (σ[i]?).getD none)[j]? = some (some v) →
      CapOk { s2 with heap := s2.heap.push { cls := .type "list", data := .seq ([] : List Value).toArray }, toks := s2.toks } (upd H' s2.heap.objs.size (.lst [])) fp (clFor X.env.cells scope.names []) x v := fun j x v ex ev => by
    have hx := hX x (List.mem_of_getElem? ex)
    have hj : (caps.map (fun i => X.N[i]?))[j]? = some (some x) := by rw [hN, List.getElem?_map, ex]; rfl
    rw [List.getElem?_map] at ev hj
    cases hcj : caps[j]? with
    | none => rw [hcj] at ev; cases ev
    | some i =>
      rw [hcj] at ev hj
      have ev' : (σ[i]?).getD none = some v := by simpa using ev
      have hj' : X.N[i]? = some x := by simpa using hj
      have es : σ[i]? = some (some v) := by
        cases q : σ[i]? with
        | none => rw [q] at ev'; cases ev'
        | some w => rw [q] at ev'; rw [show w = some v by simpa using ev']
      obtain ⟨m, hn, hlook⟩ := I3.loc
      obtain ⟨u, ru, lk⟩ := hlook i x v hj' es (.inr (.inl hx.1))
      rcases lk with ⟨k1, _⟩ | ⟨_, c, hc1, o, ho, hd⟩
      · have k1' : X.env.scope.names.lookup x = some .local := k1
        rw [hx.1] at k1'; cases k1'
      · have hmem : (x, NameKind.free) ∈ scope.names := by
          have hlk := hx.2
          have go : ∀ l : List (Str × NameKind), l.lookup x = some .free → (x, NameKind.free) ∈ l := by
            intro l
            induction l with
            | nil => intro z; cases z
            | cons p r ih =>
              intro z
              obtain ⟨n, k⟩ := p
              rw [List.lookup_cons] at z
              split at z
              · rename_i q; have q' : x = n := by simpa using q
                have z' : k = .free := by simpa using z
                rw [q', z']; exact List.mem_cons_self
              · exact List.mem_cons_of_mem _ (ih z)
          exact go _ hlk
        obtain ⟨c', hc'⟩ := clFor_has (cells := X.env.cells) scope.names [] (.inl hmem)
        have := clFor_some scope.names [] hcells (fun y d z => by cases z) hc'
        rw [hc1] at this
        cases this
        refine ⟨u, c, o, ru, hc', ho, hd, I3.freeC x c hc1, fun hb => ?_⟩
        exact (f3 c hb).2.2.2.2.1 x c hc1 rfl
  refine compF_block (s3 := { s2 with heap := s2.heap.push { cls := .type "list", data := .seq ([] : List Value).toArray }, toks := s2.toks }) (Qd := fun H => Q (.ref s2.heap.objs.size) H) (tk := s2.toks + ([] : List (Str × Value)).length) (cl := clFor X.env.cells scope.names [])
    hc hcell hkind (fun x c z => clFor_some scope.names [] hcells (fun y d z => by cases z) z) (fun x z => clFor_has scope.names [] (.inl z)) hsc hl hcap hg hq he I3 T st3 f3 rfl hns₁ old W m0 w0 turn fun s' H4 σ4 I4 q4 => ?_
  obtain ⟨m4, hn4, _⟩ := I4.loc
  have hCfree : H4 _ = none := I4.free
  have nC : ∀ b u, H4 b = some u → b ≠ (s2.heap.push { cls := .type "list", data := .seq ([] : List Value).toArray }).objs.size := fun b u e z => by
    rw [z] at e
    have := e.symm.trans hCfree
    cases this
  have lt : ∀ b o, (s2.heap.push { cls := .type "list", data := .seq ([] : List Value).toArray }).get? b = some o → b ≠ (s2.heap.push { cls := .type "list", data := .seq ([] : List Value).toArray }).objs.size := fun b o e => Nat.ne_of_lt (Heap.lt_size e)
  have ub := I4.base
  have fC : FpOk X pins H4 (s2.heap.push { cls := .type "list", data := .seq ([] : List Value).toArray }).objs.size := I3.fpOk (Nat.le_refl _) hCfree
  refine hU _ _ s' H4 m4 hn4 fC (fun h' hsb => ?_) q4
  have un : Un (frs X.stack) fp (upd H' s2.heap.objs.size (.lst [])) H4 (s2.heap.push { cls := .type "list", data := .seq ([] : List Value).toArray }) h' := {
    keep := fun b o e n x y => (hsb.2 b (lt b o e)).trans (ub.keep b o e n x y)
    slot := fun b o e n x y => let ⟨q, z⟩ := ub.slot b o e n x y; ⟨q, (hsb.2 b (lt b o e)).trans z⟩
    free := ub.free
    there := fun b o e y => let ⟨q, z⟩ := ub.there b o e y; ⟨q, (hsb.2 b (lt b o e)).trans z⟩
    tups := ub.tups
    frzs := ub.frzs
    tbls := ub.tbls }
  refine I3.call' (s' := { s' with heap := h' }) I4.os un (fun b u e => ?_) I4.bare fun b hb => ?_
  · refine (I4.hok b u e).stay (fun c v hcv q => (hsb.2 c ?_).trans q) (fun _ q => q) fun _ _ q => q
    rcases hcv with z | z
    · rw [z]; exact nC b u e
    · exact nC c _ z
  · obtain ⟨q0, q1, q2, q3, q4, q5⟩ := f3 b hb
    exact ⟨q3, q1, q4, q5⟩
theorem pe_compF (hc : X.calm = true) (hcell : ∀ x ∈ scope.names, x.2 ≠ .cell) (hkind : scope.kind = .function) (hnames : ∀ x ∈ scope.names, x.2 = .local → scope.names.lookup x.1 = some .local)
    (hfr : ∀ x ∈ scope.names, x.2 = .free → x.1 ∈ cps) (hN : caps.map (fun i => X.N[i]?) = cps.map some) (hX : ∀ x ∈ cps, X.env.scope.names.lookup x = some .cell ∧ scope.names.lookup x = some .free)
    (hsc : ∀ x ∈ cps, (relabel scope X.env).names.lookup x = some .cell ∨ (relabel scope X.env).names.lookup x = some .free)
    (hi : PI X tg iter wi) (hg : ∀ cl s3 H3 C fp pins, PG (cxF X scope cl (tgs ++ cps) s3 H3 C fp pins) tg g) (hq : ∀ cl s3 H3 C fp pins, PIfs (cxF X scope cl (tgs ++ cps) s3 H3 C fp pins) ifs tc) (he : ∀ cl s3 H3 C fp pins, PE (cxF X scope cl (tgs ++ cps) s3 H3 C fp pins) elt te)
    (hs : ∀ x, foldedSetIterable iter X.env x = pure x := by intro _; rfl) : PE X (.ListComp elt [⟨tg, iter, ifs, 0⟩] scope pos) (tCompF tgs.length caps wi g tc te) := by
  intro pins s σ H Q I h
  rw [eval_ListComp]
  exact compF_gen hc hcell hkind hnames hfr hN hX hsc hi hg hq he hs I h fun D C s' H4 m4 hn4 fC hI q4 => ⟨m4, hn4, fun h' hsb => ⟨.ref D, H4, hI h' hsb, rfl, q4⟩⟩
noncomputable def PU (X : Cx) (i : Nat) (x : Str) (pos' : Pos) (e : Expr) (te : TE) : Prop := ∀ (pins : List (Addr × Obj)) (s : Shared) (σ : St) (H : Hp) (Q : VK), Inv X pins σ H s → te σ H Q →
  wpAny (model X.prog X.w) X.A (evalThenUse e X.env (assign (.Name x pos') X.env)) (fun _ s' => ∃ v H', Inv X pins (σ.set i (some v)) H' s' ∧ Q v H') X.xe s
theorem PU.imp {X : Cx} {i : Nat} {x : Str} {pos' : Pos} {e : Expr} {t t' : TE} (h : PU X i x pos' e t) (f : ∀ σ H Q, t' σ H Q → t σ H Q) : PU X i x pos' e t' := fun pins s σ H Q I q => h pins s σ H Q I (f σ H Q q)
theorem ps_setU {i : Nat} {x : Str} {pos' pos : Pos} {e : Expr} {te : TE} (h : PU X i x pos' e te) (hs : swapsWith e (some (.Name x pos')) pos.line X.env = pure true) : PS X (.Assign [.Name x pos'] e pos) (tAsg te (gName i)) := by
  intro pins s σ H D I q
  rw [exec_Assign_Name_used _ _ _ _ hs]
  refine wpAny_bind (wpAny_standAt (wpAny_bind (thn (h pins s σ H _ I q) fun _ s1 ⟨v, H1, I1, q1⟩ => wpAny_pure ?_)))
  exact ⟨_, H1, I1, q1⟩
theorem pu_compF (hc : X.calm = true) (hcell : ∀ x ∈ scope.names, x.2 ≠ .cell) (hkind : scope.kind = .function) (hnames : ∀ x ∈ scope.names, x.2 = .local → scope.names.lookup x.1 = some .local)
    (hfr : ∀ x ∈ scope.names, x.2 = .free → x.1 ∈ cps) (hN : caps.map (fun i => X.N[i]?) = cps.map some) (hX : ∀ x ∈ cps, X.env.scope.names.lookup x = some .cell ∧ scope.names.lookup x = some .free)
    (hsc : ∀ x ∈ cps, (relabel scope X.env).names.lookup x = some .cell ∨ (relabel scope X.env).names.lookup x = some .free)
    (hi : PI X tg iter wi) (hg : ∀ cl s3 H3 C fp pins, PG (cxF X scope cl (tgs ++ cps) s3 H3 C fp pins) tg g) (hq : ∀ cl s3 H3 C fp pins, PIfs (cxF X scope cl (tgs ++ cps) s3 H3 C fp pins) ifs tc) (he : ∀ cl s3 H3 C fp pins, PE (cxF X scope cl (tgs ++ cps) s3 H3 C fp pins) elt te)
    {i : Nat} {x : Str} {pos' : Pos} (hNd : X.N.Nodup) (hxi : X.N[i]? = some x) (hx : Loc X.env.scope x) (hf : X.fn x = true ∨ X.env.scope.names.lookup x = some .local)
    (hs : ∀ x, foldedSetIterable iter X.env x = pure x := by intro _; rfl) : PU X i x pos' (.ListComp elt [⟨tg, iter, ifs, 0⟩] scope pos) (tCompF tgs.length caps wi g tc te) := by
  intro pins s σ H Q I h
  refine wpAny_bind (thn (compF_gen (use := some (assign (.Name x pos') X.env)) (Qf := fun _ s' => ∃ v H', Inv X pins (σ.set i (some v)) H' s' ∧ Q v H') hc hcell hkind hnames hfr hN hX hsc hi hg hq he hs I h fun D C s' H4 m4 hn4 fC hI q4 => ?_) fun _ s1 z => wpAny_pure z)
  have I4 : Inv X pins σ H4 s' := hI s'.heap (Heap.SameBut.refl _ _)
  show wpAny _ _ (assign (.Name x pos') X.env (.ref D)) _ _ s'
  refine wpAny_assign_Name (store_ok2 (v := .ref D) I4 hNd hxi hx rfl (fun s2 I2 ⟨a, hsb, ha⟩ => ?_) hf)
  have hac : C ≠ a := by
    rcases ha with ha | ha
    · rw [ha]; exact fC.2.1
    · exact Ne.symm (fC.2.2.2.2.1 x a ha)
  refine ⟨m4, hn4.sameBut hsb hac, fun h' hs' => ⟨.ref D, H4, ?_, q4⟩⟩
  exact I2.turned (t' := s2.toks) (fun b o hb e => hs'.extBut b o hb e) fC.1 fC.2.1 fC.2.2.2.1 fC.2.2.2.2.1 fC.2.2.2.2.2
end
end L2

namespace L2
open PySem
noncomputable def SI : Bool → Heap → Addr → Addr → Nat → Prop
  | true, h, it, a, i => h.IsListIter it a i
  | false, h, it, a, i => h.IsTupleIter it a i
noncomputable def SS : Bool → Heap → Addr → Array Value → Prop
  | true, h, a, xs => h.IsList a xs
  | false, h, a, xs => h.IsTuple a xs
theorem SI.at {k : Bool} {h h' : Heap} {it a : Addr} {i : Nat} (x : SI k h it a i) (f : ∀ o, h.get? it = some o → h'.get? it = some o) : SI k h' it a i := by
  cases k <;> (obtain ⟨o, e, r⟩ := x; exact ⟨o, f o e, r⟩)
theorem SS.at {k : Bool} {h h' : Heap} {a : Addr} {xs : Array Value} (x : SS k h a xs) (f : ∀ o, h.get? a = some o → h'.get? a = some o) : SS k h' a xs := by
  cases k <;> (obtain ⟨o, e, r⟩ := x; exact ⟨o, f o e, r⟩)
theorem SI.obj {k : Bool} {h : Heap} {it a : Addr} {i : Nat} (x : SI k h it a i) : ∃ o, h.get? it = some o ∧ ∀ v, o.data ≠ .cell v := by
  cases k <;> (obtain ⟨o, e, c, d⟩ := x; exact ⟨o, e, fun v z => by rw [d] at z; cases z⟩)
theorem SS.obj {k : Bool} {h : Heap} {a : Addr} {xs : Array Value} (x : SS k h a xs) : ∃ o, h.get? a = some o := by
  cases k <;> (obtain ⟨o, e, _⟩ := x; exact ⟨o, e⟩)
section
variable {prog : Program} {w : World} {A : Around} {E : Value → Shared → Prop} {s : Shared}
theorem tupleStep {p t : Addr} {n : Nat} {xs : Array Value} {v : Value} {Q : Value → Shared → Prop} (hp : s.heap.IsTupleIter p t n) (ht : s.heap.IsTuple t xs) (hv : xs[n]? = some v)
    (q : ∀ h', h'.IsTupleIter p t (n + 1) → Heap.SameBut p s.heap h' → Q v { s with heap := h' }) : wpAny (model prog w) A (Builtin.SmallTypes.nextOf (.ref p)) Q E s := by
  obtain ⟨ob, e1, e2, e3⟩ := id hp
  obtain ⟨ot, f1, _, cap, f2⟩ := ht
  unfold Builtin.SmallTypes.nextOf
  refine wpAny_bind (wpAny_callSpecial?_slot (name := Str.ofString "__next__") hp.typeIs F.slot_tuple_iterator_next (wpAny_call_entry F.slot_tuple_iterator_next hp.typeIs F.entry_tuple_iterator_next ?_ (F.args_tuple_iterator_next_1 _)))
  show wpAny _ _ (field (.ref p) 0 >>= _) _ _ s
  refine wpAny_bind (wpAny_field e1 e3 (x := .ref t) rfl ?_)
  show wpAny _ _ (if (Value.ref t == Value.none) = true then _ else _) _ _ s
  rw [if_neg (fun z : (Value.ref t == Value.none) = true => nomatch z)]
  show wpAny _ _ (field (.ref p) 1 >>= _) _ _ s
  refine wpAny_bind (wpAny_field e1 e3 (x := .int n 0) rfl ?_)
  show wpAny _ _ (seqItems? (.ref t) >>= _) _ _ s
  refine wpAny_bind (wpAny_seqItems f1 f2 ?_)
  simp only [Int.toNat_natCast, hv]
  refine wpAny_bind (wpAny_setField e1 e3 (by simp) (wpAny_pure ⟨v, rfl, wpAny_pure (q _ ⟨_, Heap.get?_update_self _ e1 (Obj.isFreed_of_fields (Obj.data_mapFields e3 _)), (Obj.cls_mapFields ..).trans e2, ?_⟩ (Heap.SameBut.update ..))⟩))
  rw [Obj.data_mapFields e3]; simp [rawInt]
theorem tupleEnd {p t : Addr} {n : Nat} {xs : Array Value} {Q : Value → Shared → Prop} (hA : A.handled = none) (hp : s.heap.IsTupleIter p t n) (ht : s.heap.IsTuple t xs) (hv : xs[n]? = none)
    (q : ∀ h' e, Heap.ExtBut p s.heap h' → (∃ o, h'.get? e = some o ∧ o.cls = .type "StopIteration") → E (.ref e) { s with heap := h' }) : wpAny (model prog w) A (Builtin.SmallTypes.nextOf (.ref p)) Q E s := by
  obtain ⟨ob, e1, e2, e3⟩ := id hp
  obtain ⟨ot, f1, _, cap, f2⟩ := ht
  unfold Builtin.SmallTypes.nextOf
  refine wpAny_bind (wpAny_callSpecial?_slot (name := Str.ofString "__next__") hp.typeIs F.slot_tuple_iterator_next (wpAny_call_entry F.slot_tuple_iterator_next hp.typeIs F.entry_tuple_iterator_next ?_ (F.args_tuple_iterator_next_1 _)))
  show wpAny _ _ (field (.ref p) 0 >>= _) _ _ s
  refine wpAny_bind (wpAny_field e1 e3 (x := .ref t) rfl ?_)
  show wpAny _ _ (if (Value.ref t == Value.none) = true then _ else _) _ _ s
  rw [if_neg (fun z : (Value.ref t == Value.none) = true => nomatch z)]
  show wpAny _ _ (field (.ref p) 1 >>= _) _ _ s
  refine wpAny_bind (wpAny_field e1 e3 (x := .int n 0) rfl ?_)
  show wpAny _ _ (seqItems? (.ref t) >>= _) _ _ s
  refine wpAny_bind (wpAny_seqItems f1 f2 ?_)
  simp only [Int.toNat_natCast, hv]
  refine wpAny_bind (wpAny_rule (wpAny_bind (wpAny_setField e1 e3 (by simp) ?_)))
  show wpAny _ _ (newExc (.type "StopIteration") [] >>= _) _ _ _
  refine wpAny_bind ?_; simp only [newExc, newTuple]
  refine wpAny_bind (wpAny_newObj_type ?_ (by size_fits)); refine wpAny_bind (m := firstArgMember _ _) (wpAny_of_eq (a := Value.none) (by first | rfl | (simp only [firstArgMember]; rfl)) ?_)
  refine wpAny_newObj_type ?_ (by size_fits); simp only [raiseNew]; refine wpAny_bind (wpAny_handled ?_)
  first | rw [show A.in1.handled = none from hA] | rw [hA]
  refine wpAny_bind (wpAny_pure (wpAny_throw (q _ _ (((Heap.SameBut.update ..).extBut.push _).push _) ⟨_, Heap.get?_push_size _ rfl, rfl⟩)))
theorem seqStep {k : Bool} {p a : Addr} {n : Nat} {xs : Array Value} {v : Value} {Q : Value → Shared → Prop} (hp : SI k s.heap p a n) (ha : SS k s.heap a xs) (hv : xs[n]? = some v)
    (q : ∀ h', SI k h' p a (n + 1) → Heap.SameBut p s.heap h' → Q v { s with heap := h' }) : wpAny (model prog w) A (Builtin.SmallTypes.nextOf (.ref p)) Q E s := by
  cases k with
  | true => exact wpAny_nextOf_list_item hp ha hv q
  | false => exact tupleStep hp ha hv q
theorem seqEnd {k : Bool} {p a : Addr} {n : Nat} {xs : Array Value} {Q : Value → Shared → Prop} (hA : A.handled = none) (hp : SI k s.heap p a n) (ha : SS k s.heap a xs) (hv : xs[n]? = none)
    (q : ∀ h' e, Heap.ExtBut p s.heap h' → (∃ o, h'.get? e = some o ∧ o.cls = .type "StopIteration") → E (.ref e) { s with heap := h' }) : wpAny (model prog w) A (Builtin.SmallTypes.nextOf (.ref p)) Q E s := by
  cases k with
  | true => exact wpAny_nextOf_list_end hA hp ha hv q
  | false => exact tupleEnd hA hp ha hv q
theorem SI.but {k : Bool} {h h' : Heap} {it a b : Addr} {i : Nat} (x : SI k h it a i) (e : Heap.ExtBut b h h') (n : it ≠ b) : SI k h' it a i := x.at fun o z => e it o n z
theorem SS.but {k : Bool} {h h' : Heap} {a b : Addr} {xs : Array Value} (x : SS k h a xs) (e : Heap.ExtBut b h h') (n : a ≠ b) : SS k h' a xs := x.at fun o z => e a o n z
end
noncomputable abbrev itO (k : Bool) (a : Addr) : Obj := { cls := .type (if k then "list_iterator" else "tuple_iterator"), data := .fields #[.ref a, .int 0 0] }
noncomputable abbrev zA (k1 : Bool) (h : Heap) (l1 : Addr) : Heap := h.push (itO k1 l1)
noncomputable abbrev zB (k1 k2 : Bool) (h : Heap) (l1 l2 : Addr) : Heap := (zA k1 h l1).push (itO k2 l2)
noncomputable abbrev zC (k1 k2 : Bool) (h : Heap) (l1 l2 : Addr) : Heap := (zB k1 k2 h l1 l2).push { cls := .type "tuple", data := .seq #[.ref h.objs.size, .ref (zA k1 h l1).objs.size] }
noncomputable abbrev zD (k1 k2 : Bool) (h : Heap) (l1 l2 : Addr) : Heap := (zC k1 k2 h l1 l2).push { cls := .type "tuple", data := .seq #[.none, .none] }
noncomputable abbrev zE (k1 k2 : Bool) (h : Heap) (l1 l2 : Addr) : Heap := (zD k1 k2 h l1 l2).push { cls := .type "zip", data := .fields #[.none, .bool false, .bool false, .ref (zB k1 k2 h l1 l2).objs.size, .ref (zC k1 k2 h l1 l2).objs.size] }
section
variable {prog : Program} {w : World} {A : Around} {E : Value → Shared → Prop} {s : Shared}
end
end L2

namespace L2
open PySem PySem.Spec PyProof.Rows
section
variable {X : Cx} {pins : List (Addr × Obj)} {σ : St} {H : Hp} {s : Shared} {h' : Heap}
theorem Inv.turnedN {t' : Nat} {ch : List Addr} (I : Inv X pins σ H s) (k : ∀ b o, b ∉ ch → s.heap.get? b = some o → h'.get? b = some o) (hf : ∀ b ∈ ch, FpOk X pins H b) : Inv X pins σ H { s with heap := h', toks := t' } := by
  have nit : ∀ b u, H b = some u → b ∉ ch := fun b u e z => by rw [(hf b z).1] at e; cases e
  refine I.step (g' := s.gens) (d' := s.drawn) (ch := ch) (fun b hb => ?_) (fun b o _ _ hc e _ => k b o hc e) (fun b o _ _ hc e _ => ⟨o.slots, k b o hc e⟩) (fun _ _ _ _ n => n)
    (fun b o hc e => ⟨o, k b o hc e⟩) (fun _ _ e => e) (fun _ _ _ e => e) (fun b ps e => ⟨#[], by rw [e]; simp⟩) (fun m hm => ?_) (fun b u e => ?_) I.bare
  · obtain ⟨_, q1, _, q3, q4, q5⟩ := hf b hb
    exact ⟨q3, q1, q4, q5⟩
  · obtain ⟨o, es, ep, ho, r⟩ := hm
    exact ⟨o, es, ep, k _ o (fun z => (hf _ z).2.1 rfl) ho, r⟩
  · refine (I.hok b u e).stay (fun c v hc q => k c v ?_ q) (fun _ q => q) fun _ _ q => q
    rcases hc with z | z
    · rw [z]; exact nit b u e
    · exact nit c _ z
end
noncomputable def SqK (K : PySem.W.Frag) (k : Bool) (H : Hp) (a : Addr) (xs : List V) : Prop := if k = true then SqL K H a xs else SqT K H a xs
theorem Inv.sqk {X : Cx} {pins : List (Addr × Obj)} {σ : St} {H : Hp} {s : Shared} (I : Inv X pins σ H s) {k : Bool} {a : Addr} {xs : List V} (h : SqK X.K k H a xs) : ∃ its : List Value, Vals xs its ∧ SS k s.heap a its.toArray := by
  cases k with
  | true =>
    obtain ⟨its, r, p, _⟩ := I.list (show SqL X.K H a xs from h)
    exact ⟨its, r, p.isList⟩
  | false =>
    obtain ⟨its, r, p, _⟩ := I.tuple (show SqT X.K H a xs from h)
    exact ⟨its, r, p⟩
theorem Inv.sqk_inj {X : Cx} {pins : List (Addr × Obj)} {σ : St} {H : Hp} {s : Shared} (I : Inv X pins σ H s) {k : Bool} {a : Addr} {xs ys : List V} (h : SqK X.K k H a xs) (h2 : SqK X.K k H a ys) : xs = ys := by
  cases k with
  | true => exact I.list_inj (show SqL X.K H a xs from h) (show SqL X.K H a ys from h2)
  | false => exact I.tuple_inj (show SqT X.K H a xs from h) (show SqT X.K H a ys from h2)
end L2

namespace L2
open PySem PySem.Spec PyProof.Rows
section
variable {X : Cx} {pins : List (Addr × Obj)} {σ : St} {H : Hp} {s : Shared} {p : Addr}
theorem Inv.swap {a b : HO} (I : Inv X pins σ H s) (hp : H p = some a) (ha : (∀ x, a ≠ .own x) ∧ ∀ xs, a ≠ .tup xs) (h1 : ∀ xs, X.H₀ p ≠ some (.tup xs)) (h2 : ∀ o u, X.H₀ p ≠ some (.frz o u)) (h3 : ∀ ps, X.H₀ p ≠ some (.tbl ps))
    (new : ObjOk X.prog X.w H s.heap p b) : Inv X pins σ (upd H p b) s := by
  have ne : ∀ {c : Addr}, H c = none → c ≠ p := fun {c} q z => by subst z; rw [hp] at q; cases q
  have st : ∀ {c : Addr} {o : HO}, ObjOk X.prog X.w H s.heap c o → ObjOk X.prog X.w (upd H p b) s.heap c o := fun {c o} x =>
    x.stay (fun _ _ _ q => q) (fun d q => by
      have : d ≠ p := by intro z; subst z; rw [hp] at q; cases q; exact ha.1 _ rfl
      rw [upd_ne this]; exact q) fun d xs q => by
      have : d ≠ p := by intro z; subst z; rw [hp] at q; cases q; exact ha.2 _ rfl
      rw [upd_ne this]; exact q
  refine ⟨I.ok, I.os, I.bare, ⟨I.base.keep, I.base.slot, fun c o e n x => ?_, I.base.there, fun c xs q => ?_, fun c o u q => ?_, fun c ps q => ?_⟩, I.loc, I.cell, ?_, fun x c e => ?_, fun q hq => ?_, fun c o q => ?_, I.len⟩
  · have := I.base.free c o e n x
    rw [upd_ne (ne this)]; exact this
  · have : c ≠ p := by intro z; subst z; exact h1 xs q
    rw [upd_ne this]; exact I.base.tups c xs q
  · have : c ≠ p := by intro z; subst z; exact h2 o u q
    rw [upd_ne this]; exact I.base.frzs c o u q
  · have : c ≠ p := by intro z; subst z; exact h3 ps q
    rw [upd_ne this]; exact I.base.tbls c ps q
  · rw [upd_ne (ne I.free)]; exact I.free
  · rw [upd_ne (ne (I.freeC x c e))]; exact I.freeC x c e
  · obtain ⟨a1, a2, a3, a4, a5⟩ := I.pin q hq
    exact ⟨a1, by rw [upd_ne (ne a2)]; exact a2, a3, a4, a5⟩
  · by_cases z : c = p
    · subst z; rw [upd_same] at q; cases q; exact st new
    · rw [upd_ne z] at q; exact st (I.hok c o q)
theorem Inv.freeze {xs : List V} (I : Inv X pins σ H s) (hp : H p = some (.lst xs)) : ∃ o, Inv X pins σ (upd H p (.frz o (.lst xs))) s := by
  have k := I.hok p _ hp
  obtain ⟨z, its, n, r, e⟩ := id k
  refine ⟨_, I.swap hp ⟨fun _ q => (nomatch q), fun _ q => (nomatch q)⟩ (fun ys q => ?_) (fun o u q => ?_) (fun ps q => ?_) ⟨e, k⟩⟩
  · rw [I.base.tups p ys q] at hp; cases hp
  · rw [I.base.frzs p o u q] at hp; cases hp
  · obtain ⟨more, q⟩ := I.base.tbls p ps q; rw [q] at hp; cases hp
structure Loose (X : Cx) (p : Addr) : Prop where
  t : ∀ xs, X.H₀ p ≠ some (.tup xs)
  f : ∀ o u, X.H₀ p ≠ some (.frz o u)
  b : ∀ ps, X.H₀ p ≠ some (.tbl ps)
theorem Inv.loose {xs : List V} (I : Inv X pins σ H s) (hp : H p = some (.lst xs)) : Loose X p :=
  ⟨fun ys q => (by rw [I.base.tups p ys q] at hp; cases hp), fun o u q => (by rw [I.base.frzs p o u q] at hp; cases hp), fun ps q => (by obtain ⟨more, q⟩ := I.base.tbls p ps q; rw [q] at hp; cases hp)⟩
noncomputable def tFrz (t : TE) : TE := fun σ H Q => t σ H fun v H1 => ∃ p xs, v = .ref p ∧ H1 p = some (.lst xs) ∧ ∀ o, Q v (upd H1 p (.frz o (.lst xs)))
theorem pe_frz {x : Expr} {t : TE} (h : PE X x t) : PE X x (tFrz t) := fun pins s σ H Q I q =>
  wpAny_mono (h pins s σ H _ I q) (fun u s1 zz => by
    obtain ⟨v, H1, I1, r, p, xs, e, hp, q1⟩ := zz
    obtain ⟨o, I2⟩ := I1.freeze hp
    exact ⟨v, _, I2, r, q1 o⟩) fun _ _ z => z
theorem pu_frz {i : Nat} {y : Str} {pos' : Pos} {x : Expr} {t : TE} (h : PU X i y pos' x t) : PU X i y pos' x (tFrz t) := fun pins s σ H Q I q =>
  wpAny_mono (h pins s σ H _ I q) (fun u s1 zz => by
    obtain ⟨v, H1, I1, p, xs, e, hp, q1⟩ := zz
    obtain ⟨o, I2⟩ := I1.freeze hp
    exact ⟨v, _, I2, q1 o⟩) fun _ _ z => z
noncomputable def tFrzM (t : TE) : TE := fun σ H Q => t σ H fun v H1 => (∃ p xs, v = .ref p ∧ H1 p = some (.lst xs) ∧ ∀ o, Q v (upd H1 p (.frz o (.lst xs)))) ∨ Q v H1
theorem pe_frzM {x : Expr} {t : TE} (h : PE X x t) : PE X x (tFrzM t) := fun pins s σ H Q I q =>
  wpAny_mono (h pins s σ H _ I q) (fun u s1 zz => by
    obtain ⟨v, H1, I1, r, z⟩ := zz
    rcases z with ⟨p, xs, e, hp, q1⟩ | q1
    · obtain ⟨o, I2⟩ := I1.freeze hp
      exact ⟨v, _, I2, r, q1 o⟩
    · exact ⟨v, H1, I1, r, q1⟩) fun _ _ z => z
noncomputable def hidO (p : Addr) (xs : List V) : HO := .ext fun h => xs.length ≤ sizeLine ∧ ∃ (its : List Value) (n : Nat), Vals xs its ∧ h.get? p = some { cls := .type "list", data := .seq its.toArray n }
theorem Inv.hide {xs : List V} (I : Inv X pins σ H s) (hp : H p = some (.lst xs)) : Inv X pins σ (upd H p (hidO p xs)) s := by
  have k := I.hok p _ hp
  have l := I.loose hp
  obtain ⟨z, its, n, r, e⟩ := id k
  exact I.swap hp ⟨fun _ q => (nomatch q), fun _ q => (nomatch q)⟩ l.t l.f l.b ⟨⟨z, its, n, r, e⟩, ⟨_, e⟩, fun h1 h2 ⟨z, its, n, r, e⟩ k => ⟨z, its, n, r, k _ e⟩⟩
theorem Inv.show' {xs : List V} (I : Inv X pins σ H s) (l : Loose X p) (hp : H p = some (hidO p xs)) : Inv X pins σ (upd H p (.lst xs)) s := by
  obtain ⟨k, _, _⟩ := I.hok p _ hp
  exact I.swap hp ⟨fun _ q => (nomatch q), fun _ q => (nomatch q)⟩ l.t l.f l.b k
noncomputable def tHide (p : Addr) (t : TE) : TE := fun σ H Q => ∃ xs, H p = some (.lst xs) ∧ t σ (upd H p (hidO p xs)) fun v H1 => H1 p = some (hidO p xs) ∧ Q v (upd H1 p (.lst xs))
theorem pe_hide {x : Expr} {t : TE} (h : PE X x t) : PE X x fun σ H Q => ∃ p, tHide p t σ H Q := fun pins s σ H Q I ⟨p, xs, hp, q⟩ =>
  wpAny_mono (h pins s σ _ _ (I.hide hp) q) (fun u s1 ⟨v, H1, I2, r, hp1, q1⟩ => ⟨v, _, I2.show' (I.loose hp) hp1, r, q1⟩) fun _ _ z => z
noncomputable def tHideT (p : Addr) (t : TT) : TT := fun σ H Q => ∃ xs, H p = some (.lst xs) ∧ t σ (upd H p (hidO p xs)) fun v H1 => H1 p = some (hidO p xs) ∧ Q v (upd H1 p (.lst xs))
theorem pifs_hide {ifs : List Expr} {t : TT} (h : PIfs X ifs t) : PIfs X ifs fun σ H Q => ∃ p, tHideT p t σ H Q := fun pins s σ H Q I ⟨p, xs, hp, q⟩ =>
  wpAny_mono (h pins s σ _ _ (I.hide hp) q) (fun u s1 ⟨H1, I2, hp1, q1⟩ => ⟨_, I2.show' (I.loose hp) hp1, q1⟩) fun _ _ z => z
noncomputable def tHideG (p : Addr) (g : TG) : TG := fun v σ H Q => ∃ xs, H p = some (.lst xs) ∧ g v σ (upd H p (hidO p xs)) fun σ1 H1 => H1 p = some (hidO p xs) ∧ Q σ1 (upd H1 p (.lst xs))
theorem pg_hide {tg : Expr} {g : TG} (h : PG X tg g) : PG X tg fun v σ H Q => ∃ p, tHideG p g v σ H Q := fun pins s σ H v u Q I r ⟨p, xs, hp, q⟩ =>
  wpAny_mono (h pins s σ _ v u _ (I.hide hp) r q) (fun u s1 ⟨σ1, H1, I2, hp1, q1⟩ => ⟨σ1, _, I2.show' (I.loose hp) hp1, q1⟩) fun _ _ z => z
end
section
variable {X : Cx} {pos : Pos}
end
end L2

namespace L2
open PySem PySem.Spec PyProof.Rows
section
variable {X : Cx} {e : Expr} {te : TE} {st : Expr} {ts : TO} {pos p2 : Pos}
end
end L2

namespace L2
open PySem PySem.Spec PyProof.Rows
theorem lri_nolen : typeLookup (.type "list_reverseiterator") "__len__" = pure none := by rw [typeLookup_type, builtinLookup_eq_fast]; kernel_rfl
theorem lri_ishint : typeLookup (.type "list_reverseiterator") "__length_hint__" = pure (some (.builtin "list_reverseiterator.__length_hint__")) := by rw [typeLookup_type, builtinLookup_eq_fast]; kernel_rfl
section
variable {prog : Program} {w : World} {A : Around} {E : Value → Shared → Prop} {s : Shared}
theorem rev_hint {it l : Addr} {i : Int} {Q : Bool → Shared → Prop} (hit : s.heap.IsRevIter it l i) (h : Q false s) : wpAny (model prog w) A (Builtin.List.listLengthHint (.ref it)) Q E s := by
  have hT := hit.typeIs
  unfold Builtin.List.listLengthHint
  refine wpAny_bind (wpAny_specialOf hT lri_nolen ?_)
  show wpAny _ A (specialOf (Value.ref it) (Str.ofString "__length_hint__") >>= _) Q E s
  refine wpAny_bind (wpAny_specialOf hT lri_ishint ?_)
  generalize hv : ("list_reverseiterator.__length_hint__" : String) = nm
  wp_delta
  rw [show splitId nm = some ("list_reverseiterator", "__length_hint__") by subst hv; decide +kernel]
  subst hv
  refine wpAny_bind (wpAny_isInstance (T := "list_reverseiterator") (b := true) hT (by rw [isSubtype_type]; kernel_rfl) ?_)
  refine wpAny_ite_split (fun z => absurd z (by decide)) (fun _ => ?_)
  refine wpAny_ite_split (fun _ => ?_) (fun z => absurd (by decide +kernel) z)
  refine wpAny_ite_split (fun z => absurd z (by decide)) (fun _ => ?_)
  exact wpAny_pure h
noncomputable abbrev RevAt (items : Array Value) : Nat → Value → Prop := fun j x => items[items.size - 1 - j]? = some x
noncomputable abbrev Fin2 (prog : Program) (w : World) (A : Around) (R : Result → Shared → Prop) : Fin → Shared → Prop := fun z s' => match z with | .done f => R (.ok f) s' | .again c' => c'.quiet = true ∧ codeAny (model prog w) A c' R s'
theorem rev_extend {R : Result → Shared → Prop} {it l S : Addr} {items : Array Value} {c₀ : Nat} (hh : A.handled = none) (hit : s.heap.IsRevIter it l ((items.size : Int) - 1)) (hl : s.heap.IsList l items) (hne : l ≠ it) (hi : S ≠ it) (hj : S ≠ l) (hz : items.size ≤ sizeLine)
    (hS : s.heap.get? S = some { cls := .type "list", data := .seq #[] c₀ })
    (fin : ∀ h' tk acc c1, (∀ b o, b ≠ S → b ≠ it → s.heap.get? b = some o → h'.get? b = some o) → h'.get? S = some { cls := .type "list", dict := none, data := .seq acc c1, slots := #[] } → ItemsOf (RevAt items) acc items.size → R (.ok (.ret .none)) { s with heap := h', toks := tk }) :
    wpAny (model prog w) A.in1 (Builtin.List.listExtendWith (.ref S) (.ref it) .none) (Fin2 prog w A R) (fun e s' => R (.error e) s') s := by
  have V := (Walks.listRev (prog := prog) (w := w) (A := A.in1) hh it l hne items).toS
  have nf : S ∉ [it, l] := fun q => by
    rcases List.mem_cons.mp q with q | q
    · exact hi q
    · exact hj (List.mem_singleton.mp q)
  unfold Builtin.List.listExtendWith
  refine wpAny_bind (wpAny_typeOf hit.typeIs ?_)
  have n1 : Builtin.List.listSameRef (.ref S) (.ref it) = false := by simp [Builtin.List.listSameRef, hi]
  have n2 : (Value.type "list_reverseiterator" == Value.type "list") = false := by decide
  have n3 : (Value.type "list_reverseiterator" == Value.type "tuple") = false := by decide
  simp only [n1, n2, n3, Bool.or_false, Bool.false_eq_true, if_false]
  refine wpAny_bind (wpAny_pyIter_revIter hit (wpAny_bind (wpAny_holding (rev_hint hit ?_))))
  refine wpAny_ite_split (fun z => absurd z (by decide +kernel)) (fun _ => ?_)
  refine wpAny_pure ⟨plainId_quiet F.plain_extend_loop _, ?_⟩
  have h0 : ((items.size : Int) - 1 - ((0 : Nat) : Int)) = (items.size : Int) - 1 := by omega
  refine codeAny_extend_loopS V hz S nf .none items.size 0 s #[] c₀ rfl (Nat.zero_le _) ⟨Nat.zero_le _, by rw [h0]; exact hit, hl⟩ hS (ItemsOf.nil _) fun s2 acc c1 mv g1 g2 => ?_
  rw [Moved.eq_with mv]
  exact fin s2.heap s2.toks acc c1 (fun b o q1 q2 q3 => mv.heap b o (fun q => (List.mem_cons.mp q).elim q1 fun q' => q2 (List.mem_singleton.mp q')) q3) g1 g2
theorem rev_init {R : Result → Shared → Prop} {it l S : Addr} {items : Array Value} (hh : A.handled = none) (hit : s.heap.IsRevIter it l ((items.size : Int) - 1)) (hl : s.heap.IsList l items) (hne : l ≠ it) (hi : S ≠ it) (hj : S ≠ l) (hz : items.size ≤ sizeLine)
    (hS : s.heap.get? S = some { cls := .type "list", data := .seq #[] })
    (fin : ∀ h' tk acc c1, (∀ b o, b ≠ S → b ≠ it → s.heap.get? b = some o → h'.get? b = some o) → h'.get? S = some { cls := .type "list", dict := none, data := .seq acc c1, slots := #[] } → ItemsOf (RevAt items) acc items.size → R (.ok (.ret .none)) { s with heap := h', toks := tk }) :
    wpAny (model prog w) A.in1 (Builtin.«list.__init__» ⟨[.ref S, .ref it], []⟩) (Fin2 prog w A R) (fun e s' => R (.error e) s') s := by
  show wpAny _ A.in1 (Builtin.List.listItems (.ref S) >>= fun was => Builtin.List.listUpdate (.ref S) (fun _ => #[]) >>= fun _ => letGo was.toList.reverse >>= fun _ => Builtin.List.listExtendWith (.ref S) (.ref it) .none) (Fin2 prog w A R) (fun e s' => R (.error e) s') s
  unfold Builtin.List.listItems
  refine wpAny_bind (wpAny_bind (wpAny_seqItems hS rfl (wpAny_pure ?_)))
  show wpAny _ A.in1 (updateSeq S (fun _ => #[]) >>= fun _ => letGo (#[] : Array Value).toList.reverse >>= fun _ => Builtin.List.listExtendWith (.ref S) (.ref it) .none) (Fin2 prog w A R) (fun e s' => R (.error e) s') s
  refine wpAny_bind (wpAny_updateSeq hS rfl (wpAny_bind (wpAny_letGo ?_)))
  have g := Heap.get?_update_self (Obj.mapSeq fun _ => (#[] : Array Value)) hS rfl
  have oth : ∀ b o, b ≠ S → s.heap.get? b = some o → (s.heap.update S (Obj.mapSeq fun _ => (#[] : Array Value))).get? b = some o := fun b o q1 q2 => (Heap.get?_update_other _ _ (Ne.symm q1)).trans q2
  refine rev_extend hh (hit.at fun o e => oth it o (Ne.symm hi) e) (hl.at fun o e => oth l o (Ne.symm hj) e) hne hi hj hz g fun h' tk acc c1 q1 q2 q3 => ?_
  exact fin h' tk acc c1 (fun b o b1 b2 e => q1 b o b1 b2 (oth b o b1 e)) q2 q3
theorem call_list_rev {it l : Addr} {items : Array Value} {Q : Value → Shared → Prop} (hh : A.handled = none) (hit : s.heap.IsRevIter it l ((items.size : Int) - 1)) (hl : s.heap.IsList l items) (hne : l ≠ it) (hz : items.size ≤ sizeLine)
    (fin : ∀ h' tk acc c1, (∀ b o, b ≠ it → s.heap.get? b = some o → h'.get? b = some o) → h'.get? s.heap.objs.size = some { cls := .type "list", dict := none, data := .seq acc c1, slots := #[] } → ItemsOf (RevAt items) acc items.size → Q (.ref s.heap.objs.size) { s with heap := h', toks := tk }) :
    wpAny (model prog w) A (call (.type "list") [.ref it]) Q E s := by
  obtain ⟨oi, hoi, _⟩ := id hit
  obtain ⟨ol, hol, _⟩ := id hl
  have i1 : s.heap.objs.size ≠ it := Nat.ne_of_gt (Heap.lt_size hoi)
  have i2 : s.heap.objs.size ≠ l := Nat.ne_of_gt (Heap.lt_size hol)
  let h1 := s.heap.push { cls := .type "list", data := .seq #[] }
  have up : ∀ b o, s.heap.get? b = some o → h1.get? b = some o := fun b o e => Heap.get?_push_of_some _ e
  have gS : h1.get? s.heap.objs.size = some { cls := .type "list", data := .seq #[] } := Heap.get?_push_size _ rfl
  refine callType_codes (Q₁ := fun x s1 => x = .ref s.heap.objs.size ∧ s1 = { s with heap := h1 }) F.called_list (F.typeCall_list_1 _) F.entry_list_init (code_list_new _ ⟨rfl, rfl⟩) ?_
  rintro x s1 ⟨rfl, rfl⟩
  refine ⟨⟨_, gS, rfl⟩, F.args_list_init_2 _ _, rev_init (A := A.in1) hh (hit.at fun o e => up it o e) (hl.at fun o e => up l o e) hne i1 i2 hz gS fun h' tk acc c1 q1 q2 q3 => ?_⟩
  exact ⟨rfl, fin h' tk acc c1 (fun b o b1 e => q1 b o (Nat.ne_of_lt (Heap.lt_size e)) b1 (up b o e)) q2 q3⟩
end
section
variable {X : Cx}
noncomputable def revφ (p a : Addr) (n : Nat) : Heap → Prop := fun h => h.get? p = some (revObj a ((n : Int) - 1))
noncomputable def dropH (H : Hp) (a : Addr) : Hp := fun b => if b = a then none else H b
theorem dropH_ne {H : Hp} {a b : Addr} (h : b ≠ a) : dropH H a b = H b := if_neg h
theorem dropH_same {H : Hp} {a : Addr} : dropH H a a = none := if_pos rfl
theorem cr_reversed : CallR X (.type "reversed") (fun xs H Q => ∃ a ys, xs = [.ref a] ∧ SqL X.K H a ys ∧ ∀ p, H p = none → p ≠ a → X.s₀.heap.objs.size ≤ p → Q (.ref p) (upd H p (.ext (revφ p a ys.length)))) := by
  intro pins s σ H xs us Q I rv h
  obtain ⟨a, ys, rfl, sq, q⟩ := h
  obtain ⟨u, rfl, ru⟩ := rv.one
  cases ru
  obtain ⟨its, r, ht, hz⟩ := I.list sq
  have hl := r.length
  obtain ⟨o, ho, _⟩ := id ht.isList
  refine call_reversed_list ht.isList ⟨.ref s.heap.objs.size, _, I.laid (t' := s.toks) (o := .ext (revφ s.heap.objs.size a ys.length)) (fun b u e => Heap.get?_push_of_some _ e) (Nat.le_refl _) ?_, rfl, q _ I.fresh (Nat.ne_of_gt (Heap.lt_size ho)) I.sz⟩
  have e : (s.heap.push (revObj a ((its.toArray.size : Int) - 1))).get? s.heap.objs.size = some (revObj a ((ys.length : Int) - 1)) := by
    rw [Heap.get?_push_size _ rfl, hl]; rfl
  exact ⟨e, ⟨_, e⟩, fun h1 h2 z k => k _ z⟩
theorem rev_items {items : Array Value} {acc : Array Value} (h : ItemsOf (RevAt items) acc items.size) : acc.toList = items.toList.reverse := by
  obtain ⟨h1, h2⟩ := h
  apply List.ext_getElem
  · rw [List.length_reverse, Array.length_toList, Array.length_toList, h1]
  · intro j g1 g2
    rw [Array.length_toList] at g1
    have e := h2 j acc[j] (Array.getElem?_eq_getElem g1)
    have e2 : items.size - 1 - j < items.size := by omega
    have e3 : items[items.size - 1 - j]? = some (items[items.size - 1 - j]'e2) := Array.getElem?_eq_getElem e2
    have e4 : items[items.size - 1 - j]'e2 = acc[j] := Option.some.inj (e3.symm.trans e)
    rw [List.getElem_reverse, Array.getElem_toList, Array.getElem_toList, ← e4]
    congr 1
theorem cr_listRev (hc : X.calm = true) : CallR X (.type "list") (fun xs H Q => ∃ it a ys, xs = [.ref it] ∧ H it = some (.ext (revφ it a ys.length)) ∧ SqL X.K H a ys ∧ a ≠ it ∧ X.s₀.heap.objs.size ≤ it ∧ ∀ p, H p = none → Q (.ref p) (dropH (upd H p (.lst ys.reverse)) it)) := by
  intro pins s σ H xs us Q I rv h
  obtain ⟨it, a, ys, rfl, hit, sq, hne, hge, q⟩ := h
  obtain ⟨u, rfl, ru⟩ := rv.one
  cases ru
  obtain ⟨its, r, ht, hz⟩ := I.list sq
  have hl := r.length
  have hob : s.heap.get? it = some (revObj a ((ys.length : Int) - 1)) := (I.hok it _ hit).1
  have hsz : its.toArray.size = ys.length := by rw [List.size_toArray]; exact hl.symm
  refine call_list_rev (I.ok.hd hc) ⟨_, hob, rfl, by rw [hsz]; rfl⟩ ht.isList hne (by rw [hsz]; exact hz) fun h' tk acc c1 k1 k2 k3 => ?_
  have hacc := rev_items k3
  have fr := I.fresh
  have ex : ∀ {b o}, s.heap.get? b = some o → b ≠ s.heap.objs.size := fun e => Nat.ne_of_lt (Heap.lt_size e)
  have old : ∀ {b u}, H b = some u → b ≠ s.heap.objs.size := fun {b u} e z => by rw [z, fr] at e; cases e
  have nit : ∀ {b u}, H b = some u → u ≠ .ext (revφ it a ys.length) → b ≠ it := fun {b u} e n z => by
    rw [z, hit] at e; exact n (Option.some.inj e).symm
  have here : ∀ {b}, b ≠ s.heap.objs.size → b ≠ it → dropH (upd H s.heap.objs.size (.lst ys.reverse)) it b = H b := fun b1 b2 => by rw [dropH_ne b2, upd_ne b1]
  have un : Un (frs X.stack) [it] H (dropH (upd H s.heap.objs.size (.lst ys.reverse)) it) s.heap h' := {
    keep := fun b o e n _ hx => k1 b o (fun z => hx (by simp [z])) e
    slot := fun b o e n _ hx => ⟨o.slots, k1 b o (fun z => hx (by simp [z])) e⟩
    free := fun b o e n hx => by rw [here (ex e) (fun z => hx (by simp [z]))]; exact n
    there := fun b o e hx => ⟨o, k1 b o (fun z => hx (by simp [z])) e⟩
    tups := fun b xs e => by rw [here (old e) (nit e (by simp))]; exact e
    frzs := fun b o u e => by rw [here (old e) (nit e (by simp))]; exact e
    tbls := fun b ps e => ⟨#[], by rw [here (old e) (nit e (by simp))]; simpa using e⟩ }
  have ok : HOk X.prog X.w (dropH (upd H s.heap.objs.size (.lst ys.reverse)) it) h' := fun b u e => by
    have b2 : b ≠ it := fun z => by rw [z, dropH_same] at e; cases e
    rw [dropH_ne b2] at e
    by_cases b1 : b = s.heap.objs.size
    · subst b1
      rw [upd_same] at e
      cases e
      exact ⟨by rw [List.length_reverse]; exact hz, acc.toList, c1, by rw [hacc]; exact r.reverse, k2⟩
    · rw [upd_ne b1] at e
      refine (I.hok b u e).stay (fun c v hcv z => k1 c v ?_ z) (fun c z => ?_) fun c xs z => ?_
      · rcases hcv with z2 | z2
        · rw [z2]; exact b2
        · exact nit z2 (by simp)
      · rw [here (old z) (nit z (by simp))]; exact z
      · rw [here (old z) (nit z (by simp))]; exact z
  refine ⟨.ref s.heap.objs.size, _, I.call (g' := s.gens) (d' := s.drawn) (t' := tk) un ok I.bare (fun b hb => ?_), rfl, q _ fr⟩
  obtain rfl : b = it := by simpa using hb
  refine ⟨.inr hge, fun z => ?_, fun x c e z => ?_, fun p hp z => ?_⟩
  · rw [z, I.free] at hit; cases hit
  · rw [← z, I.freeC x c e] at hit; cases hit
  · rw [← z, (I.pin p hp).2.1] at hit; cases hit
end
section
variable {X : Cx}
end
section
variable {prog : Program} {w : World} {A : Around} {E : Value → Shared → Prop} {s : Shared}
end
section
variable {prog : Program} {w : World} {A : Around} {E : Value → Shared → Prop} {s : Shared}
end
section
variable {X : Cx}
end
end L2

namespace L2
open PySem PySem.Spec PyProof.Rows
section
variable {prog : Program} {w : World} {A : Around} {E : Value → Shared → Prop} {s : Shared}
end
end L2
namespace L2
open PySem PySem.Spec PyProof.Rows
section
variable {X : Cx}
end
end L2

namespace L2
open PySem PySem.Spec PyProof.Rows
section
variable {prog : Program} {w : World} {A : Around} {E : Value → Shared → Prop} {s : Shared}
theorem lst_ext {h h2 : Heap} {a b : Addr} {its : Array Value} (x : h.IsList a its) (hs : Heap.ExtBut b h h2) (ne : a ≠ b) : h2.IsList a its := x.at fun o e => hs a o ne e
theorem draw_lst {it l : Addr} {its : Array Value} (hne : l ≠ it) : ∀ (n i : Nat) (s : Shared) (Q : List Value → Shared → Prop), s.heap.IsListIter it l i → s.heap.IsList l its → i + n ≤ its.size →
    (∀ h2, h2.IsListIter it l (i + n) → Heap.SameBut it s.heap h2 → Q ((its.toList.drop i).take n) { s with heap := h2 }) → wpAny (model prog w) A (draw (.ref it) n) Q E s
  | 0, i, s, Q, hi, _, _, k => by
    show wpAny _ _ (pure []) Q E s
    refine wpAny_pure ?_
    simpa using k s.heap hi (Heap.SameBut.refl ..)
  | n + 1, i, s, Q, hi, hl, hle, k => by
    have lt : i < its.size := by omega
    show wpAny _ _ (pyNext (.ref it) >>= _) Q E s
    refine wpAny_bind (wpAny_pyNext_list_item hi hl (x := its[i]) (by simp [lt]) fun h1 hi1 hs1 => wpAny_bind (wpAny_holding ?_))
    refine draw_lst hne n (i + 1) _ _ hi1 (lst_ext hl hs1.extBut hne) (by omega) fun h2 hi2 hs2 => wpAny_pure ?_
    have e : its.toList.drop i = its[i] :: its.toList.drop (i + 1) := by simp [List.drop_eq_getElem_cons, lt]
    have z := k h2 (by rw [show i + (n + 1) = i + 1 + n by omega]; exact hi2) (hs1.trans hs2)
    rw [e, List.take_succ_cons] at z
    exact z
theorem unpack_lst {l : Addr} {its : Array Value} {ts : List (Bool × (Value → Sem Unit))} {Q : Unit → Shared → Prop} (hh : A.handled = none) (hl : s.heap.IsList l its) (hn : ts.length = its.size) (hst : ts.findIdx? (·.1) = none)
    (k : ∀ h2, Heap.ExtBut s.heap.objs.size s.heap h2 → wpAny (model prog w) A (assignInOrder (ts.map (·.2)) its.toList) Q E { s with heap := h2 }) : wpAny (model prog w) A (unpack (.ref l) ts) Q E s := by
  have ne : l ≠ s.heap.objs.size := by obtain ⟨o, ho, _⟩ := hl; exact Nat.ne_of_lt (Heap.lt_size ho)
  unfold unpack
  rw [hn, hst]
  refine wpAny_bind (wpAny_holding ?_)
  unfold unpackItems
  refine wpAny_bind ?_
  unfold notIterableAtAll
  refine wpAny_bind (wpAny_specialOf hl.typeIs F.slot_list_iter.lookup (wpAny_pure ?_))
  simp only [Bool.false_eq_true, if_false]
  refine wpAny_bind (wpAny_holding (wpAny_pyIter_list hl ?_))
  refine wpAny_bind (wpAny_holding (draw_lst ne its.size 0 _ _ ⟨_, Heap.get?_push_size _ rfl, rfl, rfl⟩ (hl.at fun o e => Heap.get?_push_of_some _ e) (by omega) fun h1 hi1 hs1 => ?_))
  have all : List.take its.size (List.drop 0 its.toList) = its.toList := by
    rw [List.drop_zero]; exact List.take_of_length_le (by simp)
  rw [all, if_neg (by simp)]
  have hl1 : h1.IsList l its := lst_ext (hl.at fun o e => Heap.get?_push_of_some _ e) hs1.extBut ne
  refine wpAny_bind (wpAny_holding (wpAny_pyNext_list_end hh hi1 hl1 (by simp) fun h2 he => ?_))
  simp only [Option.isSome_none, Bool.false_eq_true, if_false]
  exact wpAny_pure (k h2 fun b o hb e => he b o hb (hs1.extBut b o hb (Heap.get?_push_of_some _ e)))
end
section
variable {X : Cx} {pos : Pos}
noncomputable def gTupLs (K : PySem.W.Frag) (n : Nat) (t : TGs) : TG := fun v σ H Q => ∃ a xs, v = .ref a ∧ SqL K H a xs ∧ xs.length = n ∧ t xs σ H Q
theorem pg_tupL {es : List Expr} {k : Nat} {t : TGs} {n : Nat} (hc : X.calm = true) (h : PGs X es t) (hn : (assignEach es X.env).length = n := by rfl)
    (hst : (assignEach es X.env).findIdx? (·.1) = none := by rfl) : PG X (.Tuple es k pos) (gTupLs X.K n t) := by
  intro pins s σ H v u Q I r hw
  obtain ⟨a, xs, e1, hq, hl, hw⟩ := hw
  subst e1
  cases r
  obtain ⟨its, rv, ht, hz⟩ := I.list hq
  rw [assign_Tuple]
  refine wpAny_bind (wpAny_standAt (unpack_lst (I.ok.hd hc) ht.isList (by simp [hn, ← hl, rv.length]) hst fun h2 hx => ?_))
  have I1 : Inv X pins σ H { s with heap := h2 } := I.kept (t' := s.toks) fun b o e => hx b o (Nat.ne_of_lt (Heap.lt_size e)) e
  exact h pins _ σ H xs _ Q I1 (by simpa using rv) hw
end
end L2

namespace L2
open PySem PySem.Spec PyProof.Rows
section
variable {X : Cx}
end
end L2

namespace L2
open PySem PySem.Spec PyProof.Rows
section
variable {prog : Program} {w : World} {A : Around} {E : Value → Shared → Prop} {s : Shared}
end
end L2

namespace L2
open PySem
section
variable {prog : Program} {w : World} {A : Around} {E : Value → Shared → Prop} {s : Shared}
theorem enumTurn {k : Bool} {e p l : Addr} {n : Nat} {xs : Array Value} {v old : Value} {Q : Option Value → Shared → Prop} (ie : IsEnum s.heap e p n old) (g : SI k s.heap p l n) (m : SS k s.heap l xs) (hv : xs[n]? = some v) (hne : e ≠ p)
    (q : ∀ h', IsEnumOut h' e p ((n : Int) + 1) v s.heap.objs.size → SI k h' p l (n + 1) → h'.get? s.heap.objs.size = some { cls := .type "tuple", data := .seq #[.int n s.toks, v] } → h'.objs.size = s.heap.objs.size + 1 →
      (∀ b o, b ≠ e → b ≠ p → s.heap.get? b = some o → h'.get? b = some o) → Q (some (.ref s.heap.objs.size)) { s with heap := h', toks := s.toks + 1 }) : wpAny (model prog w) A (pyNext (.ref e)) Q E s := by
  have ty : s.TypeIs (.ref e) "enumerate" := ⟨_, ie, rfl⟩
  unfold pyNext
  refine wpAny_bind (wpAny_attempt (wpAny_callSpecial?_slot (name := Str.ofString "__next__") ty F.slot_enumerate_next (wpAny_call_entry F.slot_enumerate_next ty F.entry_enumerate_next ?_ (F.args_enumerate_next_1 _))))
  obtain ⟨hp, gs, dr, tk, os⟩ := s
  show wpAny _ _ (field (.ref e) 2 >>= _) _ _ _
  refine wpAny_bind (wpAny_field ie rfl (x := .ref p) rfl (wpAny_bind (seqStep g m hv fun ha ga sa => ?_)))
  replace sa : Heap.SameBut p hp ha := sa
  have ea : IsEnum ha e p n old := (sa.2 e hne).trans ie
  show wpAny _ _ (field (.ref e) 3 >>= _) _ _ ⟨ha, gs, dr, tk, os⟩
  refine wpAny_bind (wpAny_field ea rfl (x := rawInt n) rfl ?_)
  show wpAny _ _ (field (.ref e) 4 >>= _) _ _ ⟨ha, gs, dr, tk, os⟩
  refine wpAny_bind (wpAny_field ea rfl (x := .none) rfl ?_)
  show wpAny _ _ (mkInt n >>= _) _ _ ⟨ha, gs, dr, tk, os⟩
  refine wpAny_bind (wpAny_mkInt ?_)
  show wpAny _ _ (setField (.ref e) 3 (rawInt ((n : Int) + 1)) >>= _) _ _ ⟨ha, gs, dr, tk + 1, os⟩
  refine wpAny_bind (wpAny_setField_rec ea (by simp) fun hb eb sb => ?_)
  replace sb : Heap.SameBut e ha hb := sb
  replace eb : IsEnum hb e p ((n : Int) + 1) old := eb
  show wpAny _ _ (setField (.ref e) 4 .none >>= _) _ _ ⟨hb, gs, dr, tk + 1, os⟩
  refine wpAny_bind (wpAny_setField_rec eb (by simp) fun hc ec sc => ?_)
  replace sc : Heap.SameBut e hb hc := sc
  replace ec : IsEnum hc e p ((n : Int) + 1) old := ec
  show wpAny _ _ (newTuple [.int n tk, v] >>= _) _ _ ⟨hc, gs, dr, tk + 1, os⟩
  refine wpAny_bind (wpAny_newTuple ?_)
  have zc : hc.objs.size = hp.objs.size := by rw [sc.1, sb.1, sa.1]
  have ltE : e < hp.objs.size := Heap.lt_size ie
  obtain ⟨hd, hhd⟩ : ∃ hd, hd = hc.push { cls := .type "tuple", data := .seq #[.int n tk, v] } := ⟨_, rfl⟩
  have ed : IsEnum hd e p ((n : Int) + 1) old := by rw [hhd]; exact Heap.get?_push_of_some _ ec
  have td : hd.get? hp.objs.size = some { cls := .type "tuple", data := .seq #[.int n tk, v] } := by rw [hhd, ← zc]; exact Heap.get?_push_size _ rfl
  have zd : hd.objs.size = hp.objs.size + 1 := by rw [hhd, Heap.size_push, zc]
  have kd : ∀ b o, b ≠ e → b ≠ p → hp.get? b = some o → hd.get? b = some o := fun b o b1 b2 z => by rw [hhd]; exact Heap.get?_push_of_some _ (sc.extBut b o b1 (sb.extBut b o b1 (sa.extBut b o b2 z)))
  have gd : SI k hd p l (n + 1) := ((ga.but sb.extBut (Ne.symm hne)).but sc.extBut (Ne.symm hne)).at fun o z => by rw [hhd]; exact Heap.get?_push_of_some _ z
  show wpAny _ _ (Builtin.SmallTypes.ownedTupleIsFree (.ref e) >>= _) _ _ ⟨hc.push { cls := .type "tuple", data := .seq #[.int n tk, v] }, gs, dr, tk + 1, os⟩
  rw [← hhd, zc]
  refine wpAny_bind ?_; unfold Builtin.SmallTypes.ownedTupleIsFree
  refine wpAny_bind (wpAny_field ed rfl (x := .none) rfl (wpAny_pure ?_)); simp only [if_true]
  refine wpAny_bind (wpAny_rule (wpAny_bind (wpAny_field ed rfl (x := old) rfl (wpAny_bind (wpAny_setField_rec ed (by simp) fun hf ef sf => ?_)))))
  replace sf : Heap.SameBut e hd hf := sf
  replace ef : IsEnum hf e p ((n : Int) + 1) v := ef
  show wpAny _ _ (Builtin.SmallTypes.ownedTupleHandOut (.ref e) (.ref hp.objs.size) >>= _) _ _ ⟨hf, gs, dr, tk + 1, os⟩
  refine wpAny_bind ?_; unfold Builtin.SmallTypes.ownedTupleHandOut
  refine wpAny_bind (wpAny_setField_rec ef (by simp) fun hg eg sg => ?_)
  replace sg : Heap.SameBut e hf hg := sg
  replace eg : IsEnumOut hg e p ((n : Int) + 1) v hp.objs.size := eg
  refine wpAny_setField_rec eg (by simp) fun hh eh sh => ?_
  replace sh : Heap.SameBut e hg hh := sh
  replace eh : IsEnumOut hh e p ((n : Int) + 1) v hp.objs.size := eh
  refine wpAny_bind (wpAny_letGo (wpAny_pure ⟨_, rfl, wpAny_pure (q hh eh ?_ ?_ ?_ ?_)⟩))
  · exact ((gd.but sf.extBut (Ne.symm hne)).but sg.extBut (Ne.symm hne)).but sh.extBut (Ne.symm hne)
  · exact sh.extBut _ _ (Nat.ne_of_gt ltE) (sg.extBut _ _ (Nat.ne_of_gt ltE) (sf.extBut _ _ (Nat.ne_of_gt ltE) td))
  · show hh.objs.size = hp.objs.size + 1
    rw [sh.1, sg.1, sf.1, zd]
  · exact fun b o b1 b2 z => sh.extBut b o b1 (sg.extBut b o b1 (sf.extBut b o b1 (kd b o b1 b2 z)))
theorem enumEnd {k : Bool} {e p l : Addr} {n : Nat} {xs : Array Value} {old : Value} {Q : Option Value → Shared → Prop} (hA : A.handled = none) (ie : IsEnum s.heap e p n old) (g : SI k s.heap p l n) (m : SS k s.heap l xs) (hv : xs[n]? = none)
    (q : ∀ h', Heap.ExtBut p s.heap h' → Q none { s with heap := h' }) : wpAny (model prog w) A (pyNext (.ref e)) Q E s := by
  have ty : s.TypeIs (.ref e) "enumerate" := ⟨_, ie, rfl⟩
  unfold pyNext
  refine wpAny_bind (wpAny_attempt (wpAny_callSpecial?_slot (name := Str.ofString "__next__") ty F.slot_enumerate_next (wpAny_call_entry F.slot_enumerate_next ty F.entry_enumerate_next ?_ (F.args_enumerate_next_1 _))))
  show wpAny _ _ (field (.ref e) 2 >>= _) _ _ _
  refine wpAny_bind (wpAny_field ie rfl (x := .ref p) rfl (wpAny_bind (seqEnd hA g m hv fun h' x he' zz => ?_)))
  obtain ⟨o, ho, hc⟩ := zz
  exact wpAny_bind (wpAny_isInstance (T := "StopIteration") (b := true) ⟨o, ho, hc⟩ isSubtype_stop (wpAny_pure (q _ he')))
end
set_option maxHeartbeats 2000000 in
theorem enumNewT (l : Addr) (xs : Array Value) (n : Nat) (dct : Option Addr) (sl : Array (Option Value)) :
    Meets (Builtin.«enumerate.__new__» ⟨[.type "enumerate", .ref l], []⟩) (fun _ R s => s.heap.get? l = some { cls := .type "tuple", dict := dct, data := .seq xs n, slots := sl } ∧
      R (.ok (.ret (.ref (zA false s.heap l).objs.size))) { s with heap := (zA false s.heap l).push { cls := .type "enumerate", data := .fields #[.none, .bool false, .ref s.heap.objs.size, rawInt 0, .none, .none] } }) :=
  .of_wp fun prog w A R s h => by
    obtain ⟨hp, g, d, tk, os⟩ := s
    obtain ⟨hl, h⟩ := h
    have hsub := sub_enumerate
    have hT : Heap.IsTuple (Shared.heap ⟨hp, g, d, tk, os⟩) l xs := ⟨_, hl, rfl, n, rfl⟩
    wp_walk using AutoSeq1.wpAny_loadPart' hl
    refine wpAny_stack_any fun st => wpAny_pure ?_
    split
    · rename_i c _ _ _ _ _
      cases (c == Value.type "enumerate")
      · wp_walk using AutoSeq1.wpAny_loadPart' hl, wpAny_pyIter_tuple hT
        exact ⟨_, rfl, h⟩
      · wp_walk using AutoSeq1.wpAny_loadPart' hl, wpAny_pyIter_tuple hT
        exact ⟨_, rfl, h⟩
    · wp_walk using AutoSeq1.wpAny_loadPart' hl, wpAny_pyIter_tuple hT
      exact ⟨_, rfl, h⟩
section
variable {prog : Program} {w : World} {A : Around} {E : Value → Shared → Prop} {s : Shared}
theorem callEnum {k : Bool} {l : Addr} {xs : Array Value} {Q : Value → Shared → Prop} (m : SS k s.heap l xs)
    (q : ∀ h', IsEnum h' (s.heap.objs.size + 1) s.heap.objs.size 0 .none → SI k h' s.heap.objs.size l 0 → h'.objs.size = s.heap.objs.size + 2 → (∀ b o, s.heap.get? b = some o → h'.get? b = some o) → Q (.ref (s.heap.objs.size + 1)) { s with heap := h' }) :
    wpAny (model prog w) A (call (.type "enumerate") [.ref l]) Q E s := by
  cases k with
  | true => exact call_enumerate_list m q
  | false =>
    obtain ⟨⟨c, dct, dt, sl⟩, hl, hc, n, hd⟩ := m
    simp only at hc hd
    subst hc; subst hd
    refine callType_new F.called_enumerate (by decide) (F.typeCall_enumerate_1 _) (F.newCall_enumerate_1 _) (fun obj => F.args_object_init_2 obj _) F.entry_enumerate_new (enumNewT l xs n dct sl) ⟨hl, ?_⟩
    have s1 : (zA false s.heap l).objs.size = s.heap.objs.size + 1 := Heap.size_push ..
    have o1 : ((zA false s.heap l).push { cls := .type "enumerate", data := .fields #[.none, .bool false, .ref s.heap.objs.size, rawInt 0, .none, .none] }).get? (zA false s.heap l).objs.size = some _ := Heap.get?_push_size _ rfl
    show _ ∧ _
    rw [s1] at o1 ⊢
    exact ⟨⟨_, o1, rfl⟩, q _ o1 ⟨_, Heap.get?_push_of_some _ (Heap.get?_push_size _ rfl), rfl, rfl⟩ (by rw [Heap.size_push, s1]) fun b o e => Heap.get?_push_of_some _ (Heap.get?_push_of_some _ e)⟩
end
end L2
namespace L2
open PySem PySem.Spec PyProof.Rows
noncomputable def Ite (K : PySem.W.Frag) (k : Bool) (l : Addr) : It :=
  ⟨fun i H => ∃ xs x, SqK K k H l xs ∧ xs[i]? = some x,
   fun i H v H' => ∃ T x, H T = none ∧ v = .ref T ∧ H' = upd H T (.tup [.int i, x]) ∧ ∀ xs, SqK K k H l xs → xs[i]? = some x,
   fun i H => ∃ xs, SqK K k H l xs ∧ xs.length ≤ i⟩
noncomputable def EnumSt (k : Bool) (e p l : Addr) (i : Nat) (h : Heap) : Prop := (∃ old, IsEnum h e p i old) ∧ SI k h p l i
theorem turn_enum {P : Program} {w : World} {K : PySem.W.Frag} {elts : List Expr} {kx : Nat} {tp : Pos} {k : Bool} {e p l : Addr} (hne : e ≠ p) : Turn P w K (.Tuple elts kx tp) (Ite K k l) [e, p] e (EnumSt k e p l) where
  mem := by simp
  obj := fun i h ⟨⟨old, ie⟩, g⟩ c hc => by
    simp only [List.mem_cons, List.not_mem_nil, or_false] at hc
    rcases hc with rfl | rfl
    · exact ⟨_, ie, fun v z => by cases z⟩
    · exact g.obj
  keep := fun i h h' ⟨⟨old, ie⟩, g⟩ kk => ⟨⟨old, kk e (by simp) _ ie⟩, g.at fun o z => kk p (by simp) o z⟩
  item := by
    intro X hP hw hK hc i pins s σ H E I hf st hg
    subst hP hw hK
    obtain ⟨⟨old, ie⟩, g⟩ := st
    obtain ⟨xs, x, q1, hx⟩ := hg
    obtain ⟨is1, r1, m1⟩ := I.sqk q1
    obtain ⟨u1, hu1, ru1⟩ := r1.get hx
    refine enumTurn ie g m1 (v := u1) (by simpa using hu1) hne fun h' a1 a2 a3 a4 kk => ?_
    refine ⟨_, rfl, ?_⟩
    refine wpAny_letOwnedTupleGo_enum (s := { s with heap := h', toks := s.toks + 1 }) a1 fun h2 b1 b2 => ?_
    have lt : ∀ {c o}, s.heap.get? c = some o → c ≠ s.heap.objs.size := fun z => Nat.ne_of_lt (Heap.lt_size z)
    have I1 : Inv X pins σ (upd H s.heap.objs.size (.tup [.int i, x])) { s with heap := s.heap.push { cls := .type "tuple", data := .seq #[.int i s.toks, u1] }, toks := s.toks + 1 } :=
      I.laid (o := .tup [.int i, x]) (fun b ob q => Heap.get?_push_of_some _ q) (Nat.le_refl _) ⟨(show 2 ≤ sizeLine by decide), [.int i s.toks, u1], .cons ⟨_, rfl⟩ (.cons ru1 .nil), IsTup.new _ _⟩
    have nfp : ∀ c ∈ [e, p], c ≠ s.heap.objs.size := fun c hc => by
      simp only [List.mem_cons, List.not_mem_nil, or_false] at hc
      rcases hc with rfl | rfl
      · exact lt ie
      · obtain ⟨o, z, _⟩ := g.obj; exact lt z
    have hf' : ∀ c ∈ [e, p], FpOk X pins (upd H s.heap.objs.size (.tup [.int i, x])) c := fun c hc => by
      obtain ⟨f0, f1⟩ := hf c hc
      exact ⟨by rw [upd_ne (nfp c hc)]; exact f0, f1⟩
    have I2 : Inv X pins σ (upd H s.heap.objs.size (.tup [.int i, x])) { s with heap := h2, toks := s.toks + 1 } := by
      refine Inv.turnedN (s := { s with heap := s.heap.push { cls := .type "tuple", data := .seq #[.int i s.toks, u1] }, toks := s.toks + 1 }) (t' := s.toks + 1) (h' := h2) (ch := [e, p]) I1 (fun c o hcn z => ?_) hf'
      simp only [List.mem_cons, List.not_mem_nil, or_false, not_or] at hcn
      obtain ⟨n1, n2⟩ := hcn
      refine b2.extBut c o n1 ?_
      have z' : (s.heap.push { cls := .type "tuple", data := .seq #[.int i s.toks, u1] }).get? c = some o := z
      by_cases hcs : c = s.heap.objs.size
      · subst hcs
        rw [Heap.get?_push_size _ rfl] at z'
        cases z'
        exact a3
      · rw [Heap.get?_push_ne _ _ _ hcs] at z'
        exact kk c o n1 n2 z'
    refine ⟨.ref s.heap.objs.size, _, I2, rfl, ⟨_, x, I.hok.fresh (Nat.le_refl _), rfl, rfl, fun zs hz => by rw [I.sqk_inj hz q1]; exact hx⟩, ?_, fun c hc => (hf' c hc).1⟩
    have ec : ((i + 1 : Nat) : Int) = (i : Int) + 1 := by omega
    exact ⟨⟨u1, by rw [ec]; exact b1⟩, a2.at fun o z => b2.extBut p o (Ne.symm hne) z⟩
  done := by
    intro X hP hw hK hc i pins s σ H E I hf st hg
    subst hP hw hK
    obtain ⟨⟨old, ie⟩, g⟩ := st
    obtain ⟨xs, q1, hx⟩ := hg
    obtain ⟨is1, r1, m1⟩ := I.sqk q1
    have e1 := r1.length
    refine enumEnd (I.ok.hd hc) ie g m1 (by simp; omega) fun h' kk => ⟨rfl, ?_⟩
    refine I.turnedN (t' := s.toks) (ch := [e, p]) (fun c o hcn z => ?_) hf
    simp only [List.mem_cons, List.not_mem_nil, or_false, not_or] at hcn
    exact kk c o hcn.2 z
  self := fun _ _ _ _ _ st h => let ⟨⟨_, ie⟩, _⟩ := st; wpAny_pyIter_enum ie h
noncomputable def iEnum (K : PySem.W.Frag) (ta : TA) : TI := fun σ H R => ta σ H fun vs H1 => ∃ k l, vs = [.ref l] ∧ (∃ xs, SqK K k H1 l xs) ∧ R (Ite K k l) H1
theorem pi_enum {X : Cx} {elts : List Expr} {kx : Nat} {tp : Pos} {a : Expr} {ta : TA} {p pos : Pos} (hg : Gl X "enumerate") (hm : X.mg "enumerate" = none) (ha : PA X [a] ta) (hs : starEach [a] X.env = [(false, eval a X.env)] := by rfl) :
    PI X (.Tuple elts kx tp) (.Call (.Name "enumerate" p) [a] [] pos) (iEnum X.K ta) := by
  intro pins s σ H R I h
  refine Call_ (ld_blt I hg hm PyProof.Rows.boot_enumerate (PyProof.Rows.callWith_type1 (thn (ha pos pins s σ H _ I h) fun us s1 ⟨vs, H1, I1, r1, q1⟩ => ?_) hs rfl))
  obtain ⟨k, l, e, ⟨xs, q2⟩, q⟩ := q1
  subst e
  cases r1 with
  | cons r rr =>
    cases rr
    cases r
    obtain ⟨is1, _, m1⟩ := I1.sqk q2
    refine callEnum m1 fun h' a1 a2 a3 kk => ?_
    refine wpAny_pyIter_enum (s := { s1 with heap := h' }) a1 ?_
    refine ⟨s1.heap.objs.size + 1, _, _, _, H1, rfl, I1.kept (t' := s1.toks) kk, turn_enum (Nat.succ_ne_self _), ⟨⟨_, a1⟩, a2⟩, fun c hc => ?_, q⟩
    have hge : s1.heap.objs.size ≤ c := by
      simp only [List.mem_cons, List.not_mem_nil, or_false] at hc
      rcases hc with rfl | rfl
      · exact Nat.le_add_right _ _
      · exact Nat.le_refl _
    exact I1.fpOk hge (I1.hok.fresh hge)
end L2

namespace L2
open PySem
theorem PE.imp {X : Cx} {x : Expr} {t t' : TE} (h : PE X x t) (i : ∀ σ H Q, t' σ H Q → t σ H Q) : PE X x t' := fun pins s σ H Q I q => h pins s σ H Q I (i σ H Q q)
theorem PT.imp {X : Cx} {x : Expr} {t t' : TT} (h : PT X x t) (i : ∀ σ H Q, t' σ H Q → t σ H Q) : PT X x t' := fun pins s σ H Q I q => h pins s σ H Q I (i σ H Q q)
theorem PW.imp {X : Cx} {x : Expr} {t t' : TT} (h : PW X x t) (i : ∀ σ H Q, t' σ H Q → t σ H Q) : PW X x t' := fun wh pins s σ H Q I q => h wh pins s σ H Q I (i σ H Q q)
theorem PA.imp {X : Cx} {x : List Expr} {t t' : TA} (h : PA X x t) (i : ∀ σ H Q, t' σ H Q → t σ H Q) : PA X x t' := fun pos pins s σ H Q I q => h pos pins s σ H Q I (i σ H Q q)
theorem PS.imp {X : Cx} {x : Stmt} {t t' : TS} (h : PS X x t) (i : ∀ E σ H, t' E σ H → t E σ H) : PS X x t' := fun pins s σ H D I q => h pins s σ H D I (i D σ H q)
theorem PSs.imp {X : Cx} {x : List Stmt} {t t' : TS} (h : PSs X x t) (i : ∀ E σ H, t' E σ H → t E σ H) : PSs X x t' := fun pins s σ H D I q => h pins s σ H D I (i D σ H q)
theorem OpR.imp {X : Cx} {f : Value → Value → Sem Value} {r r' : R2} (h : OpR X f r) (i : ∀ x y H Q, r' x y H Q → r x y H Q) : OpR X f r' := fun pins s σ H x y v u Q I rx ry q => h pins s σ H x y v u Q I rx ry (i x y H Q q)
theorem IxR.imp {X : Cx} {r r' : R2} (h : IxR X r) (i : ∀ x y H Q, r' x y H Q → r x y H Q) : IxR X r' := fun va sl pins s σ H x y v u Q I rx ry q => h va sl pins s σ H x y v u Q I rx ry (i x y H Q q)
theorem PG.imp {X : Cx} {x : Expr} {t t' : TG} (h : PG X x t) (i : ∀ v σ H Q, t' v σ H Q → t v σ H Q) : PG X x t' := fun pins s σ H v u Q I r q => h pins s σ H v u Q I r (i v σ H Q q)
theorem PGs.imp {X : Cx} {x : List Expr} {t t' : TGs} (h : PGs X x t) (i : ∀ v σ H Q, t' v σ H Q → t v σ H Q) : PGs X x t' := fun pins s σ H v u Q I r q => h pins s σ H v u Q I r (i v σ H Q q)
end L2
namespace DL
open PySem PySem.Spec L2
open PyProof.Rows hiding St


inductive D where
  | non | bl (b : Bool) | int (i : Int) | str (x : Str) | ref (a : Addr) | tup (ds : List D) | vl (ds : List D) | ty (n : String) | dic | exc (c : Str)

noncomputable def KL (K : PySem.W.Frag) (a : Addr) (xs : List V) : Prop := ∀ H : Hp, SqL K H a xs

mutual
inductive Has (K : PySem.W.Frag) (H : Hp) : V → D → Prop
  | non : Has K H .non .non
  | bl (b : Bool) : Has K H (.bl b) (.bl b)
  | int (i : Int) : Has K H (.int i) (.int i)
  | str (x : Str) : Has K H (.str x) (.str x)
  | ref (a : Addr) : Has K H (.ref a) (.ref a)
  | ty (n : String) : Has K H (.ty n) (.ty n)
  | tup {a : Addr} {xs : List V} {ds : List D} : SqT K H a xs → HasL K H xs ds → Has K H (.ref a) (.tup ds)
  | vl {a : Addr} {xs : List V} {ds : List D} : ((∃ o, H a = some (.frz o (.lst xs))) ∨ KL K a xs) → HasL K H xs ds → Has K H (.ref a) (.vl ds)
  | dic {a : Addr} : (∃ o : Obj, H a = some (.frz o (.own 0)) ∧ o.cls = .type "dict") → Has K H (.ref a) .dic
  | exc {a : Addr} {c : Str} : (∃ (o : Obj) (C : Addr), H a = some (.frz o (.own 0)) ∧ o.cls = .ref C ∧ PySem.W.nsIn K mainGlobals c = some (some (.ref C))) → Has K H (.ref a) (.exc c)
inductive HasL (K : PySem.W.Frag) (H : Hp) : List V → List D → Prop
  | nil : HasL K H [] []
  | cons {v : V} {d : D} {vs : List V} {ds : List D} : Has K H v d → HasL K H vs ds → HasL K H (v :: vs) (d :: ds)
end

structure KT0 (H H' : Hp) : Prop where
  tp : ∀ a xs, Rd H a (.tup xs) → Rd H' a (.tup xs)
  fz : ∀ a o u, H a = some (.frz o u) → H' a = some (.frz o u)
structure KT (H H' : Hp) : Prop extends KT0 H H' where
  ex : ∀ a φ, H a = some (.ext φ) → H' a = some (.ext φ)
theorem KT.refl (H : Hp) : KT H H := ⟨⟨fun _ _ h => h, fun _ _ _ h => h⟩, fun _ _ h => h⟩
theorem KT.trans {H H1 H2 : Hp} (a : KT H H1) (b : KT H1 H2) : KT H H2 := ⟨⟨fun p xs h => b.tp p xs (a.tp p xs h), fun p o xs h => b.fz p o xs (a.fz p o xs h)⟩, fun p φ h => b.ex p φ (a.ex p φ h)⟩
theorem KT0.sq {K : PySem.W.Frag} {H H' : Hp} (k : KT0 H H') {a : Addr} {xs : List V} (h : SqT K H a xs) : SqT K H' a xs := h.elim (fun z => .inl (k.tp a xs z)) .inr
theorem KT.sq {K : PySem.W.Frag} {H H' : Hp} (k : KT H H') {a : Addr} {xs : List V} (h : SqT K H a xs) : SqT K H' a xs := k.toKT0.sq h
theorem KT0.at {H : Hp} {p : Addr} {o : HO} (h1 : ∀ xs, ¬ Rd H p (.tup xs)) (h2 : ∀ q u, H p ≠ some (.frz q u)) : KT0 H (upd H p o) where
  tp := fun a xs r => by
    have hn : a ≠ p := by intro e; subst e; exact h1 xs r
    rcases r with r | ⟨q, r⟩
    · exact .inl (by rw [upd_ne hn]; exact r)
    · exact .inr ⟨q, by rw [upd_ne hn]; exact r⟩
  fz := fun a q xs r => by
    have hn : a ≠ p := by intro e; subst e; exact h2 q xs r
    rw [upd_ne hn]; exact r
theorem KT.at {H : Hp} {p : Addr} {o : HO} (h1 : ∀ xs, ¬ Rd H p (.tup xs)) (h2 : ∀ q u, H p ≠ some (.frz q u)) (h3 : ∀ φ, H p ≠ some (.ext φ)) : KT H (upd H p o) := ⟨KT0.at h1 h2, fun a φ r => by
    have hn : a ≠ p := by intro e; subst e; exact h3 φ r
    rw [upd_ne hn]; exact r⟩
theorem KT.alloc {H : Hp} {p : Addr} {o : HO} (h : H p = none) : KT H (upd H p o) := KT.at (fun xs r => by rcases r with r | ⟨_, r⟩ <;> (rw [h] at r; cases r)) (fun q xs r => by rw [h] at r; cases r) fun φ r => by rw [h] at r; cases r
theorem KT.any {H : Hp} {p : Addr} {xs : List V} {o : HO} (h : H p = some (.lst xs)) : KT H (upd H p o) := KT.at (fun xs r => by rcases r with r | ⟨_, r⟩ <;> (rw [h] at r; cases r)) (fun q xs r => by rw [h] at r; cases r) fun φ r => by rw [h] at r; cases r
theorem KT.write {H : Hp} {p : Addr} {xs ys : List V} (h : H p = some (.lst xs)) : KT H (upd H p (.lst ys)) := KT.any h
theorem KT0.ext {H : Hp} {p : Addr} {φ : Heap → Prop} {o : HO} (h : H p = some (.ext φ)) : KT0 H (upd H p o) := KT0.at (fun xs r => by rcases r with r | ⟨_, r⟩ <;> (rw [h] at r; cases r)) fun q xs r => by rw [h] at r; cases r
theorem KT.new {H H' : Hp} {p : Addr} {o : HO} (k : KT H H') (h : H p = none) : KT H (upd H' p o) where
  tp := fun a xs r => by
    have hn : a ≠ p := by intro e; subst e; rcases r with r | ⟨_, r⟩ <;> (rw [h] at r; cases r)
    rcases k.tp a xs r with r | ⟨q, r⟩
    · exact .inl (by rw [upd_ne hn]; exact r)
    · exact .inr ⟨q, by rw [upd_ne hn]; exact r⟩
  fz := fun a q xs r => by
    have hn : a ≠ p := by intro e; subst e; rw [h] at r; cases r
    rw [upd_ne hn]; exact k.fz a q xs r
  ex := fun a φ r => by
    have hn : a ≠ p := by intro e; subst e; rw [h] at r; cases r
    rw [upd_ne hn]; exact k.ex a φ r

mutual
theorem Has.mono0 {K : PySem.W.Frag} {H H' : Hp} (k : KT0 H H') : ∀ {v : V} {d : D}, Has K H v d → Has K H' v d
  | _, _, .non => .non
  | _, _, .bl b => .bl b
  | _, _, .int i => .int i
  | _, _, .str x => .str x
  | _, _, .ref a => .ref a
  | _, _, .ty n => .ty n
  | _, _, .tup s l => .tup (k.sq s) (HasL.mono0 k l)
  | _, _, .vl h l => .vl (h.elim (fun ⟨o, e⟩ => .inl ⟨o, k.fz _ _ _ e⟩) .inr) (HasL.mono0 k l)
  | _, _, .dic h => .dic (let ⟨o, e, c⟩ := h; ⟨o, k.fz _ _ _ e, c⟩)
  | _, _, .exc h => .exc (let ⟨o, C, e, c⟩ := h; ⟨o, C, k.fz _ _ _ e, c⟩)
theorem HasL.mono0 {K : PySem.W.Frag} {H H' : Hp} (k : KT0 H H') : ∀ {v : List V} {d : List D}, HasL K H v d → HasL K H' v d
  | _, _, .nil => .nil
  | _, _, .cons a b => .cons (Has.mono0 k a) (HasL.mono0 k b)
end
theorem Has.mono {K : PySem.W.Frag} {H H' : Hp} (k : KT H H') {v : V} {d : D} (h : Has K H v d) : Has K H' v d := h.mono0 k.toKT0
theorem HasL.mono {K : PySem.W.Frag} {H H' : Hp} (k : KT H H') {v : List V} {d : List D} (h : HasL K H v d) : HasL K H' v d := h.mono0 k.toKT0
section
variable {K : PySem.W.Frag} {H H' : Hp}
theorem HasL.length : ∀ {vs : List V} {ds : List D}, HasL K H vs ds → vs.length = ds.length
  | _, _, .nil => rfl
  | _, _, .cons _ b => congrArg Nat.succ (HasL.length b)
theorem HasL.get : ∀ {vs : List V} {ds : List D} {i : Nat} {d : D}, HasL K H vs ds → ds[i]? = some d → ∃ v, vs[i]? = some v ∧ Has K H v d
  | _, _, _, _, .nil, e => by simp at e
  | _, _, 0, _, .cons a _, e => by simp at e; subst e; exact ⟨_, rfl, a⟩
  | _, _, i + 1, d, .cons _ b, e => by
    obtain ⟨v, h1, h2⟩ := HasL.get (i := i) (d := d) b (by simpa using e)
    exact ⟨v, by simpa using h1, h2⟩
theorem HasL.getV : ∀ {vs : List V} {ds : List D} {i : Nat} {v : V}, HasL K H vs ds → vs[i]? = some v → ∃ d, ds[i]? = some d ∧ Has K H v d
  | _, _, _, _, .nil, e => by simp at e
  | _, _, 0, _, .cons a _, e => by simp at e; subst e; exact ⟨_, rfl, a⟩
  | _, _, i + 1, d, .cons _ b, e => by
    obtain ⟨v, h1, h2⟩ := HasL.getV (i := i) (v := d) b (by simpa using e)
    exact ⟨v, by simpa using h1, h2⟩
theorem HasL.set {v : V} {d : D} (r : Has K H v d) : ∀ {vs : List V} {ds : List D} (i : Nat), HasL K H vs ds → HasL K H (vs.set i v) (ds.set i d)
  | _, _, _, .nil => .nil
  | _, _, 0, .cons _ t => .cons r t
  | _, _, i + 1, .cons q t => .cons q (HasL.set r i t)
theorem HasL.append : ∀ {xs ys : List V} {us ws : List D}, HasL K H xs us → HasL K H ys ws → HasL K H (xs ++ ys) (us ++ ws)
  | _, _, _, _, .nil, s => s
  | _, _, _, _, .cons r t, s => .cons r (HasL.append t s)
theorem HasL.take : ∀ {xs : List V} {us : List D} (n : Nat), HasL K H xs us → HasL K H (xs.take n) (us.take n)
  | _, _, 0, _ => .nil
  | _, _, _ + 1, .nil => .nil
  | _, _, n + 1, .cons r t => .cons r (HasL.take n t)
theorem HasL.drop : ∀ {xs : List V} {us : List D} (n : Nat), HasL K H xs us → HasL K H (xs.drop n) (us.drop n)
  | _, _, 0, r => r
  | _, _, _ + 1, .nil => .nil
  | _, _, n + 1, .cons _ t => HasL.drop n t
theorem HasL.ints : ∀ (ns : List Int), HasL K H (ns.map V.int) (ns.map D.int)
  | [] => .nil
  | n :: r => .cons (.int n) (HasL.ints r)
end


inductive MO where
  | lst (ds : List D)
  | ins (c : Str) (fs : List (Str × D))
  | dic (hs : (List Int × List Int → Int) × Option Nat) (kvs : List ((List Int × List Int) × D × D))
noncomputable abbrev Mem := Addr → Option MO
noncomputable def updM (M : Mem) (a : Addr) (o : MO) : Mem := fun b => if b = a then some o else M b
theorem updM_same {M : Mem} {a : Addr} {o : MO} : updM M a o a = some o := by unfold updM; rw [if_pos rfl]
theorem updM_ne {M : Mem} {a b : Addr} {o : MO} (h : b ≠ a) : updM M a o b = M b := by unfold updM; rw [if_neg h]
theorem updM_upd {M : Mem} {a : Addr} {o u : MO} : updM (updM M a o) a u = updM M a u := by
  funext b; unfold updM; by_cases h : b = a <;> simp [h]
structure HasF (K : PySem.W.Frag) (H : Hp) (ys : List (Str × V)) (fs : List (Str × D)) : Prop where
  names : ys.map (·.1) = fs.map (·.1)
  has : HasL K H (ys.map (·.2)) (fs.map (·.2))
theorem HasF.mono {K : PySem.W.Frag} {H H' : Hp} (k : KT H H') {ys : List (Str × V)} {fs : List (Str × D)} (h : HasF K H ys fs) : HasF K H' ys fs := ⟨h.names, h.has.mono k⟩
theorem HasF.mono0 {K : PySem.W.Frag} {H H' : Hp} (k : KT0 H H') {ys : List (Str × V)} {fs : List (Str × D)} (h : HasF K H ys fs) : HasF K H' ys fs := ⟨h.names, h.has.mono0 k⟩
structure HasD (K : PySem.W.Frag) (H : Hp) (xs : List ((List Int × List Int) × Addr × V)) (kvs : List ((List Int × List Int) × D × D)) : Prop where
  keys : xs.map (·.1) = kvs.map (·.1)
  kd : HasL K H (xs.map fun x => V.ref x.2.1) (kvs.map (·.2.1))
  vd : HasL K H (xs.map (·.2.2)) (kvs.map (·.2.2))
theorem HasD.mono {K : PySem.W.Frag} {H H' : Hp} (k : KT H H') {xs : List ((List Int × List Int) × Addr × V)} {kvs : List ((List Int × List Int) × D × D)} (h : HasD K H xs kvs) : HasD K H' xs kvs := ⟨h.keys, h.kd.mono k, h.vd.mono k⟩
theorem HasD.mono0 {K : PySem.W.Frag} {H H' : Hp} (k : KT0 H H') {xs : List ((List Int × List Int) × Addr × V)} {kvs : List ((List Int × List Int) × D × D)} (h : HasD K H xs kvs) : HasD K H' xs kvs := ⟨h.keys, h.kd.mono0 k, h.vd.mono0 k⟩
noncomputable def MOk (K : PySem.W.Frag) (H : Hp) (a : Addr) : MO → Prop
  | .lst ds => ∃ xs, H a = some (.lst xs) ∧ HasL K H xs ds
  | .ins c fs => ∃ C dx ys, H a = some (.ins C dx ys) ∧ HasF K H ys fs ∧ PySem.W.nsIn K mainGlobals c = some (some (.ref C))
  | .dic hs kvs => ∃ xs, H a = some (.dT hs xs) ∧ HasD K H xs kvs
noncomputable def AbsM (K : PySem.W.Frag) (H : Hp) (M : Mem) : Prop := ∀ a o, M a = some o → MOk K H a o
section
variable {K : PySem.W.Frag} {H H' : Hp} {M : Mem}
theorem AbsM.fresh (h : AbsM K H M) {p : Addr} (e : H p = none) : M p = none := by
  cases q : M p with
  | none => rfl
  | some o =>
    cases o with
    | lst ds => obtain ⟨xs, z, _⟩ := h p _ q; rw [e] at z; cases z
    | ins C fs => obtain ⟨_, dx, ys, z, _⟩ := h p _ q; rw [e] at z; cases z
    | dic hs kvs => obtain ⟨xs, z, _⟩ := h p _ q; rw [e] at z; cases z
theorem AbsM.alloc (h : AbsM K H M) {p : Addr} {u : HO} (e : H p = none) : AbsM K (upd H p u) M := fun a o m => by
  have k : KT H (upd H p u) := KT.alloc e
  cases o with
  | lst ds =>
    obtain ⟨xs, z, l⟩ := h a _ m
    have hn : a ≠ p := ne_of_none z e
    exact ⟨xs, by rw [upd_ne hn]; exact z, l.mono k⟩
  | ins C fs =>
    obtain ⟨C0, dx, ys, z, l, hc⟩ := h a _ m
    have hn : a ≠ p := ne_of_none z e
    exact ⟨C0, dx, ys, by rw [upd_ne hn]; exact z, l.mono k, hc⟩
  | dic hs kvs =>
    obtain ⟨xs, z, l⟩ := h a _ m
    have hn : a ≠ p := ne_of_none z e
    exact ⟨xs, by rw [upd_ne hn]; exact z, l.mono k⟩
theorem AbsM.new (h : AbsM K H M) {p : Addr} {xs : List V} {ds : List D} (e : H p = none) (l : HasL K H xs ds) : AbsM K (upd H p (.lst xs)) (updM M p (.lst ds)) := fun a o m => by
  by_cases q : a = p
  · subst q
    rw [updM_same] at m; cases m
    exact ⟨xs, upd_same, l.mono (KT.alloc e)⟩
  · rw [updM_ne q] at m
    exact h.alloc e a o m
theorem AbsM.write (h : AbsM K H M) {p : Addr} {xs ys : List V} {ds : List D} (e : H p = some (.lst xs)) (l : HasL K H ys ds) : AbsM K (upd H p (.lst ys)) (updM M p (.lst ds)) := fun a o m => by
  have k : KT H (upd H p (.lst ys)) := KT.write e
  by_cases q : a = p
  · subst q
    rw [updM_same] at m; cases m
    exact ⟨ys, upd_same, l.mono k⟩
  · rw [updM_ne q] at m
    cases o with
    | lst es =>
      obtain ⟨zs, z, l⟩ := h a _ m
      exact ⟨zs, by rw [upd_ne q]; exact z, l.mono k⟩
    | ins C fs =>
      obtain ⟨C0, dx, zs, z, l, hc⟩ := h a _ m
      exact ⟨C0, dx, zs, by rw [upd_ne q]; exact z, l.mono k, hc⟩
    | dic hs kvs =>
      obtain ⟨zs, z, l⟩ := h a _ m
      exact ⟨zs, by rw [upd_ne q]; exact z, l.mono k⟩
theorem AbsM.lst (h : AbsM K H M) {a : Addr} {ds : List D} (m : M a = some (.lst ds)) : ∃ xs, H a = some (.lst xs) ∧ HasL K H xs ds := h a _ m
end


noncomputable abbrev Ev := List (Option D)
structure EnvOk (K : PySem.W.Frag) (H : Hp) (σ : St) (e : Ev) : Prop where
  len : σ.length = e.length
  has : ∀ (i : Nat) (d : D), e[i]? = some (some d) → ∃ v, σ[i]? = some (some v) ∧ Has K H v d
section
variable {K : PySem.W.Frag} {H H' : Hp} {σ : St} {e : Ev}
theorem EnvOk.mono (k : KT H H') (h : EnvOk K H σ e) : EnvOk K H' σ e := ⟨h.len, fun i d z => let ⟨v, a, b⟩ := h.has i d z; ⟨v, a, b.mono k⟩⟩
theorem EnvOk.set (h : EnvOk K H σ e) {v : V} {d : D} (r : Has K H v d) (i : Nat) : EnvOk K H (σ.set i (some v)) (e.set i (some d)) := by
  refine ⟨by simp [h.len], fun j x z => ?_⟩
  rw [List.getElem?_set] at z ⊢
  by_cases q : i = j
  · subst q
    rw [if_pos rfl] at z ⊢
    by_cases l : i < e.length
    · rw [if_pos l] at z
      rw [if_pos (by rw [h.len]; exact l)]
      cases z
      exact ⟨v, rfl, r⟩
    · rw [if_neg l] at z; cases z
  · rw [if_neg q] at z ⊢
    exact h.has j x z
end
noncomputable def dstart (N : List Str) (ds : List D) : Ev := ds.map some ++ List.replicate (N.length - ds.length) none
theorem EnvOk.start0 {K : PySem.W.Frag} {H : Hp} {N : List Str} {vs : List V} {ds : List D} (h : HasL K H vs ds) : EnvOk K H (L2.start N vs) (dstart N ds) := by
  have hl := h.length
  refine ⟨by simp [L2.start, dstart, hl], fun i d z => ?_⟩
  unfold dstart at z
  unfold L2.start
  rw [List.getElem?_append] at z ⊢
  simp only [List.length_map] at z ⊢
  rw [hl]
  by_cases q : i < ds.length
  · rw [if_pos q] at z ⊢
    rw [List.getElem?_map] at z ⊢
    cases e : ds[i]? with
    | none => rw [e] at z; cases z
    | some x =>
      rw [e] at z
      have z' : x = d := by simpa using z
      subst z'
      obtain ⟨v, a, b⟩ := h.get e
      exact ⟨v, by rw [a]; rfl, b⟩
  · rw [if_neg q] at z
    rw [List.getElem?_replicate] at z
    split at z <;> cases z


noncomputable abbrev DK := D → Mem → Prop
noncomputable abbrev DTE := Ev → Mem → DK → Prop
noncomputable abbrev DTT := Ev → Mem → (Bool → Mem → Prop) → Prop
noncomputable abbrev DTA := Ev → Mem → (List D → Mem → Prop) → Prop
structure DEnds where
  nx : Ev → Mem → Prop
  rt : DK
  bk : Ev → Mem → Prop := fun _ _ => False
  ct : Ev → Mem → Prop := fun _ _ => False
noncomputable abbrev DTS := DEnds → Ev → Mem → Prop
noncomputable def FitV (K : PySem.W.Frag) (H : Hp) (R : DK) (Q : VK) : Prop := ∀ d M', R d M' → ∀ v H', KT H H' → AbsM K H' M' → Has K H' v d → Q v H'
noncomputable def FitB (K : PySem.W.Frag) (H : Hp) (R : Bool → Mem → Prop) (Q : Bool → Hp → Prop) : Prop := ∀ b M', R b M' → ∀ H', KT H H' → AbsM K H' M' → Q b H'
noncomputable def FitL (K : PySem.W.Frag) (H : Hp) (R : List D → Mem → Prop) (Q : List V → Hp → Prop) : Prop := ∀ ds M', R ds M' → ∀ vs H', KT H H' → AbsM K H' M' → HasL K H' vs ds → Q vs H'
noncomputable def FitN (K : PySem.W.Frag) (H : Hp) (R : Ev → Mem → Prop) (Q : St → Hp → Prop) : Prop := ∀ e M', R e M' → ∀ σ H', KT H H' → AbsM K H' M' → EnvOk K H' σ e → Q σ H'
structure Fit (K : PySem.W.Frag) (H : Hp) (F : DEnds) (E : Ends) : Prop where
  nx : FitN K H F.nx E.nx
  rt : FitV K H F.rt E.rt
  bk : FitN K H F.bk E.bk
  ct : FitN K H F.ct E.ct
section
variable {K : PySem.W.Frag} {H H' : Hp}
theorem FitV.mono {R : DK} {Q : VK} (h : FitV K H R Q) (k : KT H H') : FitV K H' R Q := fun d M r v H2 k2 a b => h d M r v H2 (k.trans k2) a b
theorem FitB.mono {R : Bool → Mem → Prop} {Q : Bool → Hp → Prop} (h : FitB K H R Q) (k : KT H H') : FitB K H' R Q := fun d M r H2 k2 a => h d M r H2 (k.trans k2) a
theorem FitL.mono {R : List D → Mem → Prop} {Q : List V → Hp → Prop} (h : FitL K H R Q) (k : KT H H') : FitL K H' R Q := fun d M r v H2 k2 a b => h d M r v H2 (k.trans k2) a b
theorem FitN.mono {R : Ev → Mem → Prop} {Q : St → Hp → Prop} (h : FitN K H R Q) (k : KT H H') : FitN K H' R Q := fun d M r v H2 k2 a b => h d M r v H2 (k.trans k2) a b
theorem Fit.mono {F : DEnds} {E : Ends} (h : Fit K H F E) (k : KT H H') : Fit K H' F E := ⟨h.nx.mono k, h.rt.mono k, h.bk.mono k, h.ct.mono k⟩
end
noncomputable def up (K : PySem.W.Frag) (t : DTE) : TE := fun σ H Q => ∃ e M R, EnvOk K H σ e ∧ AbsM K H M ∧ t e M R ∧ FitV K H R Q
noncomputable def upT (K : PySem.W.Frag) (t : DTT) : TT := fun σ H Q => ∃ e M R, EnvOk K H σ e ∧ AbsM K H M ∧ t e M R ∧ FitB K H R Q
noncomputable def upA (K : PySem.W.Frag) (t : DTA) : TA := fun σ H Q => ∃ e M R, EnvOk K H σ e ∧ AbsM K H M ∧ t e M R ∧ FitL K H R Q
noncomputable def upS (K : PySem.W.Frag) (t : DTS) : TS := fun E σ H => ∃ e M F, EnvOk K H σ e ∧ AbsM K H M ∧ t F e M ∧ Fit K H F E
noncomputable abbrev DPE (X : Cx) (x : Expr) (t : DTE) : Prop := PE X x (up X.K t)
noncomputable abbrev DPT (X : Cx) (x : Expr) (t : DTT) : Prop := PT X x (upT X.K t)
noncomputable abbrev DPW (X : Cx) (x : Expr) (t : DTT) : Prop := PW X x (upT X.K t)
noncomputable abbrev DPA (X : Cx) (x : List Expr) (t : DTA) : Prop := PA X x (upA X.K t)
noncomputable abbrev DPS (X : Cx) (x : Stmt) (t : DTS) : Prop := PS X x (upS X.K t)
noncomputable abbrev DPSs (X : Cx) (x : List Stmt) (t : DTS) : Prop := PSs X x (upS X.K t)
structure JE (X : Cx) (x : Expr) (t : DTE) : Prop where
  out : DPE X x t
structure JT (X : Cx) (x : Expr) (t : DTT) : Prop where
  out : DPT X x t
structure JW (X : Cx) (x : Expr) (t : DTT) : Prop where
  out : DPW X x t
structure JA (X : Cx) (x : List Expr) (t : DTA) : Prop where
  out : DPA X x t
structure JS (X : Cx) (x : Stmt) (t : DTS) : Prop where
  out : DPS X x t
structure JSs (X : Cx) (x : List Stmt) (t : DTS) : Prop where
  out : DPSs X x t

section
variable {X : Cx} {a b c : Expr} {ta tb tc : DTE} {pos : Pos}

noncomputable def dVar (i : Nat) : DTE := fun e M R => ∃ d, e[i]? = some (some d) ∧ R d M
noncomputable def dC (d : D) : DTE := fun _ M R => R d M
theorem jd_var (i : Nat) {x : Str} {pos : Pos} (hN : X.N[i]? = some x := by rfl) (hv : Vis X.env.scope x := by first | exact Or.inl rfl | exact Or.inr (Or.inl rfl) | exact Or.inr (Or.inr rfl)) (hd : (x == ("__debug__" : Str)) = false := by decide)
    (hcd : (x == ("__classdict__" : Str)) = false := by decide) : JE X (.Name x pos) (dVar i) := ⟨(pe_var hN hv hd hcd).imp (by
    rintro σ H Q ⟨e, M, R, ok, am, ⟨d, z, r⟩, f⟩
    obtain ⟨v, h1, h2⟩ := ok.has i d z
    exact ⟨v, h1, f d M r v H (KT.refl H) am h2⟩)⟩
theorem d_const {v : V} {d : D} (h : PE X a (tC v)) (r : ∀ H, Has X.K H v d) : DPE X a (dC d) :=
  h.imp (by rintro σ H Q ⟨e, M, R, ok, am, z, f⟩; exact f d M z v H (KT.refl H) am (r H))
theorem jd_int {i j pos} : JE X (.Constant (.int i) j pos) (dC (.int i)) := ⟨d_const pe_int fun _ => .int i⟩
theorem jd_bl {b j pos} : JE X (.Constant (.bool b) j pos) (dC (.bl b)) := ⟨d_const pe_bl fun _ => .bl b⟩
theorem jd_str {x j pos} : JE X (.Constant (.str x) j pos) (dC (.str x)) := ⟨d_const pe_str fun _ => .str x⟩
noncomputable def HasK (K : PySem.W.Frag) (v : V) (d : D) : Prop := ∀ H, Has K H v d
theorem d_glob {x : Str} {v : V} {d : D} {u : Value} {pos : Pos} (hg : Gl X x) (hm : X.mg x = some u) (r : RelV v u) (hk : HasK X.K v d) (hd : (x == ("__debug__" : Str)) = false := by decide) : DPE X (.Name x pos) (dC d) :=
  d_const (pe_glob hg hm r hd) hk

noncomputable abbrev DR2 := D → D → Mem → DK → Prop
noncomputable def upR (K : PySem.W.Frag) (g : DR2) : R2 := fun x y H Q => ∃ dx dy M R, Has K H x dx ∧ Has K H y dy ∧ AbsM K H M ∧ g dx dy M R ∧ FitV K H R Q
noncomputable def DOp (X : Cx) (f : Value → Value → Sem Value) (g : DR2) : Prop := OpR X f (upR X.K g)
noncomputable def dOp (g : DR2) (ta tb : DTE) : DTE := fun e M R => ta e M fun x M1 => tb e M1 fun y M2 => g x y M2 R
theorem two_up {ta tb : DTE} {g : DR2} {σ : St} {H : Hp} {Q : VK} (h : up X.K (dOp g ta tb) σ H Q) : tOp (upR X.K g) (up X.K ta) (up X.K tb) σ H Q := by
  obtain ⟨e, M, R, ok, am, t, f⟩ := h
  refine ⟨e, M, _, ok, am, t, fun x M1 h1 v H1 k1 a1 r1 => ?_⟩
  refine ⟨e, M1, _, ok.mono k1, a1, h1, fun y M2 h2 u H2 k2 a2 r2 => ?_⟩
  exact ⟨x, y, M2, R, r1.mono k2, r2, a2, h2, f.mono (k1.trans k2)⟩
theorem jd_op {op : Operator} {g : DR2} (ho : DOp X (binaryOp op) g) (ha : JE X a ta) (hb : JE X b tb) : JE X (.BinOp a op b pos) (dOp g ta tb) := ⟨have ha := ha.out; have hb := hb.out; (pe_op ho ha hb).imp fun _ _ _ h => two_up h⟩
theorem jd_cmp {op : CmpOp} {g : DR2} (ho : DOp X (compareOp op) g) (ha : JE X a ta) (hb : JE X b tb) (hm : behindInMarks op b = false) : JE X (.Compare a [op] [b] pos) (dOp g ta tb) := ⟨have ha := ha.out; have hb := hb.out; (pe_cmpR ho ha hb hm).imp fun _ _ _ h => two_up h⟩
noncomputable def dTest (t : DTE) : DTT := fun e M R => t e M fun x M' => ∃ k, x = .bl k ∧ R k M'
theorem test_fit {K : PySem.W.Frag} {H : Hp} {R : Bool → Mem → Prop} {Q : Bool → Hp → Prop} (f : FitB K H R Q) : FitV K H (fun x M' => ∃ k, x = .bl k ∧ R k M') (fun x H' => ∃ k, x = .bl k ∧ Q k H') := by
  rintro d M' ⟨k, rfl, r⟩ v H' kt am h
  cases h
  exact ⟨k, rfl, f k M' r H' kt am⟩
theorem jd_tcmp {op : CmpOp} {g : DR2} (ho : DOp X (compareOp op) g) (ha : JE X a ta) (hb : JE X b tb) (hm : behindInMarks op b = false) : JT X (.Compare a [op] [b] pos) (dTest (dOp g ta tb)) := ⟨have ha := ha.out; have hb := hb.out; (pt_cmpR ho ha hb hm).imp (by rintro σ H Q ⟨e, M, R, ok, am, t, f⟩; exact two_up (Q := fun x H' => ∃ k, x = .bl k ∧ Q k H') ⟨e, M, _, ok, am, t, test_fit f⟩)⟩
theorem jd_tval {x : Expr} {t : DTE} (h : JE X x t) (he : ∀ whole, isTrue x X.env whole = (do let v ← whole; standAt x.pos; holding [v] (truthy v)) := by intro _; rfl) : JT X x (dTest t) := ⟨have h := h.out; (pt_val h he).imp (by rintro σ H Q ⟨e, M, R, ok, am, t, f⟩; exact ⟨e, M, _, ok, am, t, test_fit f⟩)⟩
noncomputable def fI (f : Int → Int → D) : D → D → Option D
  | .int i, .int j => some (f i j)
  | _, _ => none
noncomputable def gF (f : D → D → Option D) : DR2 := fun x y M R => ∃ z, f x y = some z ∧ R z M
noncomputable def gI (C : Int → Int → Prop) (f : Int → Int → D) : DR2 := fun x y M R => ∃ i j, x = .int i ∧ y = .int j ∧ C i j ∧ R (f i j) M
theorem fI_some {f : Int → Int → D} {x y z : D} (h : fI f x y = some z) : ∃ i j, x = .int i ∧ y = .int j ∧ z = f i j := by
  cases x with
  | int i =>
    cases y with
    | int j => exact ⟨i, j, rfl, rfl, (Option.some.inj h).symm⟩
    | _ => cases h
  | _ => cases h
theorem dop_I {f : Value → Value → Sem Value} {C : Int → Int → Prop} {g : Int → Int → V} {g' : Int → Int → D} (h : OpR X f (rI C g)) (hg : ∀ i j H, Has X.K H (g i j) (g' i j)) : DOp X f (gI C g') :=
  OpR.imp h (by
    rintro x y H Q ⟨dx, dy, M, R, hx, hy, am, ⟨i, j, e1, e2, hc, r⟩, f⟩
    subst e1; subst e2
    cases hx; cases hy
    exact ⟨i, j, rfl, rfl, hc, f _ M r _ H (KT.refl H) am (hg i j H)⟩)
theorem dop_I0 {f : Value → Value → Sem Value} {g : Int → Int → V} {g' : Int → Int → D} (h : OpR X f (rI0 g)) (hg : ∀ i j H, Has X.K H (g i j) (g' i j)) : DOp X f (gF (fI g')) :=
  OpR.imp h (by
    rintro x y H Q ⟨dx, dy, M, R, hx, hy, am, ⟨z, e, r⟩, f⟩
    obtain ⟨i, j, e1, e2, e3⟩ := fI_some e
    subst e1; subst e2; subst e3
    cases hx; cases hy
    exact ⟨i, j, rfl, rfl, f _ M r _ H (KT.refl H) am (hg i j H)⟩)
theorem o_add : DOp X (binaryOp .Add) (gF (fI fun i j => .int (i + j))) := dop_I0 op_add fun _ _ _ => .int _
theorem o_sub : DOp X (binaryOp .Sub) (gF (fI fun i j => .int (i - j))) := dop_I0 op_sub fun _ _ _ => .int _
theorem o_le : DOp X (compareOp .LtE) (gF (fI fun i j => .bl (decide (i ≤ j)))) := dop_I0 op_le fun _ _ _ => .bl _
theorem o_gt : DOp X (compareOp .Gt) (gF (fI fun i j => .bl (decide (j < i)))) := dop_I0 op_gt fun _ _ _ => .bl _
theorem o_mod : DOp X (binaryOp .Mod) (gI (fun _ j => 0 < j) fun i j => .int (i % j)) := dop_I op_mod fun _ _ _ => .int _
theorem o_pow : DOp X (binaryOp .Pow) (gI CPow fun i j => .int (i ^ j.toNat)) := dop_I op_pow fun _ _ _ => .int _
noncomputable def gU (f : Int → D) : D → Mem → DK → Prop := fun x M R => ∃ i, x = .int i ∧ R (f i) M
noncomputable def dUn (g : D → Mem → DK → Prop) (ta : DTE) : DTE := fun e M R => ta e M fun x M1 => g x M1 R
theorem jd_neg (ha : JE X a ta) : JE X (.UnaryOp .USub a pos) (dUn (gU fun i => .int (-i)) ta) := ⟨have ha := ha.out; (pe_un un_neg ha).imp (by rintro σ H Q ⟨e, M, R, ok, am, t, f⟩; exact ⟨e, M, _, ok, am, t, fun x M1 ⟨i, z, r⟩ v H1 k1 a1 r1 => by
    subst z; cases r1; exact ⟨i, rfl, f _ M1 r _ H1 k1 a1 (.int _)⟩⟩)⟩
variable {tA tB' : DTT} {rest : List Expr}
noncomputable def dAnd (t u : DTT) : DTT := fun e M R => t e M fun c M1 => if c = true then u e M1 R else R false M1
noncomputable def dOr (t u : DTT) : DTT := fun e M R => t e M fun c M1 => if c = true then R true M1 else u e M1 R
theorem jd_and1 (ha : JT X a tA) : JW X (.BoolOp .And [a] pos) tA := ⟨have ha := ha.out; pw_and1 ha⟩
theorem jd_or1 (ha : JT X a tA) : JW X (.BoolOp .Or [a] pos) tA := ⟨have ha := ha.out; pw_or1 ha⟩
theorem jd_and (ha : JT X a tA) (hb : JW X (.BoolOp .And (b :: rest) pos) tB') : JW X (.BoolOp .And (a :: b :: rest) pos) (dAnd tA tB') := ⟨have ha := ha.out; have hb := hb.out; (pw_and ha hb).imp (by rintro σ H Q ⟨e, M, R, ok, am, t, f⟩; exact ⟨e, M, _, ok, am, t, fun k M1 h1 H1 k1 a1 => by
    cases k with
    | true => exact ⟨e, M1, R, ok.mono k1, a1, h1, f.mono k1⟩
    | false => exact f false M1 h1 H1 k1 a1⟩)⟩
theorem jd_or (ha : JT X a tA) (hb : JW X (.BoolOp .Or (b :: rest) pos) tB') : JW X (.BoolOp .Or (a :: b :: rest) pos) (dOr tA tB') := ⟨have ha := ha.out; have hb := hb.out; (pw_or ha hb).imp (by rintro σ H Q ⟨e, M, R, ok, am, t, f⟩; exact ⟨e, M, _, ok, am, t, fun k M1 h1 H1 k1 a1 => by
    cases k with
    | true => exact f true M1 h1 H1 k1 a1
    | false => exact ⟨e, M1, R, ok.mono k1, a1, h1, f.mono k1⟩⟩)⟩
theorem jd_tw {x : Expr} {t : DTT} (h : JW X x t) : JT X x t := ⟨have h := h.out; PW.pt h⟩
noncomputable def dIf (t : DTT) (ta tb : DTE) : DTE := fun e M R => t e M fun c M1 => if c = true then ta e M1 R else tb e M1 R
theorem jd_ifExp (hc : JT X c tA) (ha : JE X a ta) (hb : JE X b tb) : JE X (.IfExp c a b pos) (dIf tA ta tb) := ⟨have hc := hc.out; have ha := ha.out; have hb := hb.out; (pe_ifExp hc ha hb).imp (by rintro σ H Q ⟨e, M, R, ok, am, t, f⟩; exact ⟨e, M, _, ok, am, t, fun k M1 h1 H1 k1 a1 => by
    cases k with
    | true => exact ⟨e, M1, R, ok.mono k1, a1, h1, f.mono k1⟩
    | false => exact ⟨e, M1, R, ok.mono k1, a1, h1, f.mono k1⟩⟩)⟩
noncomputable def dNil : DTA := fun _ M R => R [] M
noncomputable def dCons (ta : DTE) (tr : DTA) : DTA := fun e M R => ta e M fun x M1 => tr e M1 fun xs M2 => R (x :: xs) M2
variable {es : List Expr} {tr : DTA}
theorem jda_nil  : JA X [] dNil := ⟨pa_nil.imp (by rintro σ H Q ⟨e, M, R, ok, am, t, f⟩; exact f [] M t [] H (KT.refl H) am .nil)⟩
theorem jda_cons (ha : JE X a ta) (hr : JA X es tr) (hs : starEach (a :: es) X.env = (false, eval a X.env) :: starEach es X.env := by rfl) : JA X (a :: es) (dCons ta tr) := ⟨have ha := ha.out; have hr := hr.out; (pa_cons ha hr hs).imp (by rintro σ H Q ⟨e, M, R, ok, am, t, f⟩; exact ⟨e, M, _, ok, am, t, fun x M1 h1 v H1 k1 a1 r1 =>
    ⟨e, M1, _, ok.mono k1, a1, h1, fun xs M2 h2 vs H2 k2 a2 r2 => f _ M2 h2 _ H2 (k1.trans k2) a2 (.cons (r1.mono k2) r2)⟩⟩)⟩
noncomputable def dTup (t : DTA) : DTE := fun e M R => t e M fun ds M1 => ds.length ≤ sizeLine ∧ R (.tup ds) M1
noncomputable def dLst (t : DTA) : DTE := fun e M R => t e M fun ds M1 => ds.length ≤ sizeLine ∧ ∀ p, M1 p = none → R (.ref p) (updM M1 p (.lst ds))
theorem jd_tup {x1} (h : JA X es tr) : JE X (.Tuple es x1 pos) (dTup tr) := ⟨have h := h.out; (pe_tup h).imp (by rintro σ H Q ⟨e, M, R, ok, am, t, f⟩; exact ⟨e, M, _, ok, am, t, fun ds M1 ⟨hz, h1⟩ vs H1 k1 a1 r1 => by
    refine ⟨by rw [r1.length]; exact hz, fun p hp => ?_⟩
    have k2 : KT H1 (upd H1 p (.tup vs)) := KT.alloc hp
    exact f _ M1 h1 _ _ (k1.trans k2) (a1.alloc hp) (.tup (SqT.of upd_same) (r1.mono k2))⟩)⟩
theorem jd_lst (h : JA X es tr) : JE X (.List es pos) (dLst tr) := ⟨have h := h.out; (pe_lst h).imp (by rintro σ H Q ⟨e, M, R, ok, am, t, f⟩; exact ⟨e, M, _, ok, am, t, fun ds M1 ⟨hz, h1⟩ vs H1 k1 a1 r1 => by
    refine ⟨by rw [r1.length]; exact hz, fun p hp => ?_⟩
    have k2 : KT H1 (upd H1 p (.lst vs)) := KT.alloc hp
    exact f _ _ (h1 p (a1.fresh hp)) _ _ (k1.trans k2) (a1.new hp r1) (.ref p)⟩)⟩
theorem HasL.at {K : PySem.W.Frag} {H : Hp} {vs : List V} {ds : List D} (h : HasL K H vs ds) {i : Int} {z : D} (e : atI ds i = some z) : ∃ v, atI vs i = some v ∧ Has K H v z := by
  unfold atI at e ⊢
  rw [h.length]
  cases q : ixN ds.length i with
  | none => rw [q] at e; cases e
  | some j =>
    rw [q] at e
    exact h.get e
noncomputable def DIx (X : Cx) (g : DR2) : Prop := IxR X (upR X.K g)
theorem jd_ix {g : DR2} (hr : DIx X g) (ha : JE X a ta) (hb : JE X b tb) (hs : PlainIx b) : JE X (.Subscript a b pos) (dOp g ta tb) := ⟨have ha := ha.out; have hb := hb.out; (pe_ix hr ha hb hs).imp fun _ _ _ h => two_up h⟩
noncomputable abbrev DXK := Value → Mem → Prop
noncomputable abbrev DSp := List D → Mem → DK → DXK → Prop
noncomputable def FitX (K : PySem.W.Frag) (H : Hp) (Y : DXK) (E : XK) : Prop := ∀ c M', Y c M' → ∀ o H', KT H H' → AbsM K H' M' → E c o H'
noncomputable def upSp (K : PySem.W.Frag) (sp : DSp) : Sp := fun vs H Q E => ∃ ds M R Y, HasL K H vs ds ∧ AbsM K H M ∧ sp ds M R Y ∧ FitV K H R Q ∧ FitX K H Y E
noncomputable def dCall (sp : DSp) (dds : List D) (Y : DXK) (t : DTA) : DTE := fun e M R => t e M fun ds M1 => sp (ds ++ dds) M1 R Y
end
section
variable {X : Cx} {CX : CXT} {k : Nat} {f C : Addr} {fd : FuncData} {ps : List Str} {sp : DSp} {dvs : List V} {dds : List D} {ds : List Value} {E : XK} {Y : DXK} {x m : Str} {p pos apos : Pos} {e o : Expr} {es : List Expr} {t : DTA}
theorem d_call (F : FnOk X.prog X.w X.K X.mg X.base CX k f fd ps (upSp X.K sp)) (hr : Room k X.A) (hg : Gl X x) (hm : X.mg x = some (.ref f)) (hk : PySem.W.keepIn X.K (.ref f) = true) (hb : Binds X.K fd ps ds) (hd : Vals dvs ds) (hdd : ∀ H, HasL X.K H dvs dds) (hx : Passes CX X E) (hY : ∀ H, FitX X.K H Y E)
    (ha : DPA X (e :: es) t) (hdb : (x == ("__debug__" : Str)) = false := by decide) (he : starEach (e :: es) X.env = (false, eval e X.env) :: starEach es X.env := by rfl) (hpl : (backTo pos (starEach es X.env)).any (·.1) = false := by rfl) :
    DPE X (.Call (.Name x p) (e :: es) [] pos) (dCall sp dds Y t) :=
  (pe_call F hr hg hm hk hb hd hx ha hdb he hpl).imp (by rintro σ H Q ⟨e, M, R, ok, am, t, f⟩; exact ⟨e, M, _, ok, am, t, fun xs M1 h1 vs H1 k1 a1 r1 =>
    ⟨xs ++ dds, M1, R, Y, r1.append (hdd H1), a1, h1, f.mono k1, hY H1⟩⟩)
end


section
variable {X : Cx} {st : Stmt} {rest : List Stmt} {t u : DTS} {e : Expr} {te : DTE} {pos : Pos}
noncomputable def dNext : DTS := fun F e M => F.nx e M
noncomputable def dSeq (t u : DTS) : DTS := fun F e M => t { F with nx := u F } e M
theorem jds_nil  : JSs X [] dNext := ⟨pss_nil.imp (by rintro E σ H ⟨e, M, F, ok, am, t, f⟩; exact f.nx e M t σ H (KT.refl H) am ok)⟩
theorem jds_cons (h1 : JS X st t) (h2 : JSs X rest u) : JSs X (st :: rest) (dSeq t u) := ⟨have h1 := h1.out; have h2 := h2.out; (pss_cons h1 h2).imp (by rintro E σ H ⟨e, M, F, ok, am, t, f⟩; exact ⟨e, M, { F with nx := u F }, ok, am, t, ⟨fun e' M' h σ' H' k a o => ⟨e', M', F, o, a, h, f.mono k⟩, f.rt, f.bk, f.ct⟩⟩)⟩
theorem jds_one (h1 : JS X st t) : JSs X [st] t := ⟨have h1 := h1.out; pss_one h1⟩
noncomputable def dDrop (te : DTE) : DTS := fun F e M => te e M fun _ M1 => F.nx e M1
theorem jds_expr (he : JE X e te) (hs : swapsWith e none pos.line X.env = pure false := by rfl) : JS X (.Expr e pos) (dDrop te) := ⟨have he := he.out; (ps_expr he hs).imp (by rintro E σ H ⟨e, M, F, ok, am, t, f⟩; exact ⟨e, M, _, ok, am, t, fun d M1 h1 v H1 k1 a1 r1 => f.nx e M1 h1 σ H1 k1 a1 (ok.mono k1)⟩)⟩
noncomputable def dRet (te : DTE) : DTS := fun F e M => te e M F.rt
theorem jds_ret (he : JE X e te) : JS X (.Return (some e) pos) (dRet te) := ⟨have he := he.out; (ps_ret he).imp (by rintro E σ H ⟨e, M, F, ok, am, t, f⟩; exact ⟨e, M, _, ok, am, t, f.rt⟩)⟩
noncomputable def dIfS (c : DTT) (t u : DTS) : DTS := fun F e M => c e M fun b M1 => if b = true then t F e M1 else u F e M1
theorem jds_if {c : Expr} {a b : List Stmt} {tc : DTT} (hc : JT X c tc) (ha : JSs X a t) (hb : JSs X b u) : JS X (.If c a b pos) (dIfS tc t u) := ⟨have hc := hc.out; have ha := ha.out; have hb := hb.out; (ps_if hc ha hb).imp (by rintro E σ H ⟨e, M, F, ok, am, t, f⟩; exact ⟨e, M, _, ok, am, t, fun k M1 h1 H1 k1 a1 => by
    cases k with
    | true => exact ⟨e, M1, F, ok.mono k1, a1, h1, f.mono k1⟩
    | false => exact ⟨e, M1, F, ok.mono k1, a1, h1, f.mono k1⟩⟩)⟩
noncomputable def dNever : DTS := fun _ _ _ => False
theorem jds_never  : JS X st dNever := ⟨ps_never.imp (by rintro E σ H ⟨_, _, _, _, _, t, _⟩; exact t)⟩
noncomputable abbrev DTG := D → Ev → Mem → (Ev → Mem → Prop) → Prop
noncomputable abbrev DTGs := List D → Ev → Mem → (Ev → Mem → Prop) → Prop
noncomputable def upG (K : PySem.W.Frag) (g : DTG) : TG := fun v σ H Q => ∃ d e M R, Has K H v d ∧ EnvOk K H σ e ∧ AbsM K H M ∧ g d e M R ∧ FitN K H R Q
noncomputable def upGs (K : PySem.W.Frag) (g : DTGs) : TGs := fun vs σ H Q => ∃ ds e M R, HasL K H vs ds ∧ EnvOk K H σ e ∧ AbsM K H M ∧ g ds e M R ∧ FitN K H R Q
noncomputable abbrev DPG (X : Cx) (x : Expr) (g : DTG) : Prop := PG X x (upG X.K g)
noncomputable abbrev DPGs (X : Cx) (x : List Expr) (g : DTGs) : Prop := PGs X x (upGs X.K g)
structure JG (X : Cx) (x : Expr) (g : DTG) : Prop where
  out : DPG X x g
structure JGs (X : Cx) (x : List Expr) (g : DTGs) : Prop where
  out : DPGs X x g
noncomputable def dgName (i : Nat) : DTG := fun d e M R => R (e.set i (some d)) M
theorem jdg_name {i : Nat} {x : Str} (hN : X.N.Nodup) (hi : X.N[i]? = some x) (hx : Loc X.env.scope x) (hf : X.fn x = true ∨ X.env.scope.names.lookup x = some .local := by first | exact .inl rfl | exact .inr rfl | assumption) : JG X (.Name x pos) (dgName i) := ⟨PG.imp (pg_name hN hi hx hf) (by rintro v σ H Q ⟨d, e, M, R, r, ok, am, g, f⟩; exact f _ M g _ H (KT.refl H) am (ok.set r i))⟩
noncomputable def dgNil : DTGs := fun ds e M R => ds = [] ∧ R e M
noncomputable def dgCons (t : DTG) (u : DTGs) : DTGs := fun ds e M R => ∃ d r, ds = d :: r ∧ t d e M fun e' M' => u r e' M' R
theorem jdgs_nil  : JGs X [] dgNil := ⟨PGs.imp pgs_nil (by
  rintro v σ H Q ⟨ds, e, M, R, r, ok, am, ⟨z, g⟩, f⟩
  subst z; cases r; exact ⟨rfl, f e M g σ H (KT.refl H) am ok⟩)⟩
end
end DL

namespace DL
open PySem PySem.Spec L2
open PyProof.Rows hiding St
section
variable {X : Cx} {st : Stmt} {rest : List Stmt} {t u : DTS} {e : Expr} {te : DTE} {pos : Pos}
theorem jdgs_cons {x : Expr} {xs : List Expr} {t : DTG} {u : DTGs} (h1 : JG X x t) (h2 : JGs X xs u)
    (hs : (assignEach (x :: xs) X.env).map (·.2) = assign x X.env :: (assignEach xs X.env).map (·.2) := by rfl) : JGs X (x :: xs) (dgCons t u) := ⟨have h1 := h1.out; have h2 := h2.out; PGs.imp (pgs_cons h1 h2 hs) (by
    rintro vs σ H Q ⟨ds, e, M, R, r, ok, am, ⟨d, dr, z, g⟩, f⟩
    subst z
    cases r with
    | cons r rr => exact ⟨_, _, rfl, d, e, M, _, r, ok, am, g, fun e1 M1 h1 σ1 H1 k1 a1 ok1 => ⟨dr, e1, M1, R, rr.mono k1, ok1, a1, h1, f.mono k1⟩⟩)⟩
noncomputable def dgTup (n : Nat) (t : DTGs) : DTG := fun d e M R => ∃ ds, d = .tup ds ∧ ds.length = n ∧ t ds e M R
theorem jdg_tup {xs : List Expr} {k : Nat} {t : DTGs} {n : Nat} (hc : X.calm = true) (h : JGs X xs t)
    (hn : (assignEach xs X.env).length = n := by rfl) (hst : (assignEach xs X.env).findIdx? (·.1) = none := by rfl) : JG X (.Tuple xs k pos) (dgTup n t) := ⟨have h := h.out; PG.imp (pg_tup hc h hn hst) (by
    rintro v σ H Q ⟨d, e, M, R, r, ok, am, ⟨ds, z, hl, g⟩, f⟩
    subst z
    cases r with
    | tup s l => exact ⟨_, _, rfl, s, by rw [l.length]; exact hl, ds, e, M, R, l, ok, am, g, f⟩)⟩
noncomputable abbrev DTSet := D → D → D → Mem → (Mem → Prop) → Prop
noncomputable def gSetL : DTSet := fun o i v M R => ∃ p ds k j, o = .ref p ∧ i = .int k ∧ M p = some (.lst ds) ∧ ixN ds.length k = some j ∧ R (updM M p (.lst (ds.set j v)))
noncomputable def dgSub (to ti : DTE) (t : DTSet) : DTG := fun d e M R => to e M fun o M1 => ti e M1 fun i M2 => t o i d M2 fun M3 => R e M3
theorem jdg_sub {o i : Expr} {to ti : DTE} (ho : JE X o to) (hi : JE X i ti)
    (ha : ∀ v, assign (.Subscript o i pos) X.env v = (do
      let ov ← holding [v] (eval o X.env)
      let iv ← holding [v, ov] (eval i X.env)
      standAt pos
      holding [v, ov, iv] (setItem ov iv v)
      release [v, ov, iv] []) := by intro _; rfl) : JG X (.Subscript o i pos) (dgSub to ti gSetL) := ⟨have ho := ho.out; have hi := hi.out; PG.imp (pg_sub ho hi set_list ha) fun v σ H Q ⟨d, e, M, R, r, ok, am, g, f⟩ =>
    ⟨e, M, _, ok, am, g, fun x M1 h1 vo H1 k1 a1 r1 => ⟨e, M1, _, ok.mono k1, a1, h1, fun y M2 ⟨p, ds, k, j, e1, e2, e3, e4, h2⟩ vi H2 k2 a2 r2 => by
      subst e1; subst e2
      cases r1; cases r2
      obtain ⟨xs, hx, l⟩ := a2.lst e3
      have kt : KT H H2 := k1.trans k2
      have kw : KT H2 (upd H2 p (.lst (xs.set j v))) := KT.write hx
      exact ⟨p, xs, k, j, rfl, rfl, hx, by rw [l.length]; exact e4, f e _ h2 σ _ (kt.trans kw) (a2.write hx (l.set (r.mono kt) j)) ((ok.mono kt).mono kw)⟩⟩⟩⟩
noncomputable def dAsg (te : DTE) (g : DTG) : DTS := fun F e M => te e M fun x M1 => g x e M1 F.nx
theorem jds_asg {tg x : Expr} {tx : DTE} {g : DTG} (he : JE X x tx) (hg : JG X tg g) (hs : swapsWithSole [tg] x pos.line X.env = pure false := by rfl) (hw : swappedStores [tg] x X.env = pure none := by rfl)
    (h1 : (assignEach [tg] X.env).map (·.2) = [assign tg X.env] := by rfl) : JS X (.Assign [tg] x pos) (dAsg tx g) := ⟨have he := he.out; have hg := hg.out; (ps_asg he hg hs hw h1).imp (by rintro E σ H ⟨e, M, F, ok, am, t, f⟩; exact ⟨e, M, _, ok, am, t, fun d M1 h1 v H1 k1 a1 r1 => ⟨d, e, M1, F.nx, r1, ok.mono k1, a1, h1, f.nx.mono k1⟩⟩)⟩
theorem jds_set {i : Nat} {x : Str} {tx : DTE} {pos' : Pos} (hN : X.N.Nodup) (hi : X.N[i]? = some x) (hx : Loc X.env.scope x) (he : JE X e tx) (hs : swapsWith e (some (.Name x pos')) pos.line X.env = pure false := by rfl) (hf : X.fn x = true ∨ X.env.scope.names.lookup x = some .local := by first | exact .inl rfl | exact .inr rfl | assumption) : JS X (.Assign [.Name x pos'] e pos) (dAsg tx (dgName i)) := ⟨have he := he.out; (ps_set hN hi hx he hs hf).imp (by rintro E σ H ⟨e, M, F, ok, am, t, f⟩; exact ⟨e, M, _, ok, am, t, fun d M1 h1 v H1 k1 a1 r1 => f.nx _ M1 h1 _ H1 k1 a1 ((ok.mono k1).set r1 i)⟩)⟩
noncomputable def dPar (i j : Nat) (ta : DTA) : DTS := fun F e M => ta e M fun ds M1 => ∃ x y, ds = [x, y] ∧ F.nx ((e.set i (some x)).set j (some y)) M1
theorem jds_par {i j : Nat} {x y : Str} {a b : Expr} {ta : DTA} {px py pt : Pos} {kt k2 pt2} (hc : X.calm = true) (hN : X.N.Nodup) (hi : X.N[i]? = some x) (hj : X.N[j]? = some y) (hij : i ≠ j)
    (hx : X.env.scope.names.lookup x = some .local) (hy : X.env.scope.names.lookup y = some .local) (ha : JA X [a, b] ta)
    (hw : swappedStores [.Tuple [.Name x px, .Name y py] kt pt] (.Tuple [a, b] k2 pt2) X.env = pure (some [x, y]) := by rfl)
    (hs : swapsWithSole [.Tuple [.Name x px, .Name y py] kt pt] (.Tuple [a, b] k2 pt2) pos.line X.env = pure false := by rfl) : JS X (.Assign [.Tuple [.Name x px, .Name y py] kt pt] (.Tuple [a, b] k2 pt2) pos) (dPar i j ta) := ⟨have ha := ha.out; (ps_par hc hN hi hj hij hx hy ha hw hs).imp (by rintro E σ H ⟨e, M, F, ok, am, t, f⟩; exact ⟨e, M, _, ok, am, t, fun ds M1 ⟨x, y, z, h1⟩ vs H1 k1 a1 r1 => by
    subst z
    cases r1 with
    | cons r1 rr =>
      cases rr with
      | cons r2 rr =>
        cases rr
        exact ⟨_, _, rfl, f.nx _ M1 h1 _ H1 k1 a1 (((ok.mono k1).set r1 i).set r2 j)⟩⟩)⟩
noncomputable def dWhile (c : DTT) (tb : DTS) : DTS := fun F e M => ∃ W : Nat → Ev → Mem → Prop, (∃ m, W m e M) ∧ ∀ m e M, W m e M →
  c e M fun b M1 => if b = true then tb { F with nx := fun e' M' => ∃ m', m' < m ∧ W m' e' M', ct := fun e' M' => ∃ m', m' < m ∧ W m' e' M', bk := F.nx } e M1 else F.nx e M1
theorem jds_while {c : Expr} {body : List Stmt} {tc : DTT} {tb : DTS} (hp : PassesOwn (model X.prog X.w) X.A X.env X.xe) (hc : JT X c tc) (hb : JSs X body tb) : JS X (.While c body [] pos) (dWhile tc tb) := ⟨have hc := hc.out; have hb := hb.out; (ps_while hp hc hb).imp (by
    rintro E σ H ⟨e, M, F, ok, am, ⟨W, ⟨m0, w0⟩, turn⟩, f⟩
    refine ⟨fun m σ' H' => ∃ e' M', KT H H' ∧ EnvOk X.K H' σ' e' ∧ AbsM X.K H' M' ∧ W m e' M', ⟨m0, e, M, KT.refl H, ok, am, w0⟩, ?_⟩
    rintro m σ1 H1 ⟨e1, M1, k1, ok1, a1, w1⟩
    refine ⟨e1, M1, _, ok1, a1, turn m e1 M1 w1, fun b M2 h2 H2 k2 a2 => ?_⟩
    cases b with
    | false => exact f.nx e1 M2 h2 σ1 H2 (k1.trans k2) a2 (ok1.mono k2)
    | true =>
      refine ⟨fun σ' H' => ∃ m', m' < m ∧ ∃ e' M', KT H H' ∧ EnvOk X.K H' σ' e' ∧ AbsM X.K H' M' ∧ W m' e' M', fun σ' H' h => h, e1, M2, _, ok1.mono k2, a2, h2, ?_⟩
      have kk := k1.trans k2
      exact ⟨fun e' M' ⟨m', l, w⟩ σ' H' k' a' o' => ⟨m', l, e', M', kk.trans k', o', a', w⟩, f.rt.mono kk, f.nx.mono kk, fun e' M' ⟨m', l, w⟩ σ' H' k' a' o' => ⟨m', l, e', M', kk.trans k', o', a', w⟩⟩)⟩
noncomputable abbrev DTI := Ev → Mem → (List D → (Mem → Prop) → Mem → Prop) → Prop
noncomputable def dFor (ti : DTI) (g : DTG) (tb : DTS) : DTS := fun F e M => ti e M fun ds stay M1 => ∃ W : Nat → Ev → Mem → Prop, W 0 e M1 ∧ (∀ i e M, i ≤ ds.length → W i e M → stay M) ∧
  (∀ (i : Nat) (d : D) e M, ds[i]? = some d → W i e M → g d e M fun e2 M2 => tb { F with nx := W (i + 1), ct := W (i + 1), bk := F.nx } e2 M2) ∧ ∀ e M, W ds.length e M → F.nx e M
noncomputable def rangeD (lo : Int) (n : Nat) : List D := (List.range n).map fun (i : Nat) => D.int (lo + (i : Int))
theorem rangeD_length (lo : Int) (n : Nat) : (rangeD lo n).length = n := by simp [rangeD]
theorem rangeD_get {lo : Int} {n i : Nat} (h : i < n) : (rangeD lo n)[i]? = some (D.int (lo + (i : Int))) := by simp [rangeD, h]
noncomputable def diRng (ta : DTA) : DTI := fun e M R => ta e M fun ds M1 => ∃ j : Int, ds = [.int j] ∧ -(2 ^ 62) ≤ j ∧ j < 2 ^ 62 ∧ R (rangeD 0 j.toNat) (fun _ => True) M1
noncomputable def diRng2 (ta : DTA) : DTI := fun e M R => ta e M fun ds M1 => ∃ i j : Int, ds = [.int i, .int j] ∧ (-(2 ^ 62) ≤ i ∧ i < 2 ^ 62 ∧ -(2 ^ 62) ≤ j ∧ j < 2 ^ 62) ∧ R (rangeD i (j - i).toNat) (fun _ => True) M1
theorem for_turn {K : PySem.W.Frag} {H H1 H2 : Hp} {F : DEnds} {E : Ends} {W : Nat → Ev → Mem → Prop} {g : DTG} {tb : DTS} {i : Nat} {x : V} {d : D} {σ2 : St} {e2 : Ev} {M2 : Mem} (f : Fit K H F E) (k1 : KT H H1) (k2 : KT H1 H2) (ok2 : EnvOk K H2 σ2 e2) (a2 : AbsM K H2 M2) (r : Has K H2 x d)
    (h : g d e2 M2 fun e3 M3 => tb { F with nx := W (i + 1), ct := W (i + 1), bk := F.nx } e3 M3) :
    upG K g x σ2 H2 fun σ3 H3 => upS K tb { E with nx := fun σ' H' => ∃ e' M', KT H1 H' ∧ EnvOk K H' σ' e' ∧ AbsM K H' M' ∧ W (i + 1) e' M', ct := fun σ' H' => ∃ e' M', KT H1 H' ∧ EnvOk K H' σ' e' ∧ AbsM K H' M' ∧ W (i + 1) e' M', bk := E.nx } σ3 H3 := by
  refine ⟨d, e2, M2, _, r, ok2, a2, h, fun e3 M3 h3 σ3 H3 k3 a3 ok3 => ⟨e3, M3, _, ok3, a3, h3, ?_⟩⟩
  have kk : KT H H3 := k1.trans (k2.trans k3)
  exact ⟨fun e' M' w σ' H' k' a' o' => ⟨e', M', k2.trans (k3.trans k'), o', a', w⟩, f.rt.mono kk, f.nx.mono kk, fun e' M' w σ' H' k' a' o' => ⟨e', M', k2.trans (k3.trans k'), o', a', w⟩⟩
variable {tg iter : Expr} {body : List Stmt} {ti : DTE} {ta : DTA} {g : DTG} {tb : DTS}
theorem Has.il {K : PySem.W.Frag} {H : Hp} {v : V} {ds : List D} (h : Has K H v (.vl ds)) : ∃ a xs, v = .ref a ∧ SqL K H a xs ∧ HasL K H xs ds := by
  cases h with
  | vl h l => exact ⟨_, _, rfl, h.elim (fun ⟨o, e⟩ => .inl (.inr ⟨o, e⟩)) (fun k => k H), l⟩
end


section
variable {P : Program} {w : World} {K : PySem.W.Frag} {mg : Str → Option Value} {base : Heap}
end


section
variable {X : Cx} {x : Str} {p pos : Pos} {e : Expr} {es : List Expr} {t : DTA} {id T : String}
noncomputable abbrev DRC := List D → Mem → DK → Prop
noncomputable def upC (K : PySem.W.Frag) (g : DRC) : List V → Hp → VK → Prop := fun xs H Q => ∃ ds M R, HasL K H xs ds ∧ AbsM K H M ∧ g ds M R ∧ FitV K H R Q
noncomputable def DCall (X : Cx) (f : Value) (g : DRC) : Prop := CallR X f (upC X.K g)
noncomputable def dCB (g : DRC) (t : DTA) : DTE := fun e M R => t e M fun ds M1 => g ds M1 R
theorem cb_up {g : DRC} {σ : St} {H : Hp} {Q : VK} (h : up X.K (dCB g t) σ H Q) : tCB (upC X.K g) (upA X.K t) σ H Q := by
  obtain ⟨e, M, R, ok, am, t, f⟩ := h
  exact ⟨e, M, _, ok, am, t, fun ds M1 h1 vs H1 k1 a1 r1 => ⟨ds, M1, R, r1, a1, h1, f.mono k1⟩⟩
theorem CallR.imp {f : Value} {r r' : List V → Hp → VK → Prop} (h : CallR X f r) (i : ∀ xs H Q, r' xs H Q → r xs H Q) : CallR X f r' := fun pins s σ H xs us Q I rv q => h pins s σ H xs us Q I rv (i xs H Q q)
theorem HasL.one {K : PySem.W.Frag} {H : Hp} {vs : List V} {d : D} (h : HasL K H vs [d]) : ∃ v, vs = [v] ∧ Has K H v d := by
  cases h with
  | cons r rr => cases rr; exact ⟨_, rfl, r⟩
theorem HasL.two {K : PySem.W.Frag} {H : Hp} {vs : List V} {d d' : D} (h : HasL K H vs [d, d']) : ∃ v v', vs = [v, v'] ∧ Has K H v d ∧ Has K H v' d' := by
  cases h with
  | cons r rr => cases rr with | cons r2 rr => cases rr; exact ⟨_, _, rfl, r, r2⟩
noncomputable def gAbs : DRC := fun ds M R => ∃ i : Int, ds = [.int i] ∧ R (.int (i.natAbs : Int)) M
theorem c_abs : DCall X (.builtin "abs") gAbs := CallR.imp call_abs (by
  rintro xs H Q ⟨ds, M, R, hl, am, ⟨i, z, r⟩, f⟩
  subst z
  obtain ⟨v, rfl, h⟩ := hl.one
  cases h
  have e : (if i < 0 then -i else i) = (i.natAbs : Int) := by split <;> omega
  exact ⟨i, rfl, by rw [e]; exact f _ M r _ H (KT.refl H) am (.int _)⟩)
noncomputable def gMax : DRC := fun ds M R => ∃ i j : Int, ds = [.int i, .int j] ∧ R (.int (max i j)) M
theorem c_max (hc : X.calm = true) : DCall X (.builtin "max") gMax := CallR.imp (call_max2 hc) (by
  rintro xs H Q ⟨ds, M, R, hl, am, ⟨i, j, z, r⟩, f⟩
  subst z
  obtain ⟨v, v', rfl, h, h'⟩ := hl.two
  cases h; cases h'
  have e : (if j > i then j else i) = max i j := by
    rw [Int.max_def]; split <;> split <;> omega
  exact ⟨i, j, rfl, by rw [e]; exact f _ M r _ H (KT.refl H) am (.int _)⟩)
noncomputable def lenD (M : Mem) : D → Option Nat
  | .tup ds => some ds.length
  | .ref p => match M p with
    | some (.lst ds) => some ds.length
    | _ => none
  | .vl ds => some ds.length
  | _ => none
noncomputable def gLen : DRC := fun ds M R => ∃ d n, ds = [d] ∧ lenD M d = some n ∧ R (.int (n : Int)) M
theorem c_len : DCall X (.builtin "len") gLen := CallR.imp call_len_seq (by
  rintro xs H Q ⟨ds, M, R, hl, am, ⟨d, n, z, hn, r⟩, f⟩
  subst z
  obtain ⟨v, rfl, h⟩ := hl.one
  cases d with
  | tup es =>
    cases h with
    | tup s l =>
      cases hn
      exact ⟨_, _, rfl, .inr s, by rw [l.length]; exact f _ M r _ H (KT.refl H) am (.int _)⟩
  | ref p =>
    cases h
    unfold lenD at hn
    cases q : M p with
    | none => simp [q] at hn
    | some o =>
      cases o with
      | lst es =>
        simp only [q] at hn
        cases hn
        obtain ⟨ys, hy, l⟩ := am.lst q
        exact ⟨p, ys, rfl, .inl (SqL.of hy), by rw [l.length]; exact f _ M r _ H (KT.refl H) am (.int _)⟩
      | ins C fs => simp [q] at hn
      | dic hs kvs => simp [q] at hn
  | vl es =>
    cases hn
    obtain ⟨a, xs, rfl, sq, l⟩ := h.il
    exact ⟨a, _, rfl, .inl sq, by rw [l.length]; exact f _ M r _ H (KT.refl H) am (.int _)⟩
  | _ => cases hn)
noncomputable def gIntOf : DRC := fun ds M R => (∃ i : Int, ds = [.int i] ∧ R (.int i) M) ∨ ∃ k : Bool, ds = [.bl k] ∧ R (.int (if k then 1 else 0)) M
theorem c_int : DCall X (.type "int") gIntOf := CallR.imp call_int1 (by
  rintro xs H Q ⟨ds, M, R, hl, am, z, f⟩
  rcases z with ⟨i, z, r⟩ | ⟨k, z, r⟩
  · subst z
    obtain ⟨v, rfl, h⟩ := hl.one
    cases h
    exact .inl ⟨i, rfl, f _ M r _ H (KT.refl H) am (.int _)⟩
  · subst z
    obtain ⟨v, rfl, h⟩ := hl.one
    cases h
    exact .inr ⟨k, rfl, f _ M r _ H (KT.refl H) am (.int _)⟩)
end
end DL

namespace DL
open PySem PySem.Spec L2
open PyProof.Rows hiding St
theorem bt_abs : bootBuiltins "abs" = some (.builtin "abs") := by decide +kernel
theorem bt_max : bootBuiltins "max" = some (.builtin "max") := by decide +kernel
theorem bt_len : bootBuiltins "len" = some (.builtin "len") := by decide +kernel
theorem bt_int : bootBuiltins "int" = some (.type "int") := by decide +kernel
theorem bt_tuple : bootBuiltins "tuple" = some (.type "tuple") := by decide +kernel
theorem bt_list : bootBuiltins "list" = some (.type "list") := by decide +kernel
theorem bt_reversed : bootBuiltins "reversed" = some (.type "reversed") := by decide +kernel
section
variable {X : Cx} {a b c : Expr} {ta tb tc : DTE} {pos : Pos}

theorem op_mulB : OpR X (binaryOp .Mult) (rI IntMulOk fun i j => .int (i * j)) := opI fun _ _ _ _ _ _ _ hc q => mul_int q hc
noncomputable def CFd (i j : Int) : Prop := j ≠ 0 ∧ j.natAbs.log2 < 9000
theorem op_fdiv9 : OpR X (binaryOp .FloorDiv) (rI CFd fun i j => .int (i.fdiv j)) := opI fun _ _ _ _ _ _ _ hc q => floordiv_int hc.1 q (.inl (PyProof.noPylong_of_log2 hc.2))
theorem o_mul : DOp X (binaryOp .Mult) (gI IntMulOk fun i j => .int (i * j)) := dop_I op_mulB fun _ _ _ => .int _
theorem o_fdiv : DOp X (binaryOp .FloorDiv) (gI CFd fun i j => .int (i.fdiv j)) := dop_I op_fdiv9 fun _ _ _ => .int _

noncomputable def ixD (M : Mem) : D → D → Option D
  | .tup ds, .int i => atI ds i
  | .ref p, .int i => match M p with
    | some (.lst ds) => atI ds i
    | _ => none
  | .vl ds, .int i => atI ds i
  | _, _ => none
noncomputable def gIx : DR2 := fun x y M R => ∃ z, ixD M x y = some z ∧ R z M
theorem IxR.or' {r r' : R2} (h : IxR X r) (h' : IxR X r') {g : R2} (i : ∀ x y H Q, g x y H Q → r x y H Q ∨ r' x y H Q) : IxR X g := IxR.imp (IxR.or h h') i
theorem i_any : DIx X gIx := IxR.or' ix_tup ix_list (by
  rintro x y H Q ⟨dx, dy, M, R, hx, hy, am, ⟨z, e, r⟩, f⟩
  cases dy with
  | int i =>
    cases hy
    cases dx with
    | tup ds =>
      cases hx with
      | tup s l =>
        obtain ⟨v, h1, h2⟩ := l.at (show atI ds i = some z from e)
        exact .inl ⟨_, _, i, v, rfl, rfl, s, h1, f z M r v H (KT.refl H) am h2⟩
    | ref p =>
      cases hx
      unfold ixD at e
      cases q : M p with
      | none => simp [q] at e
      | some o =>
        cases o with
        | lst ds =>
          simp only [q] at e
          obtain ⟨xs, h1, h2⟩ := am.lst q
          obtain ⟨v, h3, h4⟩ := h2.at e
          exact .inr ⟨_, _, i, v, rfl, rfl, SqL.of h1, h3, f z M r v H (KT.refl H) am h4⟩
        | ins C fs => simp [q] at e
        | dic hs kvs => simp [q] at e
    | vl ds =>
      obtain ⟨a, xs, rfl, sq, l⟩ := hx.il
      obtain ⟨v, h1, h2⟩ := l.at (show atI ds i = some z from e)
      exact .inr ⟨_, _, i, v, rfl, rfl, sq, h1, f z M r v H (KT.refl H) am h2⟩
    | _ => simp [ixD] at e
  | _ => cases dx <;> simp [ixD] at e)
theorem ixD_lst {M : Mem} {p : Addr} {ds : List D} {i : Int} {z : D} (m : M p = some (.lst ds)) (h : atI ds i = some z) : ixD M (.ref p) (.int i) = some z := by
  unfold ixD; simp only [m]; exact h

mutual
inductive PyR (M : Mem) : D → PyData → Prop
  | non : PyR M .non .none
  | bl (b : Bool) : PyR M (.bl b) (.bool b)
  | int (i : Int) : PyR M (.int i) (.int i)
  | str (x : Str) : PyR M (.str x) (.str x)
  | tup {ds : List D} {ps : List PyData} : PyRL M ds ps → PyR M (.tup ds) (.tuple ps)
  | lst {p : Addr} {ds : List D} {ps : List PyData} : M p = some (.lst ds) → PyRL M ds ps → PyR M (.ref p) (.list ps)
  | vl {ds : List D} {ps : List PyData} : PyRL M ds ps → PyR M (.vl ds) (.list ps)
inductive PyRL (M : Mem) : List D → List PyData → Prop
  | nil : PyRL M [] []
  | cons {d : D} {p : PyData} {ds : List D} {ps : List PyData} : PyR M d p → PyRL M ds ps → PyRL M (d :: ds) (p :: ps)
end
mutual
theorem reads_of {pins : List (Addr × Obj)} {s : Shared} {σ : St} {H : Hp} {M : Mem} (I : Inv X pins σ H s) (am : AbsM X.K H M) : ∀ {d : D} {p : PyData}, PyR M d p → ∀ {v : V} {u : Value}, Has X.K H v d → RelV v u → ∃ as, Reads s.heap u p as
  | _, _, .non, _, _, h, r => by cases h; cases r; exact ⟨_, .none⟩
  | _, _, .bl b, _, _, h, r => by cases h; cases r; exact ⟨_, .bool b⟩
  | _, _, .int i, _, _, h, r => by cases h; obtain ⟨t, rfl⟩ := r; exact ⟨_, .int i t⟩
  | _, _, .str x, _, _, h, r => by cases h; obtain ⟨t, rfl⟩ := r; exact ⟨_, .str x t⟩
  | _, _, .tup l, _, _, h, r => by
    cases h with
    | tup s' hl =>
      cases r
      obtain ⟨its, rv, ⟨o, e, hc, n, hd⟩, _⟩ := I.tuple s'
      obtain ⟨as, ra⟩ := readsL_of I am l hl rv
      exact ⟨as, .tuple e hc hd (by simpa using ra)⟩
  | _, _, .lst m l, _, _, h, r => by
    cases h
    cases r
    obtain ⟨xs, hx, hl⟩ := am.lst m
    obtain ⟨its, rv, ⟨o, n, e, hc, _, hd⟩, _⟩ := I.list (SqL.of hx)
    obtain ⟨as, ra⟩ := readsL_of I am l hl rv
    exact ⟨_, .list e hc hd (by simpa using ra)⟩
  | _, _, .vl l, _, _, h, r => by
    obtain ⟨a, xs, rfl, sq, hl⟩ := h.il
    cases r
    obtain ⟨its, rv, ⟨o, n, e, hc, _, hd⟩, _⟩ := I.list sq
    obtain ⟨as, ra⟩ := readsL_of I am l hl rv
    exact ⟨_, .list e hc hd (by simpa using ra)⟩
theorem readsL_of {pins : List (Addr × Obj)} {s : Shared} {σ : St} {H : Hp} {M : Mem} (I : Inv X pins σ H s) (am : AbsM X.K H M) : ∀ {ds : List D} {ps : List PyData}, PyRL M ds ps → ∀ {vs : List V} {us : List Value}, HasL X.K H vs ds → Vals vs us → ∃ as, ReadsAll s.heap us ps as
  | _, _, .nil, _, _, h, r => by cases h; cases r; exact ⟨_, .nil⟩
  | _, _, .cons a l, _, _, h, r => by
    cases h with
    | cons h hl =>
      cases r with
      | cons r rl =>
        obtain ⟨as, q⟩ := reads_of I am a h r
        obtain ⟨bs, q2⟩ := readsL_of I am l hl rl
        exact ⟨_, .cons q q2⟩
end
noncomputable def gEq (neg : Bool) : DR2 := fun x y M R => ∃ px py, PyR M x px ∧ PyR M y py ∧ SeqAt.shaped px = true ∧ SeqAt.shaped py = true ∧ R (.bl (neg.xor (PyData.eqv px py))) M
theorem o_eq (hu : X.A.units + 64 < cLine) : DOp X (compareOp .Eq) (gEq false) := by
  intro pins s σ H x y v u Q I rx ry h
  obtain ⟨dx, dy, M, R, hx, hy, am, ⟨px, py, p1, p2, s1, s2, r⟩, f⟩ := h
  obtain ⟨as, r1⟩ := reads_of I am p1 hx rx
  obtain ⟨bs, r2⟩ := reads_of I am p2 hy ry
  exact eq_dataH r1 r2 s1 s2 hu ⟨.bl _, H, I, rfl, by have := f _ M r _ H (KT.refl H) am (.bl _); simpa using this⟩
theorem o_ne (hu : X.A.units + 64 < cLine) : DOp X (compareOp .NotEq) (gEq true) := by
  intro pins s σ H x y v u Q I rx ry h
  obtain ⟨dx, dy, M, R, hx, hy, am, ⟨px, py, p1, p2, s1, s2, r⟩, f⟩ := h
  obtain ⟨as, r1⟩ := reads_of I am p1 hx rx
  obtain ⟨bs, r2⟩ := reads_of I am p2 hy ry
  exact ne_dataH r1 r2 s1 s2 hu ⟨.bl _, H, I, rfl, by have := f _ M r _ H (KT.refl H) am (.bl _); simpa using this⟩

mutual
noncomputable def pyD : D → PyData
  | .int i => .int i
  | .str x => .str x
  | .bl b => .bool b
  | .tup ds => .tuple (pyDL ds)
  | .vl ds => .list (pyDL ds)
  | _ => .none
noncomputable def pyDL : List D → List PyData
  | [] => []
  | d :: r => pyD d :: pyDL r
end
mutual
/-- ints, None, plain texts and tuples of such, k deep -/
noncomputable def cl : Nat → D → Bool
  | _, .int _ => true
  | _, .non => true
  | _, .str x => PyData.canLay0 (.str x)
  | k + 1, .tup ds => clL k ds
  | k + 1, .vl ds => clL k ds
  | _, _ => false
noncomputable def clL : Nat → List D → Bool
  | _, [] => true
  | k, d :: r => cl k d && clL k r
end
mutual
theorem cl_py {M : Mem} : ∀ {k : Nat} {d : D}, cl k d = true → PyR M d (pyD d) ∧ (pyD d).canLay0 = true ∧ (pyD d).depth ≤ k
  | _, .int i, _ => ⟨.int i, rfl, Nat.zero_le _⟩
  | _, .non, _ => ⟨.non, rfl, Nat.zero_le _⟩
  | 0, .tup ds, h => by simp [cl] at h
  | k + 1, .tup ds, h => by
    obtain ⟨a, b, c⟩ := clL_py (M := M) (k := k) (ds := ds) (by simpa [cl] using h)
    exact ⟨.tup a, by simpa [pyD, PyData.canLay0] using b, by simp only [pyD, PyData.depth]; omega⟩
  | _, .str x, h => ⟨.str x, by simpa [cl, pyD] using h, Nat.zero_le _⟩
  | _, .bl _, h => by simp [cl] at h
  | _, .ref _, h => by simp [cl] at h
  | 0, .vl ds, h => by simp [cl] at h
  | k + 1, .vl ds, h => by
    obtain ⟨a, b, c⟩ := clL_py (M := M) (k := k) (ds := ds) (by simpa [cl] using h)
    exact ⟨.vl a, by simpa [pyD, PyData.canLay0] using b, by simp only [pyD, PyData.depth]; omega⟩
  | _, .ty _, h => by simp [cl] at h
theorem clL_py {M : Mem} : ∀ {k : Nat} {ds : List D}, clL k ds = true → PyRL M ds (pyDL ds) ∧ PyData.canLayAll0 (pyDL ds) = true ∧ PyData.depthAll (pyDL ds) ≤ k
  | _, [], _ => ⟨.nil, rfl, Nat.zero_le _⟩
  | k, d :: r, h => by
    have h' : cl k d = true ∧ clL k r = true := by simpa [clL] using h
    obtain ⟨a, b, c⟩ := cl_py (M := M) h'.1
    obtain ⟨a2, b2, c2⟩ := clL_py (M := M) h'.2
    exact ⟨.cons a a2, by simp [pyDL, PyData.canLayAll0, b, b2], by simp only [pyDL, PyData.depthAll]; omega⟩
end
mutual
theorem cl_eqv : ∀ {k j : Nat} {x y : D}, cl k x = true → cl j y = true → (PyData.eqv (pyD x) (pyD y) = true ↔ x = y)
  | _, _, .int i, .int j, _, _ => by simp [pyD, PyData.eqv]
  | _, _, .int i, .non, _, _ => by simp [pyD, PyData.eqv]
  | _, _, .non, .int i, _, _ => by simp [pyD, PyData.eqv]
  | _, _, .non, .non, _, _ => by simp [pyD, PyData.eqv]
  | _, _, .int i, .tup ds, _, _ => by simp [pyD, PyData.eqv]
  | _, _, .non, .tup ds, _, _ => by simp [pyD, PyData.eqv]
  | _, _, .tup ds, .int i, _, _ => by simp [pyD, PyData.eqv]
  | _, _, .tup ds, .non, _, _ => by simp [pyD, PyData.eqv]
  | k + 1, j + 1, .tup ds, .tup es, h, h' => by
    have := clL_eqv (k := k) (j := j) (xs := ds) (ys := es) (by simpa [cl] using h) (by simpa [cl] using h')
    simp only [pyD, PyData.eqv, D.tup.injEq]
    exact this
  | 0, _, .tup ds, .tup es, h, _ => by simp [cl] at h
  | _, 0, .tup ds, .tup es, _, h => by simp [cl] at h
  | _, _, .str x, .str y, _, _ => by simp [pyD, PyData.eqv]
  | _, _, .str x, .int i, _, _ => by simp [pyD, PyData.eqv]
  | _, _, .str x, .non, _, _ => by simp [pyD, PyData.eqv]
  | _, _, .str x, .tup ds, _, _ => by simp [pyD, PyData.eqv]
  | _, _, .int i, .str x, _, _ => by simp [pyD, PyData.eqv]
  | _, _, .non, .str x, _, _ => by simp [pyD, PyData.eqv]
  | _, _, .tup ds, .str x, _, _ => by simp [pyD, PyData.eqv]
  | k + 1, j + 1, .vl ds, .vl es, h, h' => by
    have := clL_eqv (k := k) (j := j) (xs := ds) (ys := es) (by simpa [cl] using h) (by simpa [cl] using h')
    simp only [pyD, PyData.eqv, D.vl.injEq]
    exact this
  | 0, _, .vl ds, .vl es, h, _ => by simp [cl] at h
  | _, 0, .vl ds, .vl es, _, h => by simp [cl] at h
  | _, _, .vl ds, .int i, _, _ => by simp [pyD, PyData.eqv]
  | _, _, .vl ds, .non, _, _ => by simp [pyD, PyData.eqv]
  | _, _, .vl ds, .str x, _, _ => by simp [pyD, PyData.eqv]
  | _, _, .vl ds, .tup es, _, _ => by simp [pyD, PyData.eqv]
  | _, _, .int i, .vl ds, _, _ => by simp [pyD, PyData.eqv]
  | _, _, .non, .vl ds, _, _ => by simp [pyD, PyData.eqv]
  | _, _, .str x, .vl ds, _, _ => by simp [pyD, PyData.eqv]
  | _, _, .tup es, .vl ds, _, _ => by simp [pyD, PyData.eqv]
  | _, _, .bl _, _, h, _ => by simp [cl] at h
  | _, _, .ref _, _, h, _ => by simp [cl] at h
  | _, _, .ty _, _, h, _ => by simp [cl] at h
  | _, _, _, .bl _, _, h => by simp [cl] at h
  | _, _, _, .ref _, _, h => by simp [cl] at h
  | _, _, _, .ty _, _, h => by simp [cl] at h
theorem clL_eqv : ∀ {k j : Nat} {xs ys : List D}, clL k xs = true → clL j ys = true → (PyData.eqvAll (pyDL xs) (pyDL ys) = true ↔ xs = ys)
  | _, _, [], [], _, _ => by simp [pyDL, PyData.eqvAll]
  | _, _, [], _ :: _, _, _ => by simp [pyDL, PyData.eqvAll]
  | _, _, _ :: _, [], _, _ => by simp [pyDL, PyData.eqvAll]
  | k, j, x :: xs, y :: ys, h, h' => by
    have h1 : cl k x = true ∧ clL k xs = true := by simpa [clL] using h
    have h2 : cl j y = true ∧ clL j ys = true := by simpa [clL] using h'
    have e1 := cl_eqv h1.1 h2.1
    have e2 := clL_eqv h1.2 h2.2
    simp only [pyDL, PyData.eqvAll, Bool.and_eq_true, e1, e2, List.cons.injEq]
end
open Classical in
/-- == of clean data -/
theorem gEq_cl {neg : Bool} {x y : D} {M : Mem} {R : DK} (h : R (.bl (neg.xor (decide (x = y)))) M) (hx : cl 60 x = true := by rfl) (hy : cl 60 y = true := by rfl) : gEq neg x y M R := by
  obtain ⟨a, b, c⟩ := cl_py (M := M) hx
  obtain ⟨a2, b2, c2⟩ := cl_py (M := M) hy
  refine ⟨_, _, a, a2, ?_, ?_, ?_⟩
  · simp only [SeqAt.shaped, b, Bool.true_and]; exact decide_eq_true (by omega)
  · simp only [SeqAt.shaped, b2, Bool.true_and]; exact decide_eq_true (by omega)
  · have e : PyData.eqv (pyD x) (pyD y) = decide (x = y) := by
      have := cl_eqv hx hy
      by_cases q : x = y
      · rw [decide_eq_true q]; exact this.mpr q
      · rw [decide_eq_false q]
        cases z : PyData.eqv (pyD x) (pyD y) with
        | false => rfl
        | true => exact absurd (this.mp z) q
    rw [e]; exact h

end
end DL

namespace DL
open PySem PySem.Spec L2
open PyProof.Rows hiding St
section
variable {X : Cx} {a b c : Expr} {ta tb tc : DTE} {pos : Pos}

noncomputable def Y0 : DXK := fun _ _ => False
theorem fit0 {K : PySem.W.Frag} {H : Hp} {E : XK} : FitX K H Y0 E := fun _ _ h => h.elim
structure FunD (K : PySem.W.Frag) (x : Str) (st : Stmt) (f : Addr) (fd : FuncData) : Prop where
  ex : ∃ (oc : Value) (od : Option Addr) (dV kV doc pm : Value) (an : Option Addr) (cdv ct : Value) (osl : Array (Option Value)),
    fd = PySem.W.fnOf x x (defArgs st) (defBody st) (defScope st) dV kV doc pm an cdv ct ∧ K.lookup f = some ⟨oc, od, .func fd, osl⟩ ∧ PySem.W.codeIn K cdv x = true
  kp : PySem.W.keepIn K (.ref f) = true
structure Df (K : PySem.W.Frag) (mg : Str → Option Value) (x : Str) (st : Stmt) (ps : List Str) : Prop where
  ex : ∃ (f : Addr) (fd : FuncData), FunD K x st f fd ∧ mg x = some (.ref f) ∧ Binds K fd ps []
structure DfL (K : PySem.W.Frag) (mg : Str → Option Value) (x : Str) (st : Stmt) (ps : List Str) : Prop where
  ex : ∃ (f : Addr) (fd : FuncData), FunD K x st f fd ∧ mg x = some (.ref f) ∧ ∀ us : List Value, us.length = ps.length → bindArgs fd ⟨us, []⟩ = pure (ps.zip us)
structure Fn (P : Program) (w : World) (K : PySem.W.Frag) (mg : Str → Option Value) (base : Heap) (x : Str) (k : Nat) (ps : List Str) (sp : DSp) : Prop where
  ex : ∃ (f : Addr) (fd : FuncData), FnOk P w K mg base CX0 k f fd ps (upSp K sp) ∧ mg x = some (.ref f) ∧ PySem.W.keepIn K (.ref f) = true ∧ Binds K fd ps []
theorem jd_callF {x : Str} {j : Nat} {ps : List Str} {sp : DSp} {p : Pos} {e : Expr} {es : List Expr} {t : DTA} (G : Fn X.prog X.w X.K X.mg X.base x j ps sp) (hr : Room j X.A) (hg : Gl X x) (ha : JA X (e :: es) t)
    (hdb : (x == ("__debug__" : Str)) = false := by decide) (he : starEach (e :: es) X.env = (false, eval e X.env) :: starEach es X.env := by rfl) (hpl : (backTo pos (starEach es X.env)).any (·.1) = false := by rfl) : JE X (.Call (.Name x p) (e :: es) [] pos) (dCall sp [] Y0 t) := ⟨have ha := ha.out; by
  obtain ⟨f, fd, F, hm, hk, hb⟩ := G.ex
  exact d_call F hr hg hm hk hb .nil (fun _ => .nil) pass0 (fun _ => fit0) ha hdb he hpl⟩
end
section
variable {P : Program} {w : World} {K : PySem.W.Frag} {mg : Str → Option Value} {base : Heap}
theorem fn_ok {x : Str} {st : Stmt} {f : Addr} {fd : FuncData} {N ps : List Str} {k : Nat} {sp : DSp} (F : FunD K x st f fd) (S : FnScope N ps (defScope st)) (len : ∀ ds M R Y, sp ds M R Y → ds.length = ps.length)
    (hbody : ∀ (cdv : Value) (A : Around) (outer : List Env) (s : Shared) (H : Hp) (E : XK) (ds : List D) (M : Mem) (R : DK) (Y : DXK), Room k (A.deeper (envOfC x (defScope st) s.heap.objs.size f cdv)) → sp ds M R Y →
      ∃ t, JSs (cxOf CX0 P w K mg base N x (defScope st) f cdv A outer s H E).nox (defBody st) t ∧ t { nx := fun _ M' => R .non M', rt := R } (dstart N ds) M) : FnOk P w K mg base CX0 (k + 1) f fd ps (upSp K sp) := by
  obtain ⟨oc, od, dV, kV, doc, pm, an, cdv, ct, osl, rfl, lk, hcd⟩ := F.ex
  refine fn_of lk hcd S (fun vs H Q E ⟨ds, M, R, Y, hl, _, hs, _, _⟩ => by rw [hl.length]; exact len ds M R Y hs) fun A outer s H vs Q E hr zz => ?_
  obtain ⟨ds, M, R, Y, hl, am, hs, fv, fx⟩ := zz
  obtain ⟨t, h1, h2⟩ := hbody cdv A outer s H E ds M R Y hr hs
  refine ⟨_, h1.out.nox, dstart N ds, M, _, EnvOk.start0 hl, am, h2, ⟨?_, fv, fun _ _ h => h.elim, fun _ _ h => h.elim⟩⟩
  exact fun e M' h σ' H' kt a o => fv .non M' h .non H' kt a .non
theorem fn_by {x : Str} {st : Stmt} {N ps : List Str} {k : Nat} {sp : DSp} (d : Df K mg x st ps) (S : FnScope N ps (defScope st)) (len : ∀ ds M R Y, sp ds M R Y → ds.length = ps.length)
    (hbody : ∀ (f : Addr) (cdv : Value) (A : Around) (outer : List Env) (s : Shared) (H : Hp) (E : XK) (ds : List D) (M : Mem) (R : DK) (Y : DXK), Room k (A.deeper (envOfC x (defScope st) s.heap.objs.size f cdv)) → sp ds M R Y →
      ∃ t, JSs (cxOf CX0 P w K mg base N x (defScope st) f cdv A outer s H E).nox (defBody st) t ∧ t { nx := fun _ M' => R .non M', rt := R } (dstart N ds) M) : Fn P w K mg base x (k + 1) ps sp := by
  obtain ⟨f, fd, F, hm, hb⟩ := d.ex
  exact ⟨f, fd, fn_ok F S len (hbody f), hm, F.kp, hb⟩
theorem df_mk {x : Str} {st : Stmt} {ps : List Str} {h : Heap} {f : Addr} {oc : Value} {od an : Option Addr} {osl : Array (Option Value)} {dV kV doc pm cdv ct : Value} (X : K.In h) (G : h.Ns mainGlobals mg)
    (n : PySem.W.nsIn K mainGlobals x = some (some (.ref f)))
    (l : K.lookup f = some ⟨oc, od, .func (PySem.W.fnOf x x (defArgs st) (defBody st) (defScope st) dV kV doc pm an cdv ct), osl⟩)
    (c : PySem.W.codeIn K cdv x = true) (k : PySem.W.keepIn K (.ref f) = true)
    (hb : ∀ us : List Value, us.length = ps.length → bindArgs (PySem.W.fnOf x x (defArgs st) (defBody st) (defScope st) dV kV doc pm an cdv ct) ⟨us, []⟩ = pure (ps.zip us)) : Df K mg x st ps :=
  ⟨f, _, ⟨⟨oc, od, dV, kV, doc, pm, an, cdv, ct, osl, rfl, l, c⟩, k⟩, PySem.W.mg_of X G n, .all hb⟩
theorem dfl_mk {x : Str} {st : Stmt} {ps : List Str} {h : Heap} {f : Addr} {oc : Value} {od an : Option Addr} {osl : Array (Option Value)} {dV kV doc pm cdv ct : Value} (X : K.In h) (G : h.Ns mainGlobals mg)
    (n : PySem.W.nsIn K mainGlobals x = some (some (.ref f)))
    (l : K.lookup f = some ⟨oc, od, .func (PySem.W.fnOf x x (defArgs st) (defBody st) (defScope st) dV kV doc pm an cdv ct), osl⟩)
    (c : PySem.W.codeIn K cdv x = true) (k : PySem.W.keepIn K (.ref f) = true)
    (hb : ∀ us : List Value, us.length = ps.length → bindArgs (PySem.W.fnOf x x (defArgs st) (defBody st) (defScope st) dV kV doc pm an cdv ct) ⟨us, []⟩ = pure (ps.zip us)) : DfL K mg x st ps :=
  ⟨f, _, ⟨⟨oc, od, dV, kV, doc, pm, an, cdv, ct, osl, rfl, l, c⟩, k⟩, PySem.W.mg_of X G n, hb⟩
end
section
variable {X : Cx} {x : Str} {p pos : Pos} {e : Expr} {es : List Expr} {t : DTA} {id T : String} {o : Expr} {to : DTE} {a b c : Expr} {ta tb tc : DTE}
theorem jd_blt {g : DRC} (hc : DCall X (.builtin id) g) (hg : Gl X x) (hm : X.mg x = none) (hv : bootBuiltins x = some (.builtin id)) (ha : JA X (e :: es) t)
    (hn : x ≠ "__name__" := by decide) (hdb : (x == ("__debug__" : Str)) = false := by decide) (he : starEach (e :: es) X.env = (false, eval e X.env) :: starEach es X.env := by rfl) (hpl : (backTo pos (starEach es X.env)).any (·.1) = false := by rfl) : JE X (.Call (.Name x p) (e :: es) [] pos) (dCB g t) := ⟨have ha := ha.out; (pe_callB hc hg hm hv ha hn hdb he hpl).imp fun _ _ _ h => cb_up h⟩
theorem jd_blty {g : DRC} (hc : DCall X (.type T) g) (hg : Gl X x) (hm : X.mg x = none) (hv : bootBuiltins x = some (.type T)) (ha : JA X (e :: es) t)
    (hn : x ≠ "__name__" := by decide) (hdb : (x == ("__debug__" : Str)) = false := by decide) (he : starEach (e :: es) X.env = (false, eval e X.env) :: starEach es X.env := by rfl) (hpl : (backTo pos (starEach es X.env)).any (·.1) = false := by rfl) : JE X (.Call (.Name x p) (e :: es) [] pos) (dCB g t) := ⟨have ha := ha.out; (pe_callTy hc hg hm hv ha hn hdb he hpl).imp fun _ _ _ h => cb_up h⟩
theorem op_catS : OpR X (binaryOp .Add) (fun x y H Q => ∃ l b xs zs, x = .ref l ∧ y = .ref b ∧ SqL X.K H l xs ∧ SqL X.K H b zs ∧ xs.length + zs.length ≤ sizeLine ∧ ∀ p, H p = none → Q (.ref p) (upd H p (.lst (xs ++ zs)))) := by
  intro pins s σ H x y v u Q I rx ry h
  obtain ⟨l, b, xs, zs, rfl, rfl, hH, hB, hz, q⟩ := h
  cases rx
  cases ry
  obtain ⟨its, r, pl, z1⟩ := I.list hH
  obtain ⟨its2, r2, pl2, z2⟩ := I.list hB
  have hl := r.length
  have hl2 := r2.length
  obtain ⟨⟨cls, dd, data, sl⟩, ho, hc, n, hd⟩ := pl.isList
  obtain ⟨⟨cls2, dd2, data2, sl2⟩, ho2, hc2, n2, hd2⟩ := pl2.isList
  simp only at hc hd hc2 hd2
  subst hc hd hc2 hd2
  have ea : its.toArray ++ its2.toArray = (its ++ its2).toArray := by simp
  refine concat_meets ⟨_, ho, rfl⟩ ⟨_, ho2, rfl⟩ noFill_list_add seq_list_add PySem.F.slot_list_add PySem.F.entry_list_add (PySem.F.args_list_add_2 _ _) (list_addW l b its.toArray its2.toArray n n2 dd dd2 sl sl2 (by simp only [List.size_toArray]; omega)) ⟨ho, ho2, ?_⟩
  rw [ea]
  exact ⟨.ref _, _, I.lnew (t' := s.toks) (r.append r2) (by rw [List.length_append]; omega), rfl, q _ I.fresh⟩
noncomputable def itemsD (M : Mem) : D → Option (List D)
  | .ref p => match M p with
    | some (.lst ds) => some ds
    | _ => none
  | .vl ds => some ds
  | _ => none
theorem itemsD_has {K : PySem.W.Frag} {H : Hp} {M : Mem} {v : V} {d : D} {ds : List D} (am : AbsM K H M) (h : Has K H v d) (e : itemsD M d = some ds) : ∃ a xs, v = .ref a ∧ SqL K H a xs ∧ HasL K H xs ds := by
  cases h with
  | ref p =>
    unfold itemsD at e
    cases q : M p with
    | none => simp [q] at e
    | some o =>
      cases o with
      | lst es =>
        simp only [q] at e
        cases e
        obtain ⟨xs, hx, l⟩ := am.lst q
        exact ⟨p, xs, rfl, SqL.of hx, l⟩
      | ins C fs => simp [q] at e
      | dic hs kvs => simp [q] at e
  | vl hq hl =>
    cases e
    exact Has.il (.vl hq hl)
  | _ => cases e
end
end DL
namespace DL
open PySem PySem.Spec L2
open PyProof.Rows hiding St

end DL

namespace DL
open PySem PySem.Spec L2
open PyProof.Rows hiding St
theorem sl (n : Nat) (h : n ≤ 1000 := by decide) : n ≤ sizeLine := Nat.le_trans h (by decide)
section
variable {X : Cx}
open Classical in
/-- == and != of clean data, of scalars -/
noncomputable def gEqC (neg : Bool) : DR2 := fun x y M R => cl 60 x = true ∧ cl 60 y = true ∧ R (.bl (neg.xor (decide (x = y)))) M
theorem o_eqC (hu : X.A.units + 64 < cLine) : DOp X (compareOp .Eq) (gEqC false) := OpR.imp (o_eq hu) (by rintro _ _ _ _ ⟨dx, dy, M, R, hx, hy, am, ⟨h1, h2, h3⟩, f⟩; exact ⟨dx, dy, M, R, hx, hy, am, gEq_cl h3 h1 h2, f⟩)
theorem o_neC (hu : X.A.units + 64 < cLine) : DOp X (compareOp .NotEq) (gEqC true) := OpR.imp (o_ne hu) (by rintro _ _ _ _ ⟨dx, dy, M, R, hx, hy, am, ⟨h1, h2, h3⟩, f⟩; exact ⟨dx, dy, M, R, hx, hy, am, gEq_cl h3 h1 h2, f⟩)
theorem o_eqI : DOp X (compareOp .Eq) (gF (fI fun i j => .bl (decide (i = j)))) := OpR.imp op_eq (by
  rintro x y H Q ⟨dx, dy, M, R, hx, hy, am, ⟨z, e, r⟩, f⟩
  obtain ⟨i, j, e1, e2, e3⟩ := fI_some e
  subst e1; subst e2; subst e3
  cases hx; cases hy
  refine ⟨rfl, ?_⟩
  have e : decide (V.int i = V.int j) = decide (i = j) := by simp
  rw [e]
  exact f _ M r _ H (KT.refl H) am (.bl _))
theorem o_neI : DOp X (compareOp .NotEq) (gF (fI fun i j => .bl (!decide (i = j)))) := OpR.imp op_ne (by
  rintro x y H Q ⟨dx, dy, M, R, hx, hy, am, ⟨z, e, r⟩, f⟩
  obtain ⟨i, j, e1, e2, e3⟩ := fI_some e
  subst e1; subst e2; subst e3
  cases hx; cases hy
  refine ⟨rfl, ?_⟩
  have e : decide (V.int i = V.int j) = decide (i = j) := by simp
  rw [e]
  exact f _ M r _ H (KT.refl H) am (.bl _))
noncomputable def gIntB : DRC := fun ds M R => ∃ k : Bool, ds = [.bl k] ∧ R (.int (if k then 1 else 0)) M
theorem c_intB : DCall X (.type "int") gIntB := CallR.imp c_int (by rintro xs H Q ⟨ds, M, R, hl, am, ⟨k, z, r⟩, f⟩; exact ⟨ds, M, R, hl, am, .inr ⟨k, z, r⟩, f⟩)
end
theorem iteD {c : Prop} [Decidable c] {A B : Prop} (h1 : c → A) (h2 : ¬ c → B) : if decide c = true then A else B := by
  by_cases h : c
  · rw [if_pos (decide_eq_true h)]; exact h1 h
  · rw [if_neg (by rw [decide_eq_false h]; exact Bool.false_ne_true)]; exact h2 h
theorem log_lt {n k : Nat} (h : n < 2 ^ k) (hk : 0 < k) : n.log2 < k := by
  rcases Nat.eq_zero_or_pos n with h0 | h0
  · subst h0; rw [Nat.log2_zero]; exact hk
  · exact (Nat.log2_lt (Nat.pos_iff_ne_zero.mp h0)).mpr h
theorem mulOk {a b : Int} (m n : Nat) (ha : a.natAbs < 2 ^ m) (hb : b.natAbs < 2 ^ n) (h : m + n ≤ 100000) : IntMulOk a b := by
  have hx : ∀ (x : Int) (k : Nat), x.natAbs < 2 ^ k → Builtin.Int.intBits x ≤ k := fun x k hx => by
    unfold Builtin.Int.intBits
    split
    · exact Nat.zero_le _
    · rename_i h0
      have : x.natAbs ≠ 0 := by
        intro z; apply h0
        first | exact (by simpa using Int.natAbs_eq_zero.mp z) | (simp; omega)
      have := (Nat.log2_lt this).mpr hx
      omega
  exact PySem.IntMulOk.of_le (hx a m ha) (hx b n hb) (by omega)
end DL
namespace DL
open PySem PySem.Spec L2
open PyProof.Rows hiding St
theorem has_script {K : PySem.W.Frag} {H : Hp} {a : Addr} {ns : List Int} (hO : Only H) (hS : SqL K H a (ns.map V.int)) : Has K H (.ref a) (.vl (ns.map D.int)) := by
  rcases hS with (h | ⟨o, h⟩) | h
  · rcases hO a with z | ⟨o, xs, z⟩
    · rw [z] at h; cases h
    · rw [z] at h; cases h
  · exact .vl (.inl ⟨o, h⟩) (HasL.ints ns)
  · exact .vl (.inr fun _ => .inr h) (HasL.ints ns)
theorem law_sp {K : PySem.W.Frag} {H : Hp} {a : Addr} {ns : List Int} {sp : DSp} (hO : Only H) (hS : SqL K H a (ns.map V.int)) (h : sp [.vl (ns.map D.int)] (fun _ => none) (fun d _ => d = .bl true) Y0) :
    upSp K sp [.ref a] H (fun v _ => v = .bl true) (fun _ _ _ => False) :=
  ⟨[.vl (ns.map D.int)], fun _ => none, fun d _ => d = .bl true, Y0, .cons (has_script hO hS) .nil, fun _ _ z => (by cases z), h, fun d M' e v H' _ _ hv => by subst e; cases hv; rfl, fun _ _ z => z.elim⟩
end DL

namespace DL
open PySem PySem.Spec L2
open PyProof.Rows hiding St
section
variable {X : Cx} {o e : Expr} {es : List Expr} {to : DTE} {t : DTA} {name : Str} {apos cpos : Pos} {id : String}

noncomputable abbrev DRM := D → List D → Mem → DK → Prop
noncomputable def upM (K : PySem.W.Frag) (g : DRM) : V → List V → Hp → VK → Prop := fun x xs H Q => ∃ dx ds M R, Has K H x dx ∧ HasL K H xs ds ∧ AbsM K H M ∧ g dx ds M R ∧ FitV K H R Q
noncomputable def DMt (X : Cx) (id : String) (g : DRM) : Prop := MtR X id (upM X.K g)
theorem MtR.imp {r r' : V → List V → Hp → VK → Prop} (h : MtR X id r) (i : ∀ x xs H Q, r' x xs H Q → r x xs H Q) : MtR X id r' := fun pins s σ H x xs v us Q I rx rv q => h pins s σ H x xs v us Q I rx rv (i x xs H Q q)
noncomputable def dLM (g : DRM) (to : DTE) (t : DTA) : DTE := fun e M R => to e M fun x M1 => (∃ l ds, x = .ref l ∧ M1 l = some (.lst ds)) ∧ t e M1 fun xs M2 => g x xs M2 R
theorem jd_lm {g : DRM} (slot : Slot "list" name id) (hty : typeOf (.builtin id) = pure (.type "method_descriptor")) (hm : DMt X id g) (ho : JE X o to) (ha : JA X (e :: es) t)
    (hbase : attributeBase o name X.env (eval o X.env) = eval o X.env := by rfl)
    (hfew : ((backTo cpos (starEach (e :: es) X.env)).all (fun x => !x.1) && (backToKw cpos (keywordEach [] X.env)).all (fun x => x.1.isSome)
      && decide ((e :: es).length + ([] : List Keyword).length + (if ([] : List Keyword).isEmpty then 0 else 1) < 30)) = true := by rfl)
    (hline : (apos.endLine == cpos.line) = true := by rfl) (hs : starEach (e :: es) X.env = (false, eval e X.env) :: starEach es X.env := by rfl) (hplain : (backTo cpos (starEach es X.env)).any (·.1) = false := by rfl) : JE X (.Call (.Attribute o name apos) (e :: es) [] cpos) (dLM g to t) := ⟨have ho := ho.out; have ha := ha.out; (pe_bm PySem.F.plainAttrs_list slot hty hm ho ha hbase hfew hline hs hplain).imp (by rintro σ H Q ⟨e, M, R, ok, am, t, f⟩; exact ⟨e, M, _, ok, am, t, fun x M1 ⟨⟨l, ds, z, hM⟩, h1⟩ v H1 k1 a1 r1 => by
    subst z
    have r1' := r1
    cases r1
    obtain ⟨xs, hx, _⟩ := a1.lst hM
    refine ⟨.inl ⟨rfl, xs, SqL.of hx⟩, e, M1, _, ok.mono k1, a1, h1, fun zs M2 h2 vs H2 k2 a2 r2 => ?_⟩
    exact ⟨_, zs, M2, R, r1'.mono k2, r2, a2, h2, f.mono (k1.trans k2)⟩⟩)⟩
theorem vals_bools : ∀ {bs : List Bool} {us : List Value}, Vals (bs.map V.bl) us → us = bs.map Value.bool
  | [], _, r => by cases r; rfl
  | b :: bs, _, r => by
    cases r with
    | cons r rr =>
      cases (show _ = Value.bool b from r)
      rw [vals_bools rr]; rfl
theorem HasL.bools {K : PySem.W.Frag} {H : Hp} : ∀ {bs : List Bool} {vs : List V}, HasL K H vs (bs.map D.bl) → vs = bs.map V.bl
  | [], _, r => by cases r; rfl
  | b :: bs, _, r => by
    cases r with
    | cons r rr => cases r; rw [HasL.bools rr]; rfl
noncomputable def fB (f : Bool → Bool → D) : D → D → Option D
  | .bl i, .bl j => some (f i j)
  | _, _ => none
end
end DL

namespace DL
open PySem PySem.Spec L2
open PyProof.Rows hiding St

section
variable {X : Cx}

noncomputable def gTupL : DRC := fun ds M R => ∃ x ys, ds = [x] ∧ itemsD M x = some ys ∧ R (.tup ys) M
theorem c_tupL : DCall X (.type "tuple") gTupL := CallR.imp call_tuple_of (by
  rintro xs H Q ⟨ds, M, R, hl, am, ⟨x, ys, z, e, r⟩, f⟩
  subst z
  obtain ⟨v, rfl, hv⟩ := hl.one
  obtain ⟨a, vs, rfl, s, l⟩ := itemsD_has am hv e
  exact ⟨a, vs, rfl, .inl ⟨s, fun p hp => f _ M r _ _ (KT.alloc hp) (am.alloc hp) (.tup (SqT.of upd_same) (l.mono (KT.alloc hp)))⟩⟩)

end
end DL

namespace DL
open PySem PySem.Spec L2
open PyProof.Rows hiding St

section
variable {X : Cx} {st : Stmt} {rest : List Stmt} {t u : DTS}
noncomputable def dSeqM (t u : DTS) : DTS := fun F e M => ∃ P : Ev → Mem → Prop, t { F with nx := P } e M ∧ ∀ e' M', P e' M' → u F e' M'
theorem jds_consM (h1 : JS X st t) (h2 : JSs X rest u) : JSs X (st :: rest) (dSeqM t u) := ⟨have h1 := h1.out; have h2 := h2.out; (pss_cons h1 h2).imp (by rintro E σ H ⟨e, M, F, ok, am, ⟨P, t, hP⟩, f⟩; exact ⟨e, M, { F with nx := P }, ok, am, t, ⟨fun e' M' h σ' H' k a o => ⟨e', M', F, o, a, hP e' M' h, f.mono k⟩, f.rt, f.bk, f.ct⟩⟩)⟩
end
section
variable {X : Cx}
theorem range_any (bs : List Bool) : (List.range bs.length).any (fun i => bs.getD i true) = bs.any id := by
  have : (List.range bs.length).map (fun i => bs.getD i true) = bs := by
    apply List.ext_getElem (by simp)
    intro i h1 h2
    simp [List.getD_eq_getElem?_getD, h2]
  conv => rhs; rw [← this]
  rw [List.any_map]; rfl
theorem truth_bools {prog : Program} {w : World} {A : Around} (bs : List Bool) : TruthOf prog w A (fun i v => (bs.map Value.bool).toArray[i]? = some v) (fun i => bs.getD i true) := by
  intro i v s Q E h q
  have h' : (bs.map Value.bool)[i]? = some v := by simpa using h
  rw [List.getElem?_map] at h'
  cases e : bs[i]? with
  | none => rw [e] at h'; cases h'
  | some b =>
    rw [e] at h'
    cases h'
    have q' : Q b s := by simpa [List.getD_eq_getElem?_getD, e] using q
    exact wpAny_truthy_bool q'
theorem call_anyB (hc : X.calm = true) : CallR X (.builtin "any") (fun xs H Q => ∃ (l : Addr) (bs : List Bool), xs = [.ref l] ∧ SqL X.K H l (bs.map V.bl) ∧ Q (.bl (bs.any id)) H) := by
  intro pins s σ H xs us Q I r h
  obtain ⟨l, bs, rfl, hS, q⟩ := h
  obtain ⟨u, rfl, ru⟩ := vals1 r
  cases ru
  obtain ⟨its, rv, p, _⟩ := I.list hS
  have hb := vals_bools rv
  subst hb
  have hl : s.heap.IsList l (bs.map Value.bool).toArray := p.isList
  have hne : l ≠ s.heap.objs.size := by
    obtain ⟨o, e, _⟩ := id hl
    exact Nat.ne_of_lt (Heap.lt_size e)
  refine call_any_walk (wpAny_pyIter_list hl ?_)
  refine ⟨s.heap.objs.size, _, _, _, _, _, fun i => bs.getD i true, rfl, Walks.list (A := X.A.in1) (I.ok.hd hc) s.heap.objs.size l hne (bs.map Value.bool).toArray, ⟨⟨_, Heap.get?_push_size _ rfl, rfl, rfl⟩, hl.at fun o e => Heap.get?_push_of_some _ e⟩, truth_bools bs, fun h' tk kk => ?_⟩
  have e : (List.range (bs.map Value.bool).toArray.size).any (fun i => bs.getD i true) = bs.any id := by
    rw [show (bs.map Value.bool).toArray.size = bs.length by simp]; exact range_any bs
  rw [e]
  exact ⟨.bl (bs.any id), H, I.kept fun b o z => kk b o (by simp; exact Nat.ne_of_lt (Heap.lt_size z)) (Heap.get?_push_of_some _ z), rfl, q⟩
noncomputable def gAny : DRC := fun ds M R => ∃ (d : D) (bs : List Bool), ds = [d] ∧ itemsD M d = some (bs.map D.bl) ∧ R (.bl (bs.any id)) M
theorem c_any (hc : X.calm = true) : DCall X (.builtin "any") gAny := CallR.imp (call_anyB hc) (by
  rintro xs H Q ⟨ds, M, R, hl, am, ⟨d, bs, z, hM, r⟩, f⟩
  subst z
  obtain ⟨v, rfl, hv⟩ := hl.one
  obtain ⟨a, vs, rfl, s, l⟩ := itemsD_has am hv hM
  rw [l.bools] at s
  exact ⟨a, bs, rfl, s, f _ M r _ H (KT.refl H) am (.bl _)⟩)
end
theorem bt_any : bootBuiltins "any" = some (.builtin "any") := by decide +kernel
structure GlD (K : PySem.W.Frag) (mg : Str → Option Value) (x : Str) (d : D) : Prop where
  ex : ∃ (v : V) (u : Value), mg x = some u ∧ RelV v u ∧ HasK K v d
theorem jd_globD {X : Cx} {x : Str} {d : D} {pos : Pos} (hg : Gl X x) (g : GlD X.K X.mg x d) (hd : (x == ("__debug__" : Str)) = false := by decide) : JE X (.Name x pos) (dC d) := ⟨by
  obtain ⟨v, u, h1, h2, h3⟩ := g.ex
  exact d_glob hg h1 h2 h3 hd⟩
noncomputable def fS (f : Str → Str → D) : D → D → Option D
  | .str i, .str j => some (f i j)
  | _, _ => none
theorem fS_some {f : Str → Str → D} {x y z : D} (h : fS f x y = some z) : ∃ i j, x = .str i ∧ y = .str j ∧ z = f i j := by
  cases x with
  | str i =>
    cases y with
    | str j => exact ⟨i, j, rfl, rfl, (Option.some.inj h).symm⟩
    | _ => cases h
  | _ => cases h
section
variable {X : Cx}
theorem o_eqS : DOp X (compareOp .Eq) (gF (fS fun i j => .bl (decide (i = j)))) := OpR.imp op_eq (by
  rintro x y H Q ⟨dx, dy, M, R, hx, hy, am, ⟨z, e, r⟩, f⟩
  obtain ⟨i, j, e1, e2, e3⟩ := fS_some e
  subst e1; subst e2; subst e3
  cases hx; cases hy
  refine ⟨rfl, ?_⟩
  have e : decide (V.str i = V.str j) = decide (i = j) := by simp
  rw [e]
  exact f _ M r _ H (KT.refl H) am (.bl _))
end
end DL

namespace DL
open PySem PySem.Spec L2
open PyProof.Rows hiding St

structure Walk (K : PySem.W.Frag) (H1 : Hp) (J : It) (ds : List D) (stay : Mem → Prop) : Prop where
  go : ∀ i H' M', i < ds.length → KT H1 H' → AbsM K H' M' → stay M' → J.go i H'
  yld : ∀ i H' M' x H'', i < ds.length → KT H1 H' → AbsM K H' M' → stay M' → J.yld i H' x H'' → ∃ d, ds[i]? = some d ∧ KT H' H'' ∧ AbsM K H'' M' ∧ Has K H'' x d
  stop : ∀ i H' M', ds.length ≤ i → KT H1 H' → AbsM K H' M' → stay M' → J.stop i H'
  up : ∀ M' p o, stay M' → M' p = none → stay (updM M' p o)
noncomputable def upI (K : PySem.W.Frag) (ti : DTI) : TI := fun σ H R => ∃ e M R', EnvOk K H σ e ∧ AbsM K H M ∧ ti e M R' ∧ ∀ ds stay M1, R' ds stay M1 → ∀ H1, KT H H1 → AbsM K H1 M1 → ∀ J, Walk K H1 J ds stay → R J H1
noncomputable def DPI (X : Cx) (tg iter : Expr) (ti : DTI) : Prop := PI X tg iter (upI X.K ti)
structure JI (X : Cx) (tg iter : Expr) (ti : DTI) : Prop where
  out : DPI X tg iter ti
theorem PI.imp {X : Cx} {tg iter : Expr} {wi wi' : TI} (h : PI X tg iter wi) (i : ∀ σ H R, wi' σ H R → wi σ H R) : PI X tg iter wi' := fun pins s σ H R I q => h pins s σ H R I (i σ H R q)
section
variable {X : Cx} {tg iter : Expr} {ti : DTE} {ta : DTA}
theorem walk_tup {K : PySem.W.Frag} {H1 : Hp} {a : Addr} {xs : List V} {ds : List D} (s : SqT K H1 a xs) (l : HasL K H1 xs ds) : Walk K H1 (Itt K a) ds (fun _ => True) where
  go := fun i H' M' hi k _ _ => ⟨xs, _, k.sq s, List.getElem?_eq_getElem (by rw [l.length]; exact hi)⟩
  yld := fun i H' M' x H'' hi k am _ zz => by
    obtain ⟨e, y⟩ := zz
    subst e
    obtain ⟨d, hd, r⟩ := l.getV (y xs (k.sq s))
    exact ⟨d, hd, KT.refl _, am, r.mono k⟩
  stop := fun i H' M' hi k _ _ => ⟨xs, k.sq s, by rw [l.length]; exact hi⟩
  up := fun _ _ _ _ _ => trivial
theorem walk_lst {K : PySem.W.Frag} {H1 : Hp} {p : Addr} {ds : List D} : Walk K H1 (Itl K p) ds (fun M' => M' p = some (.lst ds)) where
  go := fun i H' M' hi k am st => by
    obtain ⟨ys, hy, ly⟩ := am.lst st
    exact ⟨ys, _, SqL.of hy, List.getElem?_eq_getElem (by rw [ly.length]; exact hi)⟩
  yld := fun i H' M' x H'' hi k am st zz => by
    obtain ⟨e, y⟩ := zz
    subst e
    obtain ⟨ys, hy, ly⟩ := am.lst st
    obtain ⟨d, hd, r⟩ := ly.getV (y ys (SqL.of hy))
    exact ⟨d, hd, KT.refl _, am, r⟩
  stop := fun i H' M' hi k am st => by
    obtain ⟨ys, hy, ly⟩ := am.lst st
    exact ⟨ys, SqL.of hy, by rw [ly.length]; exact hi⟩
  up := fun M' q o st hq => by rw [updM_ne (by intro e; subst e; rw [hq] at st; cases st)]; exact st
theorem walk_rng {K : PySem.W.Frag} {H1 : Hp} {lo : Int} {n : Nat} : Walk K H1 (Itr lo n) (rangeD lo n) (fun _ => True) where
  go := fun i H' M' hi k am st => by rw [rangeD_length] at hi; exact hi
  yld := fun i H' M' x H'' hi k am st zz => by
    obtain ⟨e, y⟩ := zz
    subst e; subst y
    rw [rangeD_length] at hi
    exact ⟨_, rangeD_get hi, KT.refl _, am, .int _⟩
  stop := fun i H' M' hi k am st => by rw [rangeD_length] at hi; exact hi
  up := fun _ _ _ _ _ => trivial
theorem jpd_rng {a : Expr} {p p2 : Pos} (hr : Gl X "range") (hm : X.mg "range" = none) (ha : JA X [a] ta) (hs0 : starEach [a] X.env = [(false, eval a X.env)] := by rfl) : JI X tg (.Call (.Name "range" p) [a] [] p2) (diRng ta) := ⟨have ha := ha.out; PI.imp (pi_range1 hr hm ha hs0) (by rintro σ H R ⟨e, M, R', ok, am, t, f⟩; exact ⟨e, M, _, ok, am, t, fun ds M1 ⟨j, z, b1, b2, r⟩ vs H1 k1 a1 r1 => by
    subst z
    obtain ⟨v, rfl, hv⟩ := r1.one
    cases hv
    exact ⟨j, rfl, b1, b2, f _ _ M1 r H1 k1 a1 _ walk_rng⟩⟩)⟩
theorem jpd_rng2 {a b : Expr} {p p2 : Pos} (hr : Gl X "range") (hm : X.mg "range" = none) (ha : JA X [a, b] ta) (hs0 : starEach [a, b] X.env = [(false, eval a X.env), (false, eval b X.env)] := by rfl) (hs1 : starEach [b] X.env = [(false, eval b X.env)] := by rfl) : JI X tg (.Call (.Name "range" p) [a, b] [] p2) (diRng2 ta) := ⟨have ha := ha.out; PI.imp (pi_range2 hr hm ha hs0 hs1) (by rintro σ H R ⟨e, M, R', ok, am, t, f⟩; exact ⟨e, M, _, ok, am, t, fun ds M1 ⟨i, j, z, b1, r⟩ vs H1 k1 a1 r1 => by
    subst z
    cases r1 with
    | cons h1 r1 =>
      obtain ⟨v, rfl, hv⟩ := r1.one
      cases h1
      cases hv
      exact ⟨i, j, rfl, b1, f _ _ M1 r H1 k1 a1 _ walk_rng⟩⟩)⟩
noncomputable def seqD (M : Mem) (x : D) (ds : List D) : Prop := x = .tup ds ∨ (∃ p, x = .ref p ∧ M p = some (.lst ds)) ∨ x = .vl ds
noncomputable def kindD : D → Bool
  | .tup _ => false
  | _ => true
theorem seqD_has {K : PySem.W.Frag} {H : Hp} {M : Mem} {v : V} {x : D} {ds : List D} (h : seqD M x ds) (am : AbsM K H M) (r : Has K H v x) : ∃ a xs, v = .ref a ∧ SqK K (kindD x) H a xs ∧ HasL K H xs ds := by
  rcases h with rfl | ⟨p, rfl, m⟩ | rfl
  rotate_left 2
  · obtain ⟨a, xs, e, sq, l⟩ := r.il
    exact ⟨a, xs, e, sq, l⟩
  · cases r with
    | tup s l => exact ⟨_, _, rfl, s, l⟩
  · cases r
    obtain ⟨xs, hx, l⟩ := am.lst m
    exact ⟨p, xs, rfl, SqL.of hx, l⟩
theorem seqD_up {M : Mem} {x : D} {ds : List D} {q : Addr} {o : MO} (h : seqD M x ds) (hq : M q = none) : seqD (updM M q o) x ds := by
  rcases h with h | ⟨p, e, h⟩ | h
  · exact .inl h
  · exact .inr (.inl ⟨p, e, by rw [updM_ne (by intro e; subst e; rw [hq] at h; cases h)]; exact h⟩)
  · exact .inr (.inr h)
end

section
variable {X : Cx} {tg iter : Expr} {body : List Stmt} {ti : DTI} {g : DTG} {tb : DTS} {pos : Pos}
theorem jds_forI (hp : PassesOwn (model X.prog X.w) X.A X.env X.xe) (hc : X.calm = true) (hi : JI X tg iter ti) (hg : JG X tg g) (hb : JSs X body tb)
    (hs : ∀ x, foldedSetIterable iter X.env x = pure x := by intro _; rfl) : JS X (.For tg iter body [] pos) (dFor ti g tb) := ⟨have hi := hi.out; have hg := hg.out; have hb := hb.out; (ps_for hp hc hi hg hb hs).imp (by rintro E σ H ⟨e, M, F, ok, am, t, f⟩; exact ⟨e, M, _, ok, am, t, fun ds stay M1 ⟨W, w0, hst, step, done⟩ H1 k1 a1 J wk => by
    refine ⟨fun i m σ' H' => m = ds.length - i ∧ i ≤ ds.length ∧ ∃ e' M', KT H1 H' ∧ EnvOk X.K H' σ' e' ∧ AbsM X.K H' M' ∧ W i e' M', ⟨ds.length, by simp, Nat.zero_le _, e, M1, KT.refl H1, ok.mono k1, a1, w0⟩, ?_⟩
    rintro i m σ2 H2 ⟨rfl, hi, e2, M2, k2, ok2, a2, w2⟩
    have st := hst i e2 M2 hi w2
    by_cases hlt : i < ds.length
    · refine .inr ⟨wk.go i H2 M2 hlt k2 a2 st, fun σ' H' => ∃ e' M', KT H1 H' ∧ EnvOk X.K H' σ' e' ∧ AbsM X.K H' M' ∧ W (i + 1) e' M', fun σ' H' h => ⟨ds.length - (i + 1), by omega, rfl, hlt, h⟩, fun y H' yl => ?_⟩
      obtain ⟨d, hd, k3, a3, r⟩ := wk.yld i H2 M2 y H' hlt k2 a2 st yl
      exact for_turn f k1 (k2.trans k3) (ok2.mono k3) a3 r (step i d e2 M2 hd w2)
    · have e' : i = ds.length := by omega
      subst e'
      exact .inl ⟨wk.stop _ H2 M2 (Nat.le_refl _) k2 a2 st, f.nx e2 M2 (done e2 M2 w2) σ2 H2 (k1.trans k2) a2 ok2⟩⟩)⟩
end

noncomputable def capE (n : Nat) (caps : List Nat) (e : Ev) : Ev := List.replicate n none ++ caps.map fun i => (e[i]?).getD none
theorem env_cap {K : PySem.W.Frag} {H : Hp} {σ : St} {e : Ev} (n : Nat) (caps : List Nat) (ok : EnvOk K H σ e) : EnvOk K H (capF n caps σ) (capE n caps e) := by
  refine ⟨by simp [capF, capE], fun i d h => ?_⟩
  unfold capE at h
  unfold capF
  rw [List.getElem?_append] at h ⊢
  rw [List.length_replicate] at h ⊢
  by_cases hi : i < n
  · rw [if_pos hi] at h
    rw [List.getElem?_replicate] at h
    split at h <;> cases h
  · rw [if_neg hi] at h ⊢
    rw [List.getElem?_map] at h ⊢
    cases hj : caps[i - n]? with
    | none => rw [hj] at h; cases h
    | some j =>
      rw [hj] at h
      have h' : (e[j]?).getD none = some d := by simpa using h
      have he : e[j]? = some (some d) := by
        cases q : e[j]? with
        | none => rw [q] at h'; cases h'
        | some z => rw [q] at h'; rw [show z = some d by simpa using h']
      obtain ⟨v, h1, h2⟩ := ok.has j d he
      exact ⟨v, by simp [h1], h2⟩
theorem all1 {p : Str → Prop} {a : Str} (h : p a) : ∀ x ∈ [a], p x := fun x hx => by
  simp only [List.mem_cons, List.not_mem_nil, or_false] at hx
  subst hx; exact h
end DL

namespace DL
open PySem PySem.Spec L2
open PyProof.Rows hiding St

section
variable {X : Cx}
noncomputable def iSeq (K : PySem.W.Frag) (tl : TE) : TI := fun σ H R => tl σ H fun x H1 => ∃ (a : Addr) (k : Bool), x = .ref a ∧ (∃ xs, SqK K k H1 a xs) ∧ R (if k = true then Itl K a else Itt K a) H1
theorem pi_seq {tg l : Expr} {tl : TE} (hl : PE X l tl) : PI X tg l (iSeq X.K tl) := by
  intro pins s σ H R I h
  refine thn (hl pins s σ H _ I h) fun v s1 zz => ?_
  obtain ⟨x, H1, I1, r1, q1⟩ := zz
  obtain ⟨a, k, e, ⟨xs, hq⟩, q⟩ := q1
  subst e
  cases r1
  obtain ⟨its, rv, p⟩ := I1.sqk hq
  have nf : ∀ b ∈ [s1.heap.objs.size], FpOk X pins H1 b := fun b hb => by
    have e : b = s1.heap.objs.size := by simpa using hb
    subst e
    exact I1.fpOk (Nat.le_refl _) (I1.hok.fresh (Nat.le_refl _))
  cases k with
  | true => exact wpAny_pyIter_list p ⟨s1.heap.objs.size, [s1.heap.objs.size], _, _, H1, rfl, I1.kept (t' := s1.toks) fun b o e => Heap.get?_push_of_some _ e, turn_list a _, ⟨_, Heap.get?_push_size _ rfl, rfl, rfl⟩, nf, q⟩
  | false => exact wpAny_pyIter_tuple p ⟨s1.heap.objs.size, [s1.heap.objs.size], _, _, H1, rfl, I1.kept (t' := s1.toks) fun b o e => Heap.get?_push_of_some _ e, turn_tuple a _, ⟨_, Heap.get?_push_size _ rfl, rfl, rfl⟩, nf, q⟩
noncomputable def diSeq (ti : DTE) : DTI := fun e M R => ti e M fun x M1 => ∃ ds, seqD M1 x ds ∧ R ds (fun M' => seqD M' x ds) M1
theorem jpd_seq {tg iter : Expr} {ti : DTE} (hi : JE X iter ti) : JI X tg iter (diSeq ti) := ⟨have hi := hi.out; PI.imp (pi_seq hi) (by rintro σ H R ⟨e, M, R', ok, am, t, f⟩; exact ⟨e, M, _, ok, am, t, fun x M1 ⟨ds, sq, r⟩ v H1 k1 a1 r1 => by
  have sq' := sq
  rcases sq with rfl | ⟨p, rfl, hm⟩ | rfl
  rotate_left 2
  · obtain ⟨a, xs, rfl, sq, l⟩ := r1.il
    have wk : Walk X.K H1 (Itl X.K a) ds (fun M' => seqD M' (.vl ds) ds) := ⟨fun i H' M' hi k am _ => by
        obtain ⟨a', ys, e, sq', l'⟩ := (r1.mono k).il
        cases e
        exact ⟨ys, _, sq', List.getElem?_eq_getElem (by rw [l'.length]; exact hi)⟩,
      fun i H' M' x H'' hi k am _ zz => by
        obtain ⟨e, y⟩ := zz
        subst e
        obtain ⟨a', ys, e, sq', l'⟩ := (r1.mono k).il
        cases e
        obtain ⟨d, hd, r⟩ := l'.getV (y ys sq')
        exact ⟨d, hd, KT.refl _, am, r⟩,
      fun i H' M' hi k am _ => by
        obtain ⟨a', ys, e, sq', l'⟩ := (r1.mono k).il
        cases e
        exact ⟨ys, sq', by rw [l'.length]; exact hi⟩, fun _ _ _ st hq => seqD_up st hq⟩
    exact ⟨a, true, rfl, ⟨xs, sq⟩, f ds _ M1 r H1 k1 a1 _ wk⟩
  · cases r1 with
    | tup s l =>
      refine ⟨_, false, rfl, ⟨_, s⟩, f ds _ M1 r H1 k1 a1 _ ?_⟩
      have w := walk_tup (K := X.K) s l
      exact ⟨fun i H' M' a b c _ => w.go i H' M' a b c trivial, fun i H' M' y H2 a b c _ g => w.yld i H' M' y H2 a b c trivial g, fun i H' M' a b c _ => w.stop i H' M' a b c trivial, fun _ _ _ st hq => seqD_up st hq⟩
  · cases r1
    obtain ⟨xs, hx, l⟩ := a1.lst hm
    refine ⟨p, true, rfl, ⟨xs, SqL.of hx⟩, f ds _ M1 r H1 k1 a1 _ ?_⟩
    have w := walk_lst (K := X.K) (H1 := H1) (p := p) (ds := ds)
    have cv : ∀ {M' : Mem}, seqD M' (.ref p) ds → M' p = some (.lst ds) := fun z => by
      rcases z with z | ⟨p', z, h⟩ | z
      · cases z
      · cases z; exact h
      · cases z
    exact ⟨fun i H' M' a b c z => w.go i H' M' a b c (cv z), fun i H' M' y H2 a b c z g => w.yld i H' M' y H2 a b c (cv z) g, fun i H' M' a b c z => w.stop i H' M' a b c (cv z), fun _ _ _ st hq => seqD_up st hq⟩⟩)⟩
end

theorem gl_int {K : PySem.W.Frag} {mg : Str → Option Value} {h : Heap} {x : Str} {i : Int} {t : Tok} (X : K.In h) (G : h.Ns mainGlobals mg) (n : PySem.W.nsIn K mainGlobals x = some (some (.int i t))) : GlD K mg x (.int i) :=
  ⟨.int i, .int i t, PySem.W.mg_of X G n, ⟨t, rfl⟩, fun _ => .int i⟩
theorem lenD_lst {M : Mem} {p : Addr} {ds : List D} (h : M p = some (.lst ds)) : lenD M (.ref p) = some ds.length := by
  unfold lenD; simp only [h]
theorem atI_mem {ds : List D} {r : Int} (h0 : 0 ≤ r) (h1 : r < ds.length) : ∃ d, atI ds r = some d ∧ d ∈ ds := by
  unfold atI ixN
  rw [if_pos h0, if_pos h1]
  have hl : r.toNat < ds.length := by omega
  exact ⟨ds[r.toNat], by simp [hl], List.getElem_mem hl⟩
section
variable {X : Cx}
noncomputable def gListOf : DRC := fun ds M R => ∃ x ys, ds = [x] ∧ seqD M x ys ∧ ∀ p, M p = none → R (.ref p) (updM M p (.lst ys))
theorem c_listOf : DCall X (.type "list") gListOf := CallR.imp call_list_of (by
  rintro xs H Q ⟨ds, M, R, hl, am, ⟨x, ys, z, e, r⟩, f⟩
  subst z
  obtain ⟨v, rfl, hv⟩ := hl.one
  rcases e with rfl | ⟨p, rfl, hm⟩ | rfl
  rotate_left 2
  · obtain ⟨a, xs, rfl, sq, l⟩ := hv.il
    exact ⟨a, xs, rfl, .inl sq, fun p hp => f _ _ (r p (am.fresh hp)) _ _ (KT.alloc hp) (am.new hp l) (.ref p)⟩
  · cases hv with
    | tup s l => exact ⟨_, _, rfl, .inr s, fun p hp => f _ _ (r p (am.fresh hp)) _ _ (KT.alloc hp) (am.new hp l) (.ref p)⟩
  · cases hv
    obtain ⟨zs, hx, l⟩ := am.lst hm
    exact ⟨p, zs, rfl, .inl (SqL.of hx), fun q hq => f _ _ (r q (am.fresh hq)) _ _ (KT.alloc hq) (am.new hq l) (.ref q)⟩)
end
section
variable {X : Cx}
noncomputable def gAppend : DRM := fun x xs M R => ∃ l ds v, x = .ref l ∧ xs = [v] ∧ M l = some (.lst ds) ∧ ds.length < sizeLine ∧ R .non (updM M l (.lst (ds ++ [v])))
theorem dm_append : DMt X "list.append" gAppend := MtR.imp (r := rAppend) mt_append (by
  rintro x xs H Q ⟨dx, ds, M, R, hx, hl, am, ⟨l, es, v, e1, e2, hM, hz, r⟩, f⟩
  subst e1; subst e2
  cases hx
  obtain ⟨w, rfl, hw⟩ := hl.one
  obtain ⟨ys, hy, ly⟩ := am.lst hM
  exact ⟨l, ys, w, rfl, rfl, hy, by rw [ly.length]; exact hz, f _ _ r _ _ (KT.write hy) (am.write hy (ly.append (.cons hw .nil))) .non⟩)
end
end DL

namespace DL
open PySem PySem.Spec L2
open PyProof.Rows hiding St
theorem atI_last {xs : List D} {x : D} : atI (xs ++ [x]) (-1) = some x := by
  unfold atI ixN
  rw [if_neg (by decide), List.length_append, List.length_singleton]
  rw [if_pos (by omega)]
  have e : ((-1 : Int) + ((xs.length + 1 : Nat) : Int)).toNat = xs.length := by omega
  rw [e]
  simp
theorem HasL.rep {K : PySem.W.Frag} {H : Hp} {xs : List V} {ds : List D} (h : HasL K H xs ds) : ∀ k : Nat, HasL K H (List.replicate k xs).flatten (List.replicate k ds).flatten
  | 0 => .nil
  | k + 1 => by
    rw [List.replicate_succ, List.replicate_succ, List.flatten_cons, List.flatten_cons]
    exact h.append (HasL.rep h k)
section
variable {X : Cx}
noncomputable def gRep : DR2 := fun x y M R => ∃ l k ds, x = .ref l ∧ y = .int k ∧ M l = some (.lst ds) ∧ 0 ≤ k ∧ k < 2 ^ 62 ∧ ds.length * k.toNat ≤ sizeLine ∧ ∀ p, M p = none → R (.ref p) (updM M p (.lst (List.replicate k.toNat ds).flatten))
theorem o_rep : DOp X (binaryOp .Mult) gRep := OpR.imp op_rep (by
  rintro x y H Q ⟨dx, dy, M, R, hx, hy, am, ⟨l, k, ds, e1, e2, hm, h0, h1, hz, r⟩, f⟩
  subst e1; subst e2
  cases hx; cases hy
  obtain ⟨xs, hx, lx⟩ := am.lst hm
  exact ⟨l, k, xs, rfl, rfl, hx, by omega, by omega, by rw [lx.length]; exact hz, fun p hp => f _ _ (r p (am.fresh hp)) _ _ (KT.alloc hp) (am.new hp (lx.rep _)) (.ref p)⟩)
end
end DL

namespace DL
open PySem PySem.Spec L2
open PyProof.Rows hiding St

noncomputable abbrev DTO := Ev → Mem → (Option Int → Mem → Prop) → Prop
noncomputable def upO (K : PySem.W.Frag) (t : DTO) : TO := fun σ H Q => ∃ e M R, EnvOk K H σ e ∧ AbsM K H M ∧ t e M R ∧ ∀ o M', R o M' → ∀ H', KT H H' → AbsM K H' M' → Q o H'
noncomputable def DPO (X : Cx) (e : Option Expr) (t : DTO) : Prop := PO X e (upO X.K t)
structure JO (X : Cx) (e : Option Expr) (t : DTO) : Prop where
  out : DPO X e t
noncomputable def dNoPart : DTO := fun _ M R => R none M
noncomputable def dPart (t : DTE) : DTO := fun e M R => t e M fun x M1 => ∃ i, x = .int i ∧ R (some i) M1
theorem PO.imp {X : Cx} {e : Option Expr} {t t' : TO} (h : PO X e t) (i : ∀ σ H Q, t' σ H Q → t σ H Q) : PO X e t' := fun pins s σ H Q I q => h pins s σ H Q I (i σ H Q q)
section
variable {X : Cx} {e : Expr} {te : DTE} {lo hi : Option Expr} {tl th : DTO} {pos p2 : Pos}
theorem jdpo_none  : JO X none dNoPart := ⟨PO.imp po_none (by rintro σ H Q ⟨e, M, R, ok, am, t, f⟩; exact f none M t H (KT.refl H) am)⟩
theorem jdpo_some (h : JE X e te) : JO X (some e) (dPart te) := ⟨have h := h.out; PO.imp (po_some h) (by rintro σ H Q ⟨e, M, R, ok, am, t, f⟩; exact ⟨e, M, _, ok, am, t, fun x M1 ⟨i, z, r⟩ v H1 k1 a1 r1 => by
  subst z; cases r1
  exact ⟨i, rfl, f (some i) M1 r H1 k1 a1⟩⟩)⟩
noncomputable def cutD (ds : List D) (lo hi : Option Int) : List D := (ds.drop (HT.sIx ds.length 0 lo)).take (HT.sIx ds.length ds.length hi - HT.sIx ds.length 0 lo)
theorem HasL.cut {K : PySem.W.Frag} {H : Hp} {xs : List V} {ds : List D} (h : HasL K H xs ds) (lo hi : Option Int) : HasL K H (cutV xs lo hi) (cutD ds lo hi) := by
  unfold cutV cutD
  rw [h.length]
  exact (h.drop _).take _
end
end DL

namespace DL
open PySem PySem.Spec L2
open PyProof.Rows hiding St

noncomputable def enumD (ds : List D) : List D := ds.mapIdx fun i d => .tup [.int i, d]
theorem enumD_length (ds : List D) : (enumD ds).length = ds.length := by simp [enumD]
theorem enumD_get {ds : List D} {i : Nat} {d : D} (h : ds[i]? = some d) : (enumD ds)[i]? = some (.tup [.int i, d]) := by
  unfold enumD
  rw [List.getElem?_mapIdx, h]; rfl
theorem walk_enum {K : PySem.W.Frag} {H1 : Hp} {x : D} {l : Addr} {ds : List D} (h1 : Has K H1 (.ref l) x) : Walk K H1 (Ite K (kindD x) l) (enumD ds) (fun M' => seqD M' x ds) where
  go := fun i H' M' hi k am s1 => by
    rw [enumD_length] at hi
    obtain ⟨a, xs, e1, q1, m1⟩ := seqD_has s1 am (h1.mono k)
    cases e1
    exact ⟨xs, _, q1, List.getElem?_eq_getElem (by rw [m1.length]; omega)⟩
  yld := fun i H' M' v H'' hi k am s1 zz => by
    obtain ⟨T, a, hT, ev, eH, u1⟩ := zz
    subst ev; subst eH
    obtain ⟨a', xs, e1, q1, m1⟩ := seqD_has s1 am (h1.mono k)
    cases e1
    obtain ⟨d1, g1, r1⟩ := m1.getV (u1 xs q1)
    have kt : KT H' (upd H' T (.tup [.int i, a])) := KT.alloc hT
    exact ⟨_, enumD_get g1, kt, am.alloc hT, .tup (SqT.of upd_same) (.cons (.int _) (.cons (r1.mono kt) .nil))⟩
  stop := fun i H' M' hi k am s1 => by
    rw [enumD_length] at hi
    obtain ⟨a, xs, e1, q1, m1⟩ := seqD_has s1 am (h1.mono k)
    cases e1
    exact ⟨xs, q1, by rw [m1.length]; exact hi⟩
  up := fun _ _ _ st hq => seqD_up st hq
section
variable {X : Cx} {ta : DTA}
noncomputable def diEnum (ta : DTA) : DTI := fun e M R => ta e M fun xs M1 => ∃ x ds, xs = [x] ∧ seqD M1 x ds ∧ R (enumD ds) (fun M' => seqD M' x ds) M1
theorem jpd_enum {elts : List Expr} {kx : Nat} {tp : Pos} {a : Expr} {p pos : Pos} (hg : Gl X "enumerate") (hm : X.mg "enumerate" = none) (ha : JA X [a] ta) (hs : starEach [a] X.env = [(false, eval a X.env)] := by rfl) : JI X (.Tuple elts kx tp) (.Call (.Name "enumerate" p) [a] [] pos) (diEnum ta) := ⟨have ha := ha.out; PI.imp (pi_enum hg hm ha hs) (by rintro σ H R ⟨e, M, R', ok, am, t, f⟩; exact ⟨e, M, _, ok, am, t, fun xs M1 ⟨x, ds, z, s1, r⟩ vs H1 k1 a1 r1 => by
    subst z
    obtain ⟨v, rfl, hv⟩ := r1.one
    obtain ⟨a, zs, rfl, q1, m1⟩ := seqD_has s1 a1 hv
    exact ⟨_, a, rfl, ⟨zs, q1⟩, f _ _ M1 r H1 k1 a1 _ (walk_enum hv)⟩⟩)⟩
end
end DL

namespace DL
open PySem PySem.Spec L2
open PyProof.Rows hiding St

noncomputable def delM (M : Mem) (a : Addr) : Mem := fun b => if b = a then none else M b
theorem delM_ne {M : Mem} {a b : Addr} (h : b ≠ a) : delM M a b = M b := by unfold delM; rw [if_neg h]
theorem delM_upd {M : Mem} {a : Addr} {o : MO} (h : M a = none) : delM (updM M a o) a = M := by
  funext b; unfold delM updM; by_cases e : b = a
  · rw [if_pos e, e, h]
  · rw [if_neg e, if_neg e]
section
variable {K : PySem.W.Frag} {H : Hp} {M : Mem} {p : Addr}
theorem AbsM.at {o : HO} (h : AbsM K H M) (k : KT0 H (upd H p o)) (hp : M p = none) : AbsM K (upd H p o) M := fun a u m => by
  cases u with
  | lst ds =>
    obtain ⟨xs, z, l⟩ := h a _ m
    have hn : a ≠ p := by intro e; subst e; rw [hp] at m; cases m
    exact ⟨xs, by rw [upd_ne hn]; exact z, l.mono0 k⟩
  | ins C fs =>
    obtain ⟨C0, dx, ys, z, l, hc⟩ := h a _ m
    have hn : a ≠ p := by intro e; subst e; rw [hp] at m; cases m
    exact ⟨C0, dx, ys, by rw [upd_ne hn]; exact z, l.mono0 k, hc⟩
  | dic hs kvs =>
    obtain ⟨xs, z, l⟩ := h a _ m
    have hn : a ≠ p := by intro e; subst e; rw [hp] at m; cases m
    exact ⟨xs, by rw [upd_ne hn]; exact z, l.mono0 k⟩
theorem AbsM.del (h : AbsM K H M) : AbsM K H (delM M p) := fun a u m => by
  by_cases e : a = p
  · subst e; unfold delM at m; rw [if_pos rfl] at m; cases m
  · rw [delM_ne e] at m; exact h a u m
theorem delM_same : delM M p p = none := by unfold delM; rw [if_pos rfl]
theorem AbsM.none_ext {φ : Heap → Prop} (h : AbsM K H M) (e : H p = some (.ext φ)) : M p = none := by
  cases q : M p with
  | none => rfl
  | some o =>
    cases o with
    | lst ds => obtain ⟨xs, z, _⟩ := h p _ q; rw [e] at z; cases z
    | ins C fs => obtain ⟨_, dx, ys, z, _⟩ := h p _ q; rw [e] at z; cases z
    | dic hs kvs => obtain ⟨xs, z, _⟩ := h p _ q; rw [e] at z; cases z
end
section
variable {X : Cx} {x : Expr} {t : DTE} {es : List Expr} {tr : DTA} {pos : Pos}
noncomputable def dFrz (t : DTE) : DTE := fun e M R => t e M fun x M1 => ∃ p ds, x = .ref p ∧ M1 p = some (.lst ds) ∧ R (.vl ds) (delM M1 p)
theorem jd_frz (h : JE X x t) : JE X x (dFrz t) := ⟨have h := h.out; (pe_frz h).imp (by rintro σ H Q ⟨e, M, R, ok, am, t, f⟩; exact ⟨e, M, _, ok, am, t, fun d M1 ⟨p, ds, z, hm, r⟩ v H1 k1 a1 r1 => by
  subst z
  cases r1
  obtain ⟨xs, hx, lx⟩ := a1.lst hm
  exact ⟨p, xs, rfl, hx, fun o => f _ _ r _ _ (k1.trans (KT.any hx)) (a1.del.at (KT.any hx).toKT0 delM_same) (.vl (.inl ⟨o, upd_same⟩) (lx.mono (KT.any hx)))⟩⟩)⟩
noncomputable def dFgt (t : DTE) : DTE := fun e M R => t e M fun x M1 => ∃ M2 : Mem, (∀ b o, M2 b = some o → M1 b = some o) ∧ R x M2
theorem jd_fgt (h : JE X x t) : JE X x (dFgt t) := ⟨have h := h.out; PE.imp h (by rintro σ H Q ⟨e, M, R, ok, am, t, f⟩; exact ⟨e, M, _, ok, am, t, fun d M1 ⟨M2, hs, r⟩ v H1 k1 a1 r1 => f d M2 r v H1 k1 (fun a o q => a1 a o (hs a o q)) r1⟩)⟩
noncomputable def dLstV (t : DTA) : DTE := fun e M R => t e M fun ds M1 => ds.length ≤ sizeLine ∧ R (.vl ds) M1
theorem frz_new {K : PySem.W.Frag} {H0 H : Hp} {M : Mem} {R : DK} {Q : VK} {vs : List V} {ds : List D} (f : FitV K H0 R Q) (k : KT H0 H) (am : AbsM K H M) (l : HasL K H vs ds) (r : R (.vl ds) M) (p : Addr) (hp : H p = none) :
    ∃ q xs, V.ref p = .ref q ∧ upd H p (.lst vs) q = some (.lst xs) ∧ ∀ o, Q (.ref p) (upd (upd H p (.lst vs)) q (.frz o (.lst xs))) :=
  ⟨p, vs, rfl, upd_same, fun o => by
    rw [upd_upd]
    exact f _ M r _ _ (k.trans (KT.alloc hp)) (am.alloc hp) (.vl (.inl ⟨o, upd_same⟩) (l.mono (KT.alloc hp)))⟩
theorem jd_lstV (h : JA X es tr) : JE X (.List es pos) (dLstV tr) := ⟨have h := h.out; (pe_frz (pe_lst h)).imp (by rintro σ H Q ⟨e, M, R, ok, am, t, f⟩; exact ⟨e, M, _, ok, am, t, fun ds M1 ⟨hz, h1⟩ vs H1 k1 a1 r1 => ⟨by rw [r1.length]; exact hz, fun p hp => frz_new f k1 a1 r1 h1 p hp⟩⟩)⟩
noncomputable def gCatV (x y : D) (M : Mem) (R : DK) : Prop := ∃ xs ys, itemsD M x = some xs ∧ itemsD M y = some ys ∧ xs.length + ys.length ≤ sizeLine ∧ R (.vl (xs ++ ys)) M
noncomputable def dCatV (ta tb : DTE) : DTE := fun e M R => ta e M fun x M1 => tb e M1 fun y M2 => gCatV x y M2 R
theorem jd_catV {a b : Expr} {ta tb : DTE} (ha : JE X a ta) (hb : JE X b tb) : JE X (.BinOp a .Add b pos) (dCatV ta tb) := ⟨have ha := ha.out; have hb := hb.out; (pe_frz (pe_op op_catS ha hb)).imp (by rintro σ H Q ⟨e, M, R, ok, am, t, f⟩; exact ⟨e, M, _, ok, am, t, fun x M1 h1 v H1 k1 a1 r1 => ⟨e, M1, _, ok.mono k1, a1, h1, fun y M2 ⟨xs, ys, e1, e2, hz, r⟩ u H2 k2 a2 r2 => by
    obtain ⟨a, vs, rfl, s1, l1⟩ := itemsD_has a2 (r1.mono k2) e1
    obtain ⟨b, ws, rfl, s2, l2⟩ := itemsD_has a2 r2 e2
    exact ⟨a, b, vs, ws, rfl, rfl, s1, s2, by rw [l1.length, l2.length]; exact hz, fun p hp => frz_new f (k1.trans k2) a2 (l1.append l2) r p hp⟩⟩⟩)⟩
noncomputable def gSlV (x : D) (lo hi : Option Int) (M : Mem) (R : DK) : Prop := (∃ ds, itemsD M x = some ds ∧ R (.vl (cutD ds lo hi)) M) ∨ ∃ ds, x = .tup ds ∧ ¬ (HT.sIx ds.length 0 lo = 0 ∧ HT.sIx ds.length ds.length hi = ds.length) ∧ R (.tup (cutD ds lo hi)) M
noncomputable def dSlV (te : DTE) (tl th : DTO) : DTE := fun e M R => te e M fun x M1 => tl e M1 fun l M2 => th e M2 fun u M3 => gSlV x l u M3 R
theorem jd_sliceV {e : Expr} {te : DTE} {lo hi : Option Expr} {tl th : DTO} {p2 : Pos} (he : JE X e te) (hl : JO X lo tl) (hu : JO X hi th) : JE X (.Subscript e (.Slice lo hi none p2) pos) (dSlV te tl th) := ⟨have he := he.out; have hl := hl.out; have hu := hu.out; (pe_frzM (pe_slice (SlR.or sl_list sl_tup) he hl hu)).imp (by rintro σ H Q ⟨e, M, R, ok, am, t, f⟩; exact ⟨e, M, _, ok, am, t, fun x M1 h1 v H1 k1 a1 r1 => ⟨e, M1, _, ok.mono k1, a1, h1, fun l M2 h2 H2 k2 a2 => ⟨e, M2, _, (ok.mono k1).mono k2, a2, h2, fun u M3 h3 H3 k3 a3 => by
    rcases h3 with ⟨ds, hi, r⟩ | ⟨ds, rfl, hw, r⟩
    · obtain ⟨a, xs, rfl, sq, lx⟩ := itemsD_has a3 ((r1.mono k2).mono k3) hi
      exact .inl ⟨a, xs, rfl, sq, fun p hp => .inl (frz_new f (k1.trans (k2.trans k3)) a3 (lx.cut l u) r p hp)⟩
    · cases (r1.mono k2).mono k3 with
      | tup sq lx =>
        exact .inr ⟨_, _, rfl, sq, by rw [lx.length]; exact hw, fun p hp => .inr (f _ M3 r _ _ ((k1.trans (k2.trans k3)).trans (KT.alloc hp)) (a3.alloc hp) (.tup (SqT.of upd_same) ((lx.cut l u).mono (KT.alloc hp))))⟩⟩⟩⟩)⟩
theorem HasL.rev {K : PySem.W.Frag} {H : Hp} : ∀ {xs : List V} {ds : List D}, HasL K H xs ds → HasL K H xs.reverse ds.reverse
  | _, _, .nil => .nil
  | _, _, .cons h t => by rw [List.reverse_cons, List.reverse_cons]; exact (HasL.rev t).append (.cons h .nil)
noncomputable def gRevV (x : D) (M : Mem) (R : DK) : Prop := ∃ ds, itemsD M x = some ds ∧ R (.vl ds.reverse) M
end
section
variable {X : Cx} {e : Expr} {es : List Expr} {t : DTA} {x : Str} {p pos : Pos}
noncomputable def dAug (i : Nat) (f : Int → Int → Int) (te : DTE) : DTS := fun F e M => ∃ a, e[i]? = some (some (.int a)) ∧ te e M fun y M1 => ∃ b, y = .int b ∧ F.nx (e.set i (some (.int (f a b)))) M1
variable {te : DTE} {pos' : Pos}
theorem jds_augI {op : Operator} {f : Int → Int → Int} {i : Nat} (ho : PIp X op (ipI f)) (hN : X.N.Nodup) (hi : X.N[i]? = some x) (hx : Loc X.env.scope x) (he : JE X e te) (hf : X.fn x = true ∨ X.env.scope.names.lookup x = some .local := by first | exact .inl rfl | exact .inr rfl | assumption) : JS X (.AugAssign (.Name x pos') op e pos) (dAug i f te) := ⟨have he := he.out; (ps_aug hN hi hx he ho hf).imp (by
  rintro E σ H ⟨e, M, F, ok, am, ⟨a, ha, t⟩, ft⟩
  obtain ⟨v, h1, h2⟩ := ok.has _ _ ha
  cases h2
  refine ⟨_, h1, e, M, _, ok, am, t, fun y M1 ⟨b, z, n⟩ w H1 k1 a1 r1 => ?_⟩
  subst z
  cases r1
  exact ⟨a, b, rfl, rfl, ft.nx _ M1 n _ H1 k1 a1 ((ok.mono k1).set (.int _) _)⟩)⟩
end
section
variable {X : Cx}

end

noncomputable abbrev DTIfs := Ev → Mem → (Bool → Mem → Prop) → Prop
noncomputable abbrev DPIfs (X : Cx) (ifs : List Expr) (t : DTIfs) : Prop := PIfs X ifs (upT X.K t)
structure JIfs (X : Cx) (ifs : List Expr) (t : DTIfs) : Prop where
  out : DPIfs X ifs t
noncomputable def dYes : DTIfs := fun _ M R => R true M
theorem PIfs.imp {X : Cx} {ifs : List Expr} {t t' : TT} (h : PIfs X ifs t) (i : ∀ σ H Q, t' σ H Q → t σ H Q) : PIfs X ifs t' := fun pins s σ H Q I q => h pins s σ H Q I (i σ H Q q)
theorem jdifs_nil {X : Cx} : JIfs X [] dYes := ⟨PIfs.imp pifs_nil (by rintro σ H Q ⟨e, M, R, ok, am, t, f⟩; exact f true M t H (KT.refl H) am)⟩
structure CompW (e0 : Ev) (g : DTG) (tc : DTIfs) (te : DTE) (ds : List D) (stay : Mem → Prop) (M1 : Mem) (E : List D → Mem → Prop) (W : Nat → List D → Mem → Prop) : Prop where
  start : W 0 [] M1
  stays : ∀ i ys M, i ≤ ds.length → W i ys M → stay M
  turn : ∀ (i : Nat) (d : D) ys M, ds[i]? = some d → W i ys M → g d e0 M fun e2 M2 => tc e2 M2 fun b M3 => if b = true then te e2 M3 fun v M4 => ys.length < sizeLine ∧ W (i + 1) (ys ++ [v]) M4 else W (i + 1) ys M3
  done : ∀ ys M, W ds.length ys M → E ys M
noncomputable def CompV (e0 : Ev) (g : DTG) (tc : DTIfs) (te : DTE) (ds : List D) (stay : Mem → Prop) (M1 : Mem) (R : DK) : Prop := ∃ W, CompW e0 g tc te ds stay M1 (fun ys M => R (.vl ys) M) W
noncomputable def dCompV (n : Nat) (caps : List Nat) (ti : DTI) (g : DTG) (tc : DTIfs) (te : DTE) : DTE := fun e M R => ti e M fun ds stay M1 => CompV (capE n caps e) g tc te ds stay M1 R
section
variable {X : Cx} {elt tg iter : Expr} {scope : Scope} {tgs cps : List Str} {caps : List Nat} {ti : DTI} {g : DTG} {tc : DTIfs} {te : DTE} {pos : Pos} {ifs : List Expr}
noncomputable def CWH (K : PySem.W.Frag) (H1 : Hp) (D0 : Addr) (len : Nat) (W : Nat → List D → Mem → Prop) (i m : Nat) (H' : Hp) : Prop := m = len - i ∧ i ≤ len ∧ ∃ M' ys xs, KT H1 H' ∧ AbsM K H' M' ∧ H' D0 = some (.lst xs) ∧ M' D0 = none ∧ HasL K H' xs ys ∧ W i ys M'
theorem comp_loop {K : PySem.W.Frag} {H1 : Hp} {J : It} {ds : List D} {stay : Mem → Prop} {M1 : Mem} {n : Nat} {caps : List Nat} {σ : St} {e : Ev} {E : List D → Mem → Prop} {W : Nat → List D → Mem → Prop} {D0 : Addr} {Qd : Hp → Prop} (ok : EnvOk K H1 σ e) (a1 : AbsM K H1 M1) (wk : Walk K H1 J ds stay) (hD : H1 D0 = none)
    (C : CompW (capE n caps e) g tc te ds stay M1 E W) (fin : ∀ ys M xs H', KT H1 H' → AbsM K H' M → H' D0 = some (.lst xs) → M D0 = none → HasL K H' xs ys → E ys M → Qd H') (i m : Nat) (H2 : Hp) (w : CWH K H1 D0 ds.length W i m H2) :
    (J.stop i H2 ∧ Qd H2) ∨ (J.go i H2 ∧ ∀ x H', J.yld i H2 x H' → (∃ p, tHideG p (upG K g) x (capF n caps σ) H' fun σ2 H3 => ∃ p, tHideT p (upT K tc) σ2 H3 fun b H3' => if b = true then ∃ p, tHide p (up K te) σ2 H3' fun v H4 =>
      ∃ ys, H4 D0 = some (.lst ys) ∧ ys.length < sizeLine ∧ ∃ m', m' < m ∧ CWH K H1 D0 ds.length W (i + 1) m' (upd H4 D0 (.lst (ys ++ [v]))) else ∃ m', m' < m ∧ CWH K H1 D0 ds.length W (i + 1) m' H3')) := by
  obtain ⟨rfl, hi, M2, ys, xs, k2, a2, hx, hM, lx, w2⟩ := w
  have a2' : AbsM K H2 (updM M2 D0 (.lst ys)) := fun a o q => by
    by_cases e : a = D0
    · subst e; rw [updM_same] at q; cases q; exact ⟨xs, hx, lx⟩
    · rw [updM_ne e] at q; exact a2 a o q
  have st := wk.up _ D0 (.lst ys) (C.stays i ys M2 hi w2) hM
  by_cases hlt : i < ds.length
  · refine .inr ⟨wk.go i H2 _ hlt k2 a2' st, fun y H' yl => ?_⟩
    obtain ⟨d, hd, k3, a3', r⟩ := wk.yld i H2 _ y H' hlt k2 a2' st yl
    obtain ⟨xs', hx', lx'⟩ := a3'.lst updM_same
    have a3 : AbsM K H' M2 := fun a o q => by
      have e : a ≠ D0 := by intro e; subst e; rw [hM] at q; cases q
      exact a3' a o (by rw [updM_ne e]; exact q)
    have kh : KT H' (upd H' D0 (hidO D0 xs')) := KT.any hx'
    have k1h := (k2.trans k3).trans kh
    have same : ∀ {H3 : Hp}, H3 D0 = some (hidO D0 xs') → upd (upd H3 D0 (.lst xs')) D0 (hidO D0 xs') = H3 := fun {H3} q => by
      rw [upd_upd]; funext b; by_cases e : b = D0
      · subst e; rw [upd_same, q]
      · rw [upd_ne e]
    refine ⟨D0, xs', hx', d, capE n caps e, M2, _, r.mono kh, env_cap n caps (ok.mono k1h), a3.at kh.toKT0 hM, C.turn i d ys M2 hd w2, fun e3 M3 h3 σ3 H3 k4 a4 ok3 => ?_⟩
    have q3 : H3 D0 = some (hidO D0 xs') := k4.ex D0 _ upd_same
    refine ⟨q3, D0, xs', upd_same, ?_⟩
    rw [same q3]
    refine ⟨e3, M3, _, ok3, a4, h3, fun b M4 h4 H4 k5 a5 => ?_⟩
    have q4 : H4 D0 = some (hidO D0 xs') := k5.ex D0 _ q3
    refine ⟨q4, ?_⟩
    have kk := k1h.trans (k4.trans k5)
    cases b with
    | false =>
      have h4' : W (i + 1) ys M4 := h4
      show ∃ m', m' < ds.length - i ∧ CWH K H1 D0 ds.length W (i + 1) m' (upd H4 D0 (.lst xs'))
      exact ⟨ds.length - (i + 1), by omega, rfl, hlt, M4, ys, xs', kk.new hD, a5.at (KT0.ext q4) (a5.none_ext q4), upd_same, a5.none_ext q4, (lx'.mono (kh.trans (k4.trans k5))).mono0 (KT0.ext q4), h4'⟩
    | true =>
      show ∃ p, tHide p (up K te) σ3 (upd H4 D0 (.lst xs')) _
      refine ⟨D0, xs', upd_same, ?_⟩
      rw [same q4]
      refine ⟨e3, M4, _, ok3.mono k5, a5, h4, fun dv M5 ⟨hz, w5⟩ vv H5 k6 a6 r6 => ?_⟩
      have q5 : H5 D0 = some (hidO D0 xs') := k6.ex D0 _ q4
      refine ⟨q5, xs', upd_same, by rw [lx'.length]; exact hz, ds.length - (i + 1), by omega, rfl, hlt, M5, ys ++ [dv], xs' ++ [vv], ?_, ?_, upd_same, a6.none_ext q5, ?_, w5⟩
      · rw [upd_upd]; exact (kk.trans k6).new hD
      · rw [upd_upd]; exact a6.at (KT0.ext q5) (a6.none_ext q5)
      · rw [upd_upd]; exact ((lx'.mono (kh.trans (k4.trans (k5.trans k6)))).mono0 (KT0.ext q5)).append (.cons (r6.mono0 (KT0.ext q5)) .nil)
  · have e' : i = ds.length := by omega
    subst e'
    exact .inl ⟨wk.stop _ H2 _ (Nat.le_refl _) k2 a2' st, fin ys M2 xs H2 k2 a2 hx hM lx (C.done ys M2 w2)⟩
theorem jd_compV (caps : List Nat) (tgs cps : List Str) (hc : X.calm = true) (hcell : ∀ x ∈ scope.names, x.2 ≠ .cell) (hkind : scope.kind = .function) (hnames : ∀ x ∈ scope.names, x.2 = .local → scope.names.lookup x.1 = some .local)
    (hfr : ∀ x ∈ scope.names, x.2 = .free → x.1 ∈ cps) (hN : caps.map (fun i => X.N[i]?) = cps.map some) (hX : ∀ x ∈ cps, X.env.scope.names.lookup x = some .cell ∧ scope.names.lookup x = some .free)
    (hsc : ∀ x ∈ cps, (relabel scope X.env).names.lookup x = some .cell ∨ (relabel scope X.env).names.lookup x = some .free)
    (hi : JI X tg iter ti) (hg : ∀ cl s3 H3 C fp pins, JG (cxF X scope cl (tgs ++ cps) s3 H3 C fp pins) tg g) (hq : ∀ cl s3 H3 C fp pins, JIfs (cxF X scope cl (tgs ++ cps) s3 H3 C fp pins) ifs tc) (he : ∀ cl s3 H3 C fp pins, JE (cxF X scope cl (tgs ++ cps) s3 H3 C fp pins) elt te)
    (hs : ∀ x, foldedSetIterable iter X.env x = pure x := by intro _; rfl) : JE X (.ListComp elt [⟨tg, iter, ifs, 0⟩] scope pos) (dCompV tgs.length caps ti g tc te) := ⟨have hi := hi.out; have hg := fun v0 v1 v2 v3 v4 v5 => (hg v0 v1 v2 v3 v4 v5).out; have hq := fun v0 v1 v2 v3 v4 v5 => (hq v0 v1 v2 v3 v4 v5).out; have he := fun v0 v1 v2 v3 v4 v5 => (he v0 v1 v2 v3 v4 v5).out; (pe_frz (pe_compF (tgs := tgs) (cps := cps) (caps := caps) hc hcell hkind hnames hfr hN hX hsc hi (fun cl s3 H3 C fp pins => pg_hide (hg cl s3 H3 C fp pins)) (fun cl s3 H3 C fp pins => pifs_hide (hq cl s3 H3 C fp pins)) (fun cl s3 H3 C fp pins => pe_hide (he cl s3 H3 C fp pins)) hs)).imp (by rintro σ H Q ⟨e, M, R, ok, am, t, f⟩; exact ⟨e, M, _, ok, am, t, fun ds stay M1 hW H1 k1 a1 J wk => by
    intro D0 hD
    obtain ⟨W, C⟩ := hW
    refine ⟨fun i m H' => CWH X.K H1 D0 ds.length W i m H', ⟨ds.length, by simp, Nat.zero_le _, M1, [], [], KT.alloc hD, a1.alloc hD, upd_same, a1.fresh hD, .nil, C.start⟩, fun i m H2 w => comp_loop (Qd := fun H' => ∃ p xs, V.ref D0 = .ref p ∧ H' p = some (.lst xs) ∧ ∀ o, Q (.ref D0) (upd H' p (.frz o (.lst xs)))) (ok.mono k1) a1 wk hD C (fun ys M2 xs H' k2 a2 hx hM lx r => ?_) i m H2 w⟩
    exact ⟨D0, xs, rfl, hx, fun o => f _ M2 r _ _ (k1.trans (k2.trans (KT.any hx))) (a2.at (KT.any hx).toKT0 hM) (.vl (.inl ⟨o, upd_same⟩) (lx.mono (KT.any hx)))⟩⟩)⟩
theorem jds_setCompV {i : Nat} {x : Str} {pos' pos2 : Pos} (caps : List Nat) (tgs cps : List Str) (hNd : X.N.Nodup) (hxi : X.N[i]? = some x) (hx : Loc X.env.scope x) (hc : X.calm = true) (hcell : ∀ x ∈ scope.names, x.2 ≠ .cell) (hkind : scope.kind = .function) (hnames : ∀ x ∈ scope.names, x.2 = .local → scope.names.lookup x.1 = some .local)
    (hfr : ∀ x ∈ scope.names, x.2 = .free → x.1 ∈ cps) (hN : caps.map (fun i => X.N[i]?) = cps.map some) (hX : ∀ x ∈ cps, X.env.scope.names.lookup x = some .cell ∧ scope.names.lookup x = some .free)
    (hsc : ∀ x ∈ cps, (relabel scope X.env).names.lookup x = some .cell ∨ (relabel scope X.env).names.lookup x = some .free)
    (hi : JI X tg iter ti) (hg : ∀ cl s3 H3 C fp pins, JG (cxF X scope cl (tgs ++ cps) s3 H3 C fp pins) tg g) (hq : ∀ cl s3 H3 C fp pins, JIfs (cxF X scope cl (tgs ++ cps) s3 H3 C fp pins) ifs tc) (he : ∀ cl s3 H3 C fp pins, JE (cxF X scope cl (tgs ++ cps) s3 H3 C fp pins) elt te)
    (hsw : swapsWith (.ListComp elt [⟨tg, iter, ifs, 0⟩] scope pos) (some (.Name x pos')) pos2.line X.env = pure true := by rfl) (hs : ∀ x, foldedSetIterable iter X.env x = pure x := by intro _; rfl) (hf : X.fn x = true ∨ X.env.scope.names.lookup x = some .local := by first | exact .inl rfl | exact .inr rfl | assumption) : JS X (.Assign [.Name x pos'] (.ListComp elt [⟨tg, iter, ifs, 0⟩] scope pos) pos2) (dAsg (dCompV tgs.length caps ti g tc te) (dgName i)) := ⟨have hi := hi.out; have hg := fun v0 v1 v2 v3 v4 v5 => (hg v0 v1 v2 v3 v4 v5).out; have hq := fun v0 v1 v2 v3 v4 v5 => (hq v0 v1 v2 v3 v4 v5).out; have he := fun v0 v1 v2 v3 v4 v5 => (he v0 v1 v2 v3 v4 v5).out; (ps_setU (pu_frz (pu_compF (tgs := tgs) (cps := cps) (caps := caps) hc hcell hkind hnames hfr hN hX hsc hi (fun cl s3 H3 C fp pins => pg_hide (hg cl s3 H3 C fp pins)) (fun cl s3 H3 C fp pins => pifs_hide (hq cl s3 H3 C fp pins)) (fun cl s3 H3 C fp pins => pe_hide (he cl s3 H3 C fp pins)) hNd hxi hx hf hs)) hsw).imp (by rintro E σ H ⟨e, M, F, ok, am, t, f⟩; exact ⟨e, M, _, ok, am, t, fun ds stay M1 hW H1 k1 a1 J wk => by
    intro D0 hD
    obtain ⟨W, C⟩ := hW
    refine ⟨fun i m H' => CWH X.K H1 D0 ds.length W i m H', ⟨ds.length, by simp, Nat.zero_le _, M1, [], [], KT.alloc hD, a1.alloc hD, upd_same, a1.fresh hD, .nil, C.start⟩, fun j m H2 w => comp_loop (Qd := fun H' => ∃ p xs, V.ref D0 = .ref p ∧ H' p = some (.lst xs) ∧ ∀ o, E.nx (σ.set i (some (.ref D0))) (upd H' p (.frz o (.lst xs)))) (ok.mono k1) a1 wk hD C (fun ys M2 xs H' k2 a2 hx hM lx r => ?_) j m H2 w⟩
    exact ⟨D0, xs, rfl, hx, fun o => f.nx _ M2 r _ _ (k1.trans (k2.trans (KT.any hx))) (a2.at (KT.any hx).toKT0 hM) ((ok.mono (k1.trans (k2.trans (KT.any hx)))).set (.vl (.inl ⟨o, upd_same⟩) (lx.mono (KT.any hx))) i)⟩⟩)⟩
end
section
variable {X : Cx} {e : Expr} {te : DTE} {p1 p2 pos pos2 : Pos}
theorem SqL.upd {K : PySem.W.Frag} {H : Hp} {a it : Addr} {xs : List V} {o : HO} (h : SqL K H a xs) (ne : a ≠ it) : SqL K (upd H it o) a xs := h.elim (fun z => .inl (by unfold Rd at z ⊢; rw [upd_ne ne]; exact z)) .inr
noncomputable def dRevL (te : DTE) : DTE := fun e M R => te e M fun x M1 => gRevV x M1 R
theorem jd_listRev (hc : X.calm = true) (g1 : Gl X "list") (m1 : X.mg "list" = none) (v1 : bootBuiltins "list" = some (.type "list")) (g2 : Gl X "reversed") (m2 : X.mg "reversed" = none) (v2 : bootBuiltins "reversed" = some (.type "reversed")) (he : JE X e te)
    (h1 : starEach [e] X.env = (false, eval e X.env) :: starEach [] X.env := by rfl) (h2 : starEach [.Call (.Name "reversed" p2) [e] [] pos2] X.env = (false, eval (.Call (.Name "reversed" p2) [e] [] pos2) X.env) :: starEach [] X.env := by rfl) : JE X (.Call (.Name "list" p1) [.Call (.Name "reversed" p2) [e] [] pos2] [] pos) (dRevL te) := ⟨have he := he.out; (pe_frz (pe_callTy (cr_listRev hc) g1 m1 v1 (pa_cons (pe_callTy cr_reversed g2 m2 v2 (pa_cons he pa_nil h1) (by decide) (by decide) h1) pa_nil h2) (by decide) (by decide) h2)).imp (by rintro σ H Q ⟨e, M, R, ok, am, t, f⟩; exact ⟨e, M, _, ok, am, t, fun x M1 ⟨ds, hi, r⟩ v H1 k1 a1 r1 => by
    obtain ⟨a, xs, rfl, sq, lx⟩ := itemsD_has a1 r1 hi
    refine ⟨a, xs, rfl, sq, fun it hit hne hge => ⟨it, a, xs, rfl, upd_same, SqL.upd sq (Ne.symm hne), Ne.symm hne, hge, fun p hp => ?_⟩⟩
    have q1 : p ≠ it := fun z => by rw [z, upd_same] at hp; cases hp
    rw [upd_ne q1] at hp
    have e1 : ∀ o u, dropH (L2.upd (L2.upd H1 it o) p u) it = L2.upd H1 p u := fun o u => by
      funext b
      by_cases z : b = it
      · subst z; rw [dropH_same, upd_ne (Ne.symm q1), hit]
      · rw [dropH_ne z]
        by_cases y : b = p
        · subst y; rw [upd_same, upd_same]
        · rw [upd_ne y, upd_ne y, upd_ne z]
    rw [e1]
    exact frz_new f k1 a1 lx.rev r p hp⟩)⟩
theorem SqK.upd {K : PySem.W.Frag} {k : Bool} {H : Hp} {a it : Addr} {xs : List V} {o : HO} (h : SqK K k H a xs) (ne : a ≠ it) : SqK K k (L2.upd H it o) a xs := by
  cases k with
  | true => exact SqL.upd (show SqL K H a xs from h) ne
  | false => exact (show SqT K H a xs from h).elim (fun z => .inl (by unfold Rd at z ⊢; rw [upd_ne ne]; exact z)) .inr
noncomputable def dgTupL (n : Nat) (t : DTGs) : DTG := fun d e M R => ∃ ds, itemsD M d = some ds ∧ ds.length = n ∧ t ds e M R
theorem jdg_tupL {xs : List Expr} {k : Nat} {t : DTGs} {n : Nat} (hc : X.calm = true) (h : JGs X xs t)
    (hn : (assignEach xs X.env).length = n := by rfl) (hst : (assignEach xs X.env).findIdx? (·.1) = none := by rfl) : JG X (.Tuple xs k pos) (dgTupL n t) := ⟨have h := h.out; PG.imp (pg_tupL hc h hn hst) (by
    rintro v σ H Q ⟨d, e, M, R, r, ok, am, ⟨ds, hi, hl, g⟩, f⟩
    obtain ⟨a, xs, e1, sq, lx⟩ := itemsD_has am r hi
    exact ⟨a, xs, e1, sq, by rw [lx.length]; exact hl, ds, e, M, R, lx, ok, am, g, f⟩)⟩
end
end DL
namespace L2
open PySem PySem.Spec PyProof.Rows

section
variable {X : Cx} {pos : Pos}
end
end L2
namespace DL
open PySem PySem.Spec L2
open PyProof.Rows hiding St
end DL

namespace DL
open PySem PySem.Spec L2
open PyProof.Rows hiding St

section
variable {X : Cx}
theorem HasL.intsV {K : PySem.W.Frag} {H : Hp} : ∀ {ns : List Int} {vs : List V}, HasL K H vs (ns.map D.int) → vs = ns.map V.int
  | [], _, h => by cases h; rfl
  | n :: r, _, h => by
    cases h with
    | cons a b => cases a; rw [HasL.intsV (ns := r) b]; rfl
end
end DL
namespace DL
open PySem PySem.Spec L2
open PyProof.Rows hiding St

section
variable {X : Cx}
theorem call_sumL (hc : X.calm = true) : CallR X (.builtin "sum") (fun xs H Q => ∃ (l : Addr) (ns : List Int), xs = [.ref l] ∧ SqL X.K H l (ns.map V.int) ∧ Q (.int ns.sum) H) := by
  intro pins s σ H xs us Q I r h
  obtain ⟨l, ns, rfl, hS, q⟩ := h
  obtain ⟨u, rfl, ru⟩ := vals1 r
  cases ru
  obtain ⟨its, rv, p, _⟩ := I.list hS
  have hi : IntsAre its ns := intsAre_of rv
  have hl : s.heap.IsList l its.toArray := p.isList
  obtain ⟨xs, e⟩ := hi.allInts.items
  have hns : ns = xs.toList.map (·.1) := by
    rw [← hi.numsOf, ← nums_intItems, ← e]
  rw [e] at hl
  refine PySem.sum_intListG (I.ok.hd hc) hl fun h2 t2 t3 kept2 => ?_
  refine ⟨.int _, H, I.kept kept2, ⟨t3, rfl⟩, ?_⟩
  rw [preSum_eq, List.take_of_length_le (by simp), ← hns]
  exact q
noncomputable def gSum : DRC := fun ds M R => ∃ (d : D) (ns : List Int), ds = [d] ∧ itemsD M d = some (ns.map D.int) ∧ R (.int ns.sum) M
theorem c_sum (hc : X.calm = true) : DCall X (.builtin "sum") gSum := CallR.imp (call_sumL hc) (by
  rintro xs H Q ⟨ds, M, R, hl, am, ⟨d, ns, z, hM, r⟩, f⟩
  subst z
  obtain ⟨v, rfl, hv⟩ := hl.one
  obtain ⟨a, vs, rfl, s, l⟩ := itemsD_has am hv hM
  rw [l.intsV] at s
  exact ⟨a, ns, rfl, s, f _ M r _ H (KT.refl H) am (.int _)⟩)
end
theorem bt_sum : bootBuiltins "sum" = some (.builtin "sum") := by decide +kernel

section
variable {X : Cx} {a b c : Expr} {ta tb tc : DTE} {pos : Pos}
end

structure HasC (K : PySem.W.Frag) (u : Value) (d : D) : Prop where
  ex : ∃ v, RelV v u ∧ HasK K v d
inductive HasCL (K : PySem.W.Frag) : List Value → List D → Prop
  | nil : HasCL K [] []
  | cons {u : Value} {d : D} {us : List Value} {ds : List D} : HasC K u d → HasCL K us ds → HasCL K (u :: us) (d :: ds)
section
variable {K : PySem.W.Frag}
theorem hc_int {i : Int} {t : Tok} : HasC K (.int i t) (.int i) := ⟨.int i, ⟨t, rfl⟩, fun _ => .int i⟩
theorem hc_str {x : Str} {t : Tok} : HasC K (.str x t) (.str x) := ⟨.str x, ⟨t, rfl⟩, fun _ => .str x⟩
theorem HasCL.out : ∀ {us : List Value} {ds : List D}, HasCL K us ds → ∃ vs, Vals vs us ∧ ∀ H, HasL K H vs ds
  | _, _, .nil => ⟨[], .nil, fun _ => .nil⟩
  | _, _, .cons h t => by
    obtain ⟨v, r, k⟩ := h.ex
    obtain ⟨vs, rs, ks⟩ := HasCL.out t
    exact ⟨v :: vs, .cons r rs, fun H => .cons (k H) (ks H)⟩
theorem hc_tup {a : Addr} {od : Option Addr} {osl : Array (Option Value)} {us : List Value} {ds : List D} {cap : Nat} (l : K.lookup a = some ⟨.type "tuple", od, .seq us.toArray cap, osl⟩) (n : decide (us.length ≤ 1000) = true) (h : HasCL K us ds) : HasC K (.ref a) (.tup ds) := by
  obtain ⟨vs, r, k⟩ := h.out
  have hn : vs.length ≤ sizeLine := Nat.le_trans (by rw [r.length]; exact of_decide_eq_true n) (show 1000 ≤ sizeLine by decide)
  exact ⟨.ref a, rfl, fun H => .tup (xs := vs) (.inr ⟨_, _, _, l, rfl, rfl, Nat.le_trans (of_decide_eq_true n) (show 1000 ≤ sizeLine by decide), r⟩) (k H)⟩
theorem gl_any {mg : Str → Option Value} {h : Heap} {x : Str} {u : Value} {d : D} (X : K.In h) (G : h.Ns mainGlobals mg) (n : PySem.W.nsIn K mainGlobals x = some (some u)) (c : HasC K u d) : GlD K mg x d := by
  obtain ⟨v, r, k⟩ := c.ex
  exact ⟨v, u, PySem.W.mg_of X G n, r, k⟩
end
end DL
namespace DL
open PySem PySem.Spec L2
open PyProof.Rows hiding St

section
variable {X : Cx} {x : Expr} {t : DTE}
end
end DL

namespace DL
open PySem PySem.Spec L2
open PyProof.Rows hiding St
theorem obj_there {P : Program} {w : World} {H : Hp} {h : Heap} {a : Addr} {o : HO} (x : ObjOk P w H h a o) : ∃ u, h.get? a = some u := by
  cases o with
  | lst _ => obtain ⟨_, _, _, _, e⟩ := x; exact ⟨_, e⟩
  | tup _ => obtain ⟨_, _, _, o, e, _⟩ := x; exact ⟨_, e⟩
  | dK _ => obtain ⟨_, _, _, _, o, _, _, e, _⟩ := x; exact ⟨_, e⟩
  | dT _ _ => obtain ⟨_, _, _, _, o, _, _, e, _⟩ := x; exact ⟨_, e⟩
  | set _ _ => obtain ⟨o, _, _, _, e, _⟩ := x; exact ⟨_, e⟩
  | ins _ _ _ => obtain ⟨_, _, _, e, _⟩ := x; exact ⟨_, e⟩
  | own _ => exact x
  | xd _ => obtain ⟨_, ⟨_, _, _, e, _⟩, _⟩ := x; exact ⟨_, e⟩
  | rng _ _ => obtain ⟨_, _, _, e⟩ := x; exact ⟨_, e⟩
  | frz _ _ => exact ⟨_, x.1⟩
  | tbl _ => exact ⟨_, show h.get? a = some _ from x⟩
  | met _ _ => exact ⟨_, show h.get? a = some _ from x⟩
  | ext _ => exact x.2.1
noncomputable def nones (X : Cx) : St := List.replicate X.N.length none
noncomputable def Cov (B s0 : Heap) (H' : Hp) (fs : List Addr) (h : Heap) : Prop := ∀ b o, h.get? b = some o → ((∃ u, H' b = some u) ∨ ∃ o0, s0.get? b = some o0) → b ∉ fs → B.get? b = some o
noncomputable def Air (B : Heap) (l : List Env) (a : Addr) (cls a0 : Value) (h : Heap) : Prop := Heap.FlyingW B l a cls a0 h ∨ ∃ env l' L, l = env :: l' ∧ env.frame = some L ∧ Heap.HeldW B l a cls a0 L h
section
variable {M : Model} {A : Around} {E : Value → Shared → Prop} {s : Shared} {B : Heap} {l outer : List Env} {env : Env} {L a : Addr} {cls a0 : Value} {Q : Unit → Shared → Prop}
theorem Air.frames {h : Heap} (x : Air B l a cls a0 h) : h.FunFrames B l := by
  rcases x with x | ⟨_, _, _, _, _, x⟩
  · exact x.2.2.1
  · exact x.2.2.1
theorem Air.base {h : Heap} (x : Air B l a cls a0 h) : B.StaysIn h ∧ B.get? a = none := by
  rcases x with x | ⟨_, _, _, _, _, x⟩
  · exact ⟨x.1, x.2.1⟩
  · exact ⟨x.1, x.2.1⟩
theorem Air.data {h : Heap} (x : Air B l a cls a0 h) : ∃ oe vs, h.get? a = some oe ∧ oe.data = .fields vs := by
  rcases x with ⟨_, _, _, oe, vs, _, _, _, h1, _, h2, _⟩ | ⟨_, _, _, _, _, _, _, _, oe, vs, _, _, _, h1, _, h2, _⟩ <;> exact ⟨oe, vs, h1, h2⟩
end
noncomputable def XP (X : Cx) (mk : Bool) (EX : Value → Hp → Prop) : Value → Shared → Prop := fun e s' =>
  (mk = true ∧ ∃ a cls h vs H', e = .ref a ∧ EX cls H' ∧ Heap.MadeExcOf h s'.heap a cls vs ∧ Inv X [] (nones X) H' { s' with heap := h }) ∨
  (∃ pins σ Hc sc a cls a0 H' B, Inv X pins σ Hc sc ∧ e = .ref a ∧ s'.os = sc.os ∧ AllBare s'.gens ∧ Un (frs X.stack) [] Hc H' sc.heap s'.heap ∧ HOk X.prog X.w H' s'.heap ∧
    X.base.StaysIn B ∧ Cov B sc.heap H' (frs X.stack) s'.heap ∧ Air B X.stack a cls a0 s'.heap ∧ EX cls H')
section
variable {P : Program} {w : World} {K : PySem.W.Frag} {mg : Str → Option Value} {base : Heap} {N : List Str} {qual : Str} {scope : Scope} {f : Addr} {cd : Value} {A : Around} {outer : List Env} {s : Shared} {H : Hp} {E : XK}
end
noncomputable def xN (x : Str) : Value := .str x 0
noncomputable def EXof (X : Cx) (H₀ : Hp) (Y : DXK) : Value → Hp → Prop := fun c H' => KT H₀ H' ∧ ∃ (x : Str) (C : Addr) (M' : Mem), c = .ref C ∧ X.mg x = some (.ref C) ∧ AbsM X.K H' M' ∧ Y (xN x) M'
noncomputable abbrev Cx.ex' (X : Cx) (mk : Bool) (H₀ : Hp) (Y : DXK) : Cx := X.wish (XP X mk (EXof X H₀ Y))
section
variable {X : Cx} {mk : Bool} {H₀ : Hp} {Y : DXK} {st : Stmt} {rest : List Stmt} {t u : DTS} {pos : Pos}
end
section
variable {P : Program} {w : World} {K : PySem.W.Frag} {mg : Str → Option Value} {base : Heap}
end
section
variable {X : Cx} {mk : Bool} {H₀ : Hp} {Y : DXK} {pos cpos : Pos} {x : Str} {j : Nat} {ps : List Str} {sp : DSp} {p : Pos} {e : Expr} {es : List Expr} {t : DTA}
end
section
variable {X : Cx} {mk : Bool} {H₀ : Hp} {Y : DXK} {pos : Pos} {e : Expr} {te : DTE}
end
section
variable {X : Cx} {mk : Bool} {EX : Value → Hp → Prop}
end
section
variable {X : Cx} {mk : Bool} {H₀ : Hp} {Y : DXK} {pos : Pos} {c : Expr} {body : List Stmt} {tc : DTT} {tb : DTS}
end
section
variable {X : Cx} {H₀ : Hp} {Y : DXK} {pos cpos np : Pos} {x : Str} {e₀ : Expr} {te : DTE}
end
noncomputable abbrev Cx.pinned (X : Cx) (pn : List (Addr × Obj)) : Cx := { X with pn := pn }
section
variable {X : Cx} {pins pn : List (Addr × Obj)} {σ : St} {H : Hp} {s : Shared}
end
section
variable {X : Cx} {body suite : List Stmt} {b0 : Stmt} {c : Str} {np hpos pos : Pos} {tb : DXK → DTS} {ts : DTS}
end
section
variable {X : Cx} {body suite : List Stmt} {b0 : Stmt} {c : Str} {np hpos pos : Pos} {tb : DXK → DTS} {ts : DTS}
end
end DL

namespace DL
open PySem PySem.Spec L2
noncomputable def BlK (x : D) (M : Mem) (Q : Bool → Mem → Prop) : Prop := ∃ k, x = .bl k ∧ Q k M
noncomputable def IfK (c : Bool) (A B : Prop) : Prop := if c = true then A else B
noncomputable def SzK (n : Nat) (A : Prop) : Prop := n ≤ sizeLine ∧ A
noncomputable def ParK (i j : Nat) (ds : List D) (F : DEnds) (e : Ev) (M : Mem) : Prop := ∃ x y, ds = [x, y] ∧ F.nx ((e.set i (some x)).set j (some y)) M
noncomputable def SeqK (x : D) (M : Mem) (Q : List D → (Mem → Prop) → Mem → Prop) : Prop := ∃ ds, seqD M x ds ∧ Q ds (fun M' => seqD M' x ds) M
noncomputable def EnumK (xs : List D) (M : Mem) (Q : List D → (Mem → Prop) → Mem → Prop) : Prop := ∃ x ds, xs = [x] ∧ seqD M x ds ∧ Q (enumD ds) (fun M' => seqD M' x ds) M
noncomputable def RngK (xs : List D) (M : Mem) (Q : List D → (Mem → Prop) → Mem → Prop) : Prop := ∃ j : Int, xs = [.int j] ∧ -(2 ^ 62) ≤ j ∧ j < 2 ^ 62 ∧ Q (rangeD 0 j.toNat) (fun _ => True) M
noncomputable def Rng2K (xs : List D) (M : Mem) (Q : List D → (Mem → Prop) → Mem → Prop) : Prop := ∃ i j : Int, xs = [.int i, .int j] ∧ (-(2 ^ 62) ≤ i ∧ i < 2 ^ 62 ∧ -(2 ^ 62) ≤ j ∧ j < 2 ^ 62) ∧ Q (rangeD i (j - i).toNat) (fun _ => True) M
noncomputable def ForK (g : DTG) (tb : DTS) (F : DEnds) (ds : List D) (stay : Mem → Prop) (e : Ev) (M1 : Mem) : Prop := ∃ W : Nat → Ev → Mem → Prop, W 0 e M1 ∧ (∀ i e M, i ≤ ds.length → W i e M → stay M) ∧
  (∀ (i : Nat) (d : D) e M, ds[i]? = some d → W i e M → g d e M fun e2 M2 => tb { F with nx := W (i + 1), ct := W (i + 1), bk := F.nx } e2 M2) ∧ ∀ e M, W ds.length e M → F.nx e M
noncomputable def FrzK (x : D) (M1 : Mem) (R : DK) : Prop := ∃ p ds, x = .ref p ∧ M1 p = some (.lst ds) ∧ R (.vl ds) (delM M1 p)
noncomputable def PartK (x : D) (M : Mem) (Q : Option Int → Mem → Prop) : Prop := ∃ i, x = .int i ∧ Q (some i) M
noncomputable def FgtK (x : D) (M1 : Mem) (R : DK) : Prop := ∃ M2 : Mem, (∀ b o, M2 b = some o → M1 b = some o) ∧ R x M2
noncomputable def LMK (x : D) (M : Mem) (A : Prop) : Prop := (∃ l ds, x = .ref l ∧ M l = some (.lst ds)) ∧ A
noncomputable def AugK (f : Int → Int → Int) (a : Int) (y : D) (M : Mem) (Q : D → Mem → Prop) : Prop := ∃ b, y = .int b ∧ Q (.int (f a b)) M
end DL
namespace DL
open PySem PySem.Spec L2
open PyProof.Rows hiding St

section
variable {e : Ev} {M : Mem} {R : DK} {F : DEnds} {ta tb tc : DTE} {tA tB : DTT} {tr : DTA} {t u : DTS}
theorem z_C {d : D} : dC d e M R = R d M := rfl
theorem z_Op {g : DR2} : dOp g ta tb e M R = ta e M fun x M1 => tb e M1 fun y M2 => g x y M2 R := rfl
theorem z_Un {g : D → Mem → DK → Prop} : dUn g ta e M R = ta e M fun x M1 => g x M1 R := rfl
theorem z_fI {f : Int → Int → D} {i j : Int} : gF (fI f) (.int i) (.int j) M R = R (f i j) M := propext ⟨fun zz => by obtain ⟨_, h, r⟩ := zz; cases h; exact r, fun r => ⟨_, rfl, r⟩⟩
theorem z_fB {f : Bool → Bool → D} {i j : Bool} : gF (fB f) (.bl i) (.bl j) M R = R (f i j) M := propext ⟨fun zz => by obtain ⟨_, h, r⟩ := zz; cases h; exact r, fun r => ⟨_, rfl, r⟩⟩
theorem z_fS {f : Str → Str → D} {i j : Str} : gF (fS f) (.str i) (.str j) M R = R (f i j) M := propext ⟨fun zz => by obtain ⟨_, h, r⟩ := zz; cases h; exact r, fun r => ⟨_, rfl, r⟩⟩
theorem z_gI {C : Int → Int → Prop} {f : Int → Int → D} {i j : Int} : gI C f (.int i) (.int j) M R = (C i j ∧ R (f i j) M) := propext ⟨fun zz => by obtain ⟨_, _, h1, h2, c, r⟩ := zz; cases h1; cases h2; exact ⟨c, r⟩, fun ⟨c, r⟩ => ⟨_, _, rfl, rfl, c, r⟩⟩
theorem z_gU {f : Int → D} {i : Int} : gU f (.int i) M R = R (f i) M := propext ⟨fun zz => by obtain ⟨_, h, r⟩ := zz; cases h; exact r, fun r => ⟨_, rfl, r⟩⟩
theorem z_Test {Q : Bool → Mem → Prop} : dTest ta e M Q = ta e M fun x M' => BlK x M' Q := rfl
theorem z_BlK {b : Bool} {Q : Bool → Mem → Prop} : BlK (.bl b) M Q = Q b M := propext ⟨fun zz => by obtain ⟨_, h, r⟩ := zz; cases h; exact r, fun r => ⟨_, rfl, r⟩⟩
theorem z_And {Q : Bool → Mem → Prop} : dAnd tA tB e M Q = tA e M fun c M1 => IfK c (tB e M1 Q) (Q false M1) := rfl
theorem z_Or {Q : Bool → Mem → Prop} : dOr tA tB e M Q = tA e M fun c M1 => IfK c (Q true M1) (tB e M1 Q) := rfl
theorem z_If : dIf tA ta tb e M R = tA e M fun c M1 => IfK c (ta e M1 R) (tb e M1 R) := rfl
theorem z_IfS : dIfS tA t u F e M = tA e M fun c M1 => IfK c (t F e M1) (u F e M1) := rfl
theorem z_Nil {Q : List D → Mem → Prop} : dNil e M Q = Q [] M := rfl
theorem z_Cons {Q : List D → Mem → Prop} : dCons ta tr e M Q = ta e M fun x M1 => tr e M1 fun xs M2 => Q (x :: xs) M2 := rfl
theorem z_Tup : dTup tr e M R = tr e M fun ds M1 => SzK ds.length (R (.tup ds) M1) := rfl
theorem z_Lst : dLst tr e M R = tr e M fun ds M1 => SzK ds.length (∀ p, M1 p = none → R (.ref p) (updM M1 p (.lst ds))) := rfl
theorem z_Ix {x y z : D} (h : ixD M x y = some z) : gIx x y M R = R z M := propext ⟨fun zz => by obtain ⟨_, h', r⟩ := zz; rw [h] at h'; cases h'; exact r, fun r => ⟨_, h, r⟩⟩
theorem z_EqC {neg : Bool} {x y : D} : gEqC neg x y M R = (cl 60 x = true ∧ cl 60 y = true ∧ R (.bl (neg.xor (@decide (x = y) (Classical.propDecidable _)))) M) := rfl
theorem z_Call {sp : DSp} {dds : List D} {Y : DXK} : dCall sp dds Y tr e M R = tr e M fun ds M1 => sp (ds ++ dds) M1 R Y := rfl
theorem z_CB {g : DRC} : dCB g tr e M R = tr e M fun ds M1 => g ds M1 R := rfl
theorem z_Next : dNext F e M = F.nx e M := rfl
theorem z_Seq : dSeq t u F e M = t { F with nx := u F } e M := rfl
theorem z_Drop : dDrop ta F e M = ta e M fun _ M1 => F.nx e M1 := rfl
theorem z_Ret : dRet ta F e M = ta e M F.rt := rfl
theorem z_Never : dNever F e M = False := rfl
variable {Q : Ev → Mem → Prop}
theorem z_gName {i : Nat} {d : D} : dgName i d e M Q = Q (e.set i (some d)) M := rfl
theorem z_gNil : dgNil [] e M Q = Q e M := propext ⟨fun h => h.2, fun h => ⟨rfl, h⟩⟩
theorem z_gCons {g : DTG} {gs : DTGs} {d : D} {ds : List D} : dgCons g gs (d :: ds) e M Q = g d e M fun e' M' => gs ds e' M' Q := propext ⟨fun zz => by obtain ⟨_, _, h, r⟩ := zz; cases h; exact r, fun r => ⟨_, _, rfl, r⟩⟩
theorem z_gTupLs {n : Nat} {gs : DTGs} {ds : List D} (h : ds.length = n) : dgTupL n gs (.vl ds) e M Q = gs ds e M Q := propext ⟨fun zz => by obtain ⟨_, h', _, r⟩ := zz; cases h'; exact r, fun r => ⟨_, rfl, h, r⟩⟩
theorem z_gTup {n : Nat} {gs : DTGs} {ds : List D} (h : ds.length = n) : dgTup n gs (.tup ds) e M Q = gs ds e M Q := propext ⟨fun zz => by obtain ⟨_, h', _, r⟩ := zz; cases h'; exact r, fun r => ⟨_, rfl, h, r⟩⟩
theorem z_gSub {to ti : DTE} {ts : DTSet} {d : D} : dgSub to ti ts d e M Q = to e M fun o M1 => ti e M1 fun i M2 => ts o i d M2 fun M3 => Q e M3 := rfl
theorem z_Asg {g : DTG} : dAsg ta g F e M = ta e M fun x M1 => g x e M1 F.nx := rfl
theorem z_Par {i j : Nat} : dPar i j tr F e M = tr e M fun ds M1 => ParK i j ds F e M1 := rfl
theorem z_ParK {i j : Nat} {x y : D} : ParK i j [x, y] F e M = F.nx ((e.set i (some x)).set j (some y)) M := propext ⟨fun zz => by obtain ⟨_, _, h, r⟩ := zz; cases h; exact r, fun r => ⟨_, _, rfl, r⟩⟩
theorem z_Abs {i : Int} : gAbs [.int i] M R = R (.int (i.natAbs : Int)) M := propext ⟨fun zz => by obtain ⟨_, h, r⟩ := zz; cases h; exact r, fun r => ⟨_, rfl, r⟩⟩
theorem z_Max {i j : Int} : gMax [.int i, .int j] M R = R (.int (max i j)) M := propext ⟨fun zz => by obtain ⟨_, _, h, r⟩ := zz; cases h; exact r, fun r => ⟨_, _, rfl, r⟩⟩
theorem z_Len {d : D} {n : Nat} (h : lenD M d = some n) : gLen [d] M R = R (.int (n : Int)) M := propext ⟨fun zz => by obtain ⟨_, _, h', h2, r⟩ := zz; cases h'; rw [h] at h2; cases h2; exact r, fun r => ⟨_, _, rfl, h, r⟩⟩
theorem z_IntB {b : Bool} : gIntB [.bl b] M R = R (.int (if b then 1 else 0)) M := propext ⟨fun zz => by obtain ⟨_, h, r⟩ := zz; cases h; exact r, fun r => ⟨_, rfl, r⟩⟩
theorem z_IfK {c : Bool} {A B : Prop} : IfK c A B = ((c = true → A) ∧ (c = false → B)) := by cases c <;> simp [IfK]
theorem z_IfT {A B : Prop} : IfK true A B = A := by simp [IfK]
theorem z_IfF {A B : Prop} : IfK false A B = B := by simp [IfK]
theorem z_SzK {n : Nat} {A : Prop} (h : n ≤ 1000) : SzK n A = A := propext ⟨fun h => h.2, fun a => ⟨sl n h, a⟩⟩

theorem z_v0 {d : D} {r : Ev} : dVar 0 (some d :: r) M R = R d M := propext ⟨fun zz => by obtain ⟨_, h, q⟩ := zz; cases h; exact q, fun q => ⟨_, rfl, q⟩⟩
theorem z_s0 {y z : Option D} {r : Ev} : (y :: r : Ev).set 0 z = z :: r := rfl
theorem z_v1 {x0 : Option D} {d : D} {r : Ev} : dVar 1 (x0 :: some d :: r) M R = R d M := propext ⟨fun zz => by obtain ⟨_, h, q⟩ := zz; cases h; exact q, fun q => ⟨_, rfl, q⟩⟩
theorem z_s1 {x0 : Option D} {y z : Option D} {r : Ev} : (x0 :: y :: r : Ev).set 1 z = x0 :: z :: r := rfl
theorem z_v2 {x0 x1 : Option D} {d : D} {r : Ev} : dVar 2 (x0 :: x1 :: some d :: r) M R = R d M := propext ⟨fun zz => by obtain ⟨_, h, q⟩ := zz; cases h; exact q, fun q => ⟨_, rfl, q⟩⟩
theorem z_s2 {x0 x1 : Option D} {y z : Option D} {r : Ev} : (x0 :: x1 :: y :: r : Ev).set 2 z = x0 :: x1 :: z :: r := rfl
theorem z_v3 {x0 x1 x2 : Option D} {d : D} {r : Ev} : dVar 3 (x0 :: x1 :: x2 :: some d :: r) M R = R d M := propext ⟨fun zz => by obtain ⟨_, h, q⟩ := zz; cases h; exact q, fun q => ⟨_, rfl, q⟩⟩
theorem z_s3 {x0 x1 x2 : Option D} {y z : Option D} {r : Ev} : (x0 :: x1 :: x2 :: y :: r : Ev).set 3 z = x0 :: x1 :: x2 :: z :: r := rfl
theorem z_v4 {x0 x1 x2 x3 : Option D} {d : D} {r : Ev} : dVar 4 (x0 :: x1 :: x2 :: x3 :: some d :: r) M R = R d M := propext ⟨fun zz => by obtain ⟨_, h, q⟩ := zz; cases h; exact q, fun q => ⟨_, rfl, q⟩⟩
theorem z_s4 {x0 x1 x2 x3 : Option D} {y z : Option D} {r : Ev} : (x0 :: x1 :: x2 :: x3 :: y :: r : Ev).set 4 z = x0 :: x1 :: x2 :: x3 :: z :: r := rfl
theorem z_v5 {x0 x1 x2 x3 x4 : Option D} {d : D} {r : Ev} : dVar 5 (x0 :: x1 :: x2 :: x3 :: x4 :: some d :: r) M R = R d M := propext ⟨fun zz => by obtain ⟨_, h, q⟩ := zz; cases h; exact q, fun q => ⟨_, rfl, q⟩⟩
theorem z_s5 {x0 x1 x2 x3 x4 : Option D} {y z : Option D} {r : Ev} : (x0 :: x1 :: x2 :: x3 :: x4 :: y :: r : Ev).set 5 z = x0 :: x1 :: x2 :: x3 :: x4 :: z :: r := rfl
theorem z_v6 {x0 x1 x2 x3 x4 x5 : Option D} {d : D} {r : Ev} : dVar 6 (x0 :: x1 :: x2 :: x3 :: x4 :: x5 :: some d :: r) M R = R d M := propext ⟨fun zz => by obtain ⟨_, h, q⟩ := zz; cases h; exact q, fun q => ⟨_, rfl, q⟩⟩
theorem z_s6 {x0 x1 x2 x3 x4 x5 : Option D} {y z : Option D} {r : Ev} : (x0 :: x1 :: x2 :: x3 :: x4 :: x5 :: y :: r : Ev).set 6 z = x0 :: x1 :: x2 :: x3 :: x4 :: x5 :: z :: r := rfl
theorem z_v7 {x0 x1 x2 x3 x4 x5 x6 : Option D} {d : D} {r : Ev} : dVar 7 (x0 :: x1 :: x2 :: x3 :: x4 :: x5 :: x6 :: some d :: r) M R = R d M := propext ⟨fun zz => by obtain ⟨_, h, q⟩ := zz; cases h; exact q, fun q => ⟨_, rfl, q⟩⟩
theorem z_s7 {x0 x1 x2 x3 x4 x5 x6 : Option D} {y z : Option D} {r : Ev} : (x0 :: x1 :: x2 :: x3 :: x4 :: x5 :: x6 :: y :: r : Ev).set 7 z = x0 :: x1 :: x2 :: x3 :: x4 :: x5 :: x6 :: z :: r := rfl
theorem z_v8 {x0 x1 x2 x3 x4 x5 x6 x7 : Option D} {d : D} {r : Ev} : dVar 8 (x0 :: x1 :: x2 :: x3 :: x4 :: x5 :: x6 :: x7 :: some d :: r) M R = R d M := propext ⟨fun zz => by obtain ⟨_, h, q⟩ := zz; cases h; exact q, fun q => ⟨_, rfl, q⟩⟩
theorem z_s8 {x0 x1 x2 x3 x4 x5 x6 x7 : Option D} {y z : Option D} {r : Ev} : (x0 :: x1 :: x2 :: x3 :: x4 :: x5 :: x6 :: x7 :: y :: r : Ev).set 8 z = x0 :: x1 :: x2 :: x3 :: x4 :: x5 :: x6 :: x7 :: z :: r := rfl
theorem z_v9 {x0 x1 x2 x3 x4 x5 x6 x7 x8 : Option D} {d : D} {r : Ev} : dVar 9 (x0 :: x1 :: x2 :: x3 :: x4 :: x5 :: x6 :: x7 :: x8 :: some d :: r) M R = R d M := propext ⟨fun zz => by obtain ⟨_, h, q⟩ := zz; cases h; exact q, fun q => ⟨_, rfl, q⟩⟩
theorem z_s9 {x0 x1 x2 x3 x4 x5 x6 x7 x8 : Option D} {y z : Option D} {r : Ev} : (x0 :: x1 :: x2 :: x3 :: x4 :: x5 :: x6 :: x7 :: x8 :: y :: r : Ev).set 9 z = x0 :: x1 :: x2 :: x3 :: x4 :: x5 :: x6 :: x7 :: x8 :: z :: r := rfl
theorem z_v10 {x0 x1 x2 x3 x4 x5 x6 x7 x8 x9 : Option D} {d : D} {r : Ev} : dVar 10 (x0 :: x1 :: x2 :: x3 :: x4 :: x5 :: x6 :: x7 :: x8 :: x9 :: some d :: r) M R = R d M := propext ⟨fun zz => by obtain ⟨_, h, q⟩ := zz; cases h; exact q, fun q => ⟨_, rfl, q⟩⟩
theorem z_s10 {x0 x1 x2 x3 x4 x5 x6 x7 x8 x9 : Option D} {y z : Option D} {r : Ev} : (x0 :: x1 :: x2 :: x3 :: x4 :: x5 :: x6 :: x7 :: x8 :: x9 :: y :: r : Ev).set 10 z = x0 :: x1 :: x2 :: x3 :: x4 :: x5 :: x6 :: x7 :: x8 :: x9 :: z :: r := rfl
theorem seqD_tup {M : Mem} {ds es : List D} : seqD M (.tup ds) es = (es = ds) := by
  apply propext
  constructor
  · intro h
    rcases h with h | ⟨_, h, _⟩ | h
    · injection h with h; exact h.symm
    · exact absurd h (by intro z; cases z)
    · exact absurd h (by intro z; cases z)
  · intro h; exact .inl (by rw [h])
theorem seqD_vl {M : Mem} {ds es : List D} : seqD M (.vl ds) es = (es = ds) := by
  apply propext
  constructor
  · intro h
    rcases h with h | ⟨_, h, _⟩ | h
    · exact absurd h (by intro z; cases z)
    · exact absurd h (by intro z; cases z)
    · injection h with h; exact h.symm
  · intro h; exact .inr (.inr (by rw [h]))
theorem atI_lit {ds : List D} {n : Nat} {d : D} (h : ds[n]? = some d) : atI ds (n : Int) = some d := by
  obtain ⟨hl, _⟩ := List.getElem?_eq_some_iff.mp h
  unfold atI ixN
  rw [if_pos (Int.natCast_nonneg n), if_pos (by omega)]
  simpa using h
theorem z_LstV : dLstV tr e M R = tr e M fun ds M1 => SzK ds.length (R (.vl ds) M1) := rfl
theorem z_CatV : dCatV ta tb e M R = ta e M fun x M1 => tb e M1 fun y M2 => gCatV x y M2 R := rfl
theorem z_SlV {tl th : DTO} : dSlV ta tl th e M R = ta e M fun x M1 => tl e M1 fun l M2 => th e M2 fun u M3 => gSlV x l u M3 R := rfl
theorem z_NoPart {Q : Option Int → Mem → Prop} : dNoPart e M Q = Q none M := rfl
theorem z_Part {Q : Option Int → Mem → Prop} : dPart ta e M Q = ta e M fun x M1 => PartK x M1 Q := rfl
theorem z_PartK {i : Int} {Q : Option Int → Mem → Prop} : PartK (.int i) M Q = Q (some i) M := propext ⟨fun zz => by obtain ⟨_, h, r⟩ := zz; cases h; exact r, fun r => ⟨_, rfl, r⟩⟩
theorem z_gTupVl {ds : List D} : gTupL [.vl ds] M R = R (.tup ds) M := propext ⟨fun zz => by obtain ⟨_, _, h, h2, r⟩ := zz; cases h; cases h2; exact r, fun r => ⟨_, _, rfl, rfl, r⟩⟩
theorem z_gCatVl {xs ys : List D} : gCatV (.vl xs) (.vl ys) M R = SzK (xs.length + ys.length) (R (.vl (xs ++ ys)) M) := propext ⟨fun zz => by obtain ⟨_, _, h, h2, z, r⟩ := zz; cases h; cases h2; exact ⟨z, r⟩, fun ⟨z, r⟩ => ⟨_, _, rfl, rfl, z, r⟩⟩
theorem z_gSlVl {xs : List D} {lo hi : Option Int} : gSlV (.vl xs) lo hi M R = R (.vl (cutD xs lo hi)) M := propext ⟨fun h => by
  rcases h with ⟨_, h, r⟩ | ⟨_, h, _⟩
  · cases h; exact r
  · exact (nomatch h), fun r => .inl ⟨_, rfl, r⟩⟩
theorem z_gSlVt {xs : List D} {lo hi : Option Int} : gSlV (.tup xs) lo hi M R = (¬ (HT.sIx xs.length 0 lo = 0 ∧ HT.sIx xs.length xs.length hi = xs.length) ∧ R (.tup (cutD xs lo hi)) M) := propext ⟨fun h => by
  rcases h with ⟨_, h, r⟩ | ⟨_, h, hw, r⟩
  · cases h
  · cases h; exact ⟨hw, r⟩, fun ⟨hw, r⟩ => .inr ⟨_, rfl, hw, r⟩⟩
theorem z_RevL : dRevL ta e M R = ta e M fun x M1 => gRevV x M1 R := rfl
theorem z_gRevVl {xs : List D} : gRevV (.vl xs) M R = R (.vl xs.reverse) M := propext ⟨fun zz => by obtain ⟨_, h, r⟩ := zz; cases h; exact r, fun r => ⟨_, rfl, r⟩⟩
theorem z_Frz : dFrz ta e M R = ta e M fun x M1 => FrzK x M1 R := rfl
theorem z_CompV {n : Nat} {caps : List Nat} {ti : DTI} {g : DTG} {tc : DTIfs} {te : DTE} : dCompV n caps ti g tc te e M R = ti e M fun ds stay M1 => CompV (capE n caps e) g tc te ds stay M1 R := rfl
theorem z_Yes {Q : Bool → Mem → Prop} : dYes e M Q = Q true M := rfl
section
variable {Q : List D → (Mem → Prop) → Mem → Prop}
theorem z_diSeq : diSeq ta e M Q = ta e M fun x M1 => SeqK x M1 Q := rfl
theorem z_SeqT {ds : List D} : SeqK (.tup ds) M Q = Q ds (fun M' => seqD M' (.tup ds) ds) M := propext ⟨fun zz => by obtain ⟨_, h, r⟩ := zz; rw [seqD_tup] at h; subst h; exact r, fun r => ⟨_, .inl rfl, r⟩⟩
theorem z_SeqV {ds : List D} : SeqK (.vl ds) M Q = Q ds (fun M' => seqD M' (.vl ds) ds) M := propext ⟨fun zz => by obtain ⟨_, h, r⟩ := zz; rw [seqD_vl] at h; subst h; exact r, fun r => ⟨_, .inr (.inr rfl), r⟩⟩
theorem z_diEnum : diEnum tr e M Q = tr e M fun xs M1 => EnumK xs M1 Q := rfl
theorem z_EnumT {ds : List D} : EnumK [.tup ds] M Q = Q (enumD ds) (fun M' => seqD M' (.tup ds) ds) M := propext ⟨fun zz => by obtain ⟨_, _, h, h2, r⟩ := zz; cases h; rw [seqD_tup] at h2; subst h2; exact r, fun r => ⟨_, _, rfl, .inl rfl, r⟩⟩
theorem z_EnumV {ds : List D} : EnumK [.vl ds] M Q = Q (enumD ds) (fun M' => seqD M' (.vl ds) ds) M := propext ⟨fun zz => by obtain ⟨_, _, h, h2, r⟩ := zz; cases h; rw [seqD_vl] at h2; subst h2; exact r, fun r => ⟨_, _, rfl, .inr (.inr rfl), r⟩⟩
theorem z_diRng : diRng tr e M Q = tr e M fun xs M1 => RngK xs M1 Q := rfl
theorem z_RngK {j : Int} : RngK [.int j] M Q = ((-(2 ^ 62) ≤ j ∧ j < 2 ^ 62) ∧ Q (rangeD 0 j.toNat) (fun _ => True) M) := propext ⟨fun zz => by obtain ⟨_, h, a, b, r⟩ := zz; cases h; exact ⟨⟨a, b⟩, r⟩, fun ⟨⟨a, b⟩, r⟩ => ⟨_, rfl, a, b, r⟩⟩
theorem z_diRng2 : diRng2 tr e M Q = tr e M fun xs M1 => Rng2K xs M1 Q := rfl
theorem z_Rng2K {i j : Int} : Rng2K [.int i, .int j] M Q = ((-(2 ^ 62) ≤ i ∧ i < 2 ^ 62 ∧ -(2 ^ 62) ≤ j ∧ j < 2 ^ 62) ∧ Q (rangeD i (j - i).toNat) (fun _ => True) M) := propext ⟨fun zz => by obtain ⟨_, _, h, a, r⟩ := zz; cases h; exact ⟨a, r⟩, fun ⟨a, r⟩ => ⟨_, _, rfl, a, r⟩⟩
end
theorem z_For {ti : DTI} {g : DTG} : dFor ti g t F e M = ti e M fun ds stay M1 => ForK g t F ds stay e M1 := rfl
theorem ForK.by {g : DTG} {ds : List D} {stay : Mem → Prop} {M1 : Mem} (W : Nat → Ev → Mem → Prop) (w0 : W 0 e M1) (st : ∀ i e M, i ≤ ds.length → W i e M → stay M)
    (turn : ∀ (i : Nat) (d : D) e M, ds[i]? = some d → W i e M → g d e M fun e2 M2 => t { F with nx := W (i + 1), ct := W (i + 1), bk := F.nx } e2 M2) (done : ∀ e M, W ds.length e M → F.nx e M) : ForK g t F ds stay e M1 := ⟨W, w0, st, turn, done⟩
theorem WhileBy {F : DEnds} (W : Nat → Ev → Mem → Prop) (m : Nat) (w0 : W m e M) (turn : ∀ m e M, W m e M → tA e M fun b M1 => IfK b (t { F with nx := fun e' M' => ∃ m', m' < m ∧ W m' e' M', ct := fun e' M' => ∃ m', m' < m ∧ W m' e' M', bk := F.nx } e M1) (F.nx e M1)) : dWhile tA t F e M := ⟨W, ⟨m, w0⟩, turn⟩
theorem JoinBy {F : DEnds} (P : Ev → Mem → Prop) (h1 : t { F with nx := P } e M) (h2 : ∀ e' M', P e' M' → u F e' M') : dSeqM t u F e M := ⟨P, h1, h2⟩
theorem z_AugK {f : Int → Int → Int} {a b : Int} {Q : D → Mem → Prop} : AugK f a (.int b) M Q = Q (.int (f a b)) M := propext ⟨fun zz => by obtain ⟨_, h, r⟩ := zz; cases h; exact r, fun r => ⟨_, rfl, r⟩⟩
theorem z_LM {g : DRM} : dLM g ta tr e M R = ta e M fun x M1 => LMK x M1 (tr e M1 fun xs M2 => g x xs M2 R) := rfl
theorem z_ixT0 {x0 : D} {r : List D} : gIx (.tup (x0 :: r)) (.int 0) M R = R x0 M := z_Ix (atI_lit (n := 0) rfl)
theorem z_ixV0 {x0 : D} {r : List D} : gIx (.vl (x0 :: r)) (.int 0) M R = R x0 M := z_Ix (atI_lit (n := 0) rfl)
theorem z_ixT1 {x0 x1 : D} {r : List D} : gIx (.tup (x0 :: x1 :: r)) (.int 1) M R = R x1 M := z_Ix (atI_lit (n := 1) rfl)
theorem z_ixV1 {x0 x1 : D} {r : List D} : gIx (.vl (x0 :: x1 :: r)) (.int 1) M R = R x1 M := z_Ix (atI_lit (n := 1) rfl)
theorem z_ixT2 {x0 x1 x2 : D} {r : List D} : gIx (.tup (x0 :: x1 :: x2 :: r)) (.int 2) M R = R x2 M := z_Ix (atI_lit (n := 2) rfl)
theorem z_ixV2 {x0 x1 x2 : D} {r : List D} : gIx (.vl (x0 :: x1 :: x2 :: r)) (.int 2) M R = R x2 M := z_Ix (atI_lit (n := 2) rfl)
theorem z_ixT3 {x0 x1 x2 x3 : D} {r : List D} : gIx (.tup (x0 :: x1 :: x2 :: x3 :: r)) (.int 3) M R = R x3 M := z_Ix (atI_lit (n := 3) rfl)
theorem z_ixV3 {x0 x1 x2 x3 : D} {r : List D} : gIx (.vl (x0 :: x1 :: x2 :: x3 :: r)) (.int 3) M R = R x3 M := z_Ix (atI_lit (n := 3) rfl)
theorem z_ixT4 {x0 x1 x2 x3 x4 : D} {r : List D} : gIx (.tup (x0 :: x1 :: x2 :: x3 :: x4 :: r)) (.int 4) M R = R x4 M := z_Ix (atI_lit (n := 4) rfl)
theorem z_ixV4 {x0 x1 x2 x3 x4 : D} {r : List D} : gIx (.vl (x0 :: x1 :: x2 :: x3 :: x4 :: r)) (.int 4) M R = R x4 M := z_Ix (atI_lit (n := 4) rfl)
theorem z_ixT5 {x0 x1 x2 x3 x4 x5 : D} {r : List D} : gIx (.tup (x0 :: x1 :: x2 :: x3 :: x4 :: x5 :: r)) (.int 5) M R = R x5 M := z_Ix (atI_lit (n := 5) rfl)
theorem z_ixV5 {x0 x1 x2 x3 x4 x5 : D} {r : List D} : gIx (.vl (x0 :: x1 :: x2 :: x3 :: x4 :: x5 :: r)) (.int 5) M R = R x5 M := z_Ix (atI_lit (n := 5) rfl)
theorem z_ixT6 {x0 x1 x2 x3 x4 x5 x6 : D} {r : List D} : gIx (.tup (x0 :: x1 :: x2 :: x3 :: x4 :: x5 :: x6 :: r)) (.int 6) M R = R x6 M := z_Ix (atI_lit (n := 6) rfl)
theorem z_ixV6 {x0 x1 x2 x3 x4 x5 x6 : D} {r : List D} : gIx (.vl (x0 :: x1 :: x2 :: x3 :: x4 :: x5 :: x6 :: r)) (.int 6) M R = R x6 M := z_Ix (atI_lit (n := 6) rfl)
theorem z_ixT7 {x0 x1 x2 x3 x4 x5 x6 x7 : D} {r : List D} : gIx (.tup (x0 :: x1 :: x2 :: x3 :: x4 :: x5 :: x6 :: x7 :: r)) (.int 7) M R = R x7 M := z_Ix (atI_lit (n := 7) rfl)
theorem z_ixV7 {x0 x1 x2 x3 x4 x5 x6 x7 : D} {r : List D} : gIx (.vl (x0 :: x1 :: x2 :: x3 :: x4 :: x5 :: x6 :: x7 :: r)) (.int 7) M R = R x7 M := z_Ix (atI_lit (n := 7) rfl)
theorem z_a0 {a : Int} {r : Ev} {f : Int → Int → Int} : dAug 0 f ta F (some (.int a) :: r) M = ta (some (.int a) :: r) M fun y M1 => AugK f a y M1 fun d M2 => F.nx (some d :: r) M2 := propext ⟨fun zz => by obtain ⟨_, h, q⟩ := zz; cases h; exact q, fun q => ⟨_, rfl, q⟩⟩
theorem z_a1 {x0 : Option D} {a : Int} {r : Ev} {f : Int → Int → Int} : dAug 1 f ta F (x0 :: some (.int a) :: r) M = ta (x0 :: some (.int a) :: r) M fun y M1 => AugK f a y M1 fun d M2 => F.nx (x0 :: some d :: r) M2 := propext ⟨fun zz => by obtain ⟨_, h, q⟩ := zz; cases h; exact q, fun q => ⟨_, rfl, q⟩⟩
theorem z_a2 {x0 x1 : Option D} {a : Int} {r : Ev} {f : Int → Int → Int} : dAug 2 f ta F (x0 :: x1 :: some (.int a) :: r) M = ta (x0 :: x1 :: some (.int a) :: r) M fun y M1 => AugK f a y M1 fun d M2 => F.nx (x0 :: x1 :: some d :: r) M2 := propext ⟨fun zz => by obtain ⟨_, h, q⟩ := zz; cases h; exact q, fun q => ⟨_, rfl, q⟩⟩
theorem z_a3 {x0 x1 x2 : Option D} {a : Int} {r : Ev} {f : Int → Int → Int} : dAug 3 f ta F (x0 :: x1 :: x2 :: some (.int a) :: r) M = ta (x0 :: x1 :: x2 :: some (.int a) :: r) M fun y M1 => AugK f a y M1 fun d M2 => F.nx (x0 :: x1 :: x2 :: some d :: r) M2 := propext ⟨fun zz => by obtain ⟨_, h, q⟩ := zz; cases h; exact q, fun q => ⟨_, rfl, q⟩⟩
theorem z_a4 {x0 x1 x2 x3 : Option D} {a : Int} {r : Ev} {f : Int → Int → Int} : dAug 4 f ta F (x0 :: x1 :: x2 :: x3 :: some (.int a) :: r) M = ta (x0 :: x1 :: x2 :: x3 :: some (.int a) :: r) M fun y M1 => AugK f a y M1 fun d M2 => F.nx (x0 :: x1 :: x2 :: x3 :: some d :: r) M2 := propext ⟨fun zz => by obtain ⟨_, h, q⟩ := zz; cases h; exact q, fun q => ⟨_, rfl, q⟩⟩
theorem z_a5 {x0 x1 x2 x3 x4 : Option D} {a : Int} {r : Ev} {f : Int → Int → Int} : dAug 5 f ta F (x0 :: x1 :: x2 :: x3 :: x4 :: some (.int a) :: r) M = ta (x0 :: x1 :: x2 :: x3 :: x4 :: some (.int a) :: r) M fun y M1 => AugK f a y M1 fun d M2 => F.nx (x0 :: x1 :: x2 :: x3 :: x4 :: some d :: r) M2 := propext ⟨fun zz => by obtain ⟨_, h, q⟩ := zz; cases h; exact q, fun q => ⟨_, rfl, q⟩⟩
theorem z_a6 {x0 x1 x2 x3 x4 x5 : Option D} {a : Int} {r : Ev} {f : Int → Int → Int} : dAug 6 f ta F (x0 :: x1 :: x2 :: x3 :: x4 :: x5 :: some (.int a) :: r) M = ta (x0 :: x1 :: x2 :: x3 :: x4 :: x5 :: some (.int a) :: r) M fun y M1 => AugK f a y M1 fun d M2 => F.nx (x0 :: x1 :: x2 :: x3 :: x4 :: x5 :: some d :: r) M2 := propext ⟨fun zz => by obtain ⟨_, h, q⟩ := zz; cases h; exact q, fun q => ⟨_, rfl, q⟩⟩
theorem z_a7 {x0 x1 x2 x3 x4 x5 x6 : Option D} {a : Int} {r : Ev} {f : Int → Int → Int} : dAug 7 f ta F (x0 :: x1 :: x2 :: x3 :: x4 :: x5 :: x6 :: some (.int a) :: r) M = ta (x0 :: x1 :: x2 :: x3 :: x4 :: x5 :: x6 :: some (.int a) :: r) M fun y M1 => AugK f a y M1 fun d M2 => F.nx (x0 :: x1 :: x2 :: x3 :: x4 :: x5 :: x6 :: some d :: r) M2 := propext ⟨fun zz => by obtain ⟨_, h, q⟩ := zz; cases h; exact q, fun q => ⟨_, rfl, q⟩⟩
theorem z_a8 {x0 x1 x2 x3 x4 x5 x6 x7 : Option D} {a : Int} {r : Ev} {f : Int → Int → Int} : dAug 8 f ta F (x0 :: x1 :: x2 :: x3 :: x4 :: x5 :: x6 :: x7 :: some (.int a) :: r) M = ta (x0 :: x1 :: x2 :: x3 :: x4 :: x5 :: x6 :: x7 :: some (.int a) :: r) M fun y M1 => AugK f a y M1 fun d M2 => F.nx (x0 :: x1 :: x2 :: x3 :: x4 :: x5 :: x6 :: x7 :: some d :: r) M2 := propext ⟨fun zz => by obtain ⟨_, h, q⟩ := zz; cases h; exact q, fun q => ⟨_, rfl, q⟩⟩
theorem z_a9 {x0 x1 x2 x3 x4 x5 x6 x7 x8 : Option D} {a : Int} {r : Ev} {f : Int → Int → Int} : dAug 9 f ta F (x0 :: x1 :: x2 :: x3 :: x4 :: x5 :: x6 :: x7 :: x8 :: some (.int a) :: r) M = ta (x0 :: x1 :: x2 :: x3 :: x4 :: x5 :: x6 :: x7 :: x8 :: some (.int a) :: r) M fun y M1 => AugK f a y M1 fun d M2 => F.nx (x0 :: x1 :: x2 :: x3 :: x4 :: x5 :: x6 :: x7 :: x8 :: some d :: r) M2 := propext ⟨fun zz => by obtain ⟨_, h, q⟩ := zz; cases h; exact q, fun q => ⟨_, rfl, q⟩⟩
theorem z_a10 {x0 x1 x2 x3 x4 x5 x6 x7 x8 x9 : Option D} {a : Int} {r : Ev} {f : Int → Int → Int} : dAug 10 f ta F (x0 :: x1 :: x2 :: x3 :: x4 :: x5 :: x6 :: x7 :: x8 :: x9 :: some (.int a) :: r) M = ta (x0 :: x1 :: x2 :: x3 :: x4 :: x5 :: x6 :: x7 :: x8 :: x9 :: some (.int a) :: r) M fun y M1 => AugK f a y M1 fun d M2 => F.nx (x0 :: x1 :: x2 :: x3 :: x4 :: x5 :: x6 :: x7 :: x8 :: x9 :: some d :: r) M2 := propext ⟨fun zz => by obtain ⟨_, h, q⟩ := zz; cases h; exact q, fun q => ⟨_, rfl, q⟩⟩
theorem z_sz0 {A : Prop} : SzK (0) A = A := z_SzK (by decide)
theorem z_sz1 {A : Prop} : SzK (0 + 1) A = A := z_SzK (by decide)
theorem z_sz2 {A : Prop} : SzK (0 + 1 + 1) A = A := z_SzK (by decide)
theorem z_sz3 {A : Prop} : SzK (0 + 1 + 1 + 1) A = A := z_SzK (by decide)
theorem z_sz4 {A : Prop} : SzK (0 + 1 + 1 + 1 + 1) A = A := z_SzK (by decide)
theorem z_sz5 {A : Prop} : SzK (0 + 1 + 1 + 1 + 1 + 1) A = A := z_SzK (by decide)
theorem z_sz6 {A : Prop} : SzK (0 + 1 + 1 + 1 + 1 + 1 + 1) A = A := z_SzK (by decide)
theorem z_sz7 {A : Prop} : SzK (0 + 1 + 1 + 1 + 1 + 1 + 1 + 1) A = A := z_SzK (by decide)
theorem z_sz8 {A : Prop} : SzK (0 + 1 + 1 + 1 + 1 + 1 + 1 + 1 + 1) A = A := z_SzK (by decide)
theorem z_sz9 {A : Prop} : SzK (0 + 1 + 1 + 1 + 1 + 1 + 1 + 1 + 1 + 1) A = A := z_SzK (by decide)
theorem z_clI60 {i : Int} : cl 60 (.int i) = true := rfl
theorem z_clN60 : cl 60 .non = true := rfl
theorem z_clT60 {ds : List D} : cl 60 (.tup ds) = clL 59 ds := rfl
theorem z_clV60 {ds : List D} : cl 60 (.vl ds) = clL 59 ds := rfl
theorem z_cln59 : clL 59 [] = true := rfl
theorem z_clc59 {d : D} {r : List D} : clL 59 (d :: r) = (cl 59 d && clL 59 r) := rfl
theorem z_clI59 {i : Int} : cl 59 (.int i) = true := rfl
theorem z_clN59 : cl 59 .non = true := rfl
theorem z_clT59 {ds : List D} : cl 59 (.tup ds) = clL 58 ds := rfl
theorem z_clV59 {ds : List D} : cl 59 (.vl ds) = clL 58 ds := rfl
theorem z_cln58 : clL 58 [] = true := rfl
theorem z_clc58 {d : D} {r : List D} : clL 58 (d :: r) = (cl 58 d && clL 58 r) := rfl
theorem z_clI58 {i : Int} : cl 58 (.int i) = true := rfl
theorem z_clN58 : cl 58 .non = true := rfl
theorem z_clT58 {ds : List D} : cl 58 (.tup ds) = clL 57 ds := rfl
theorem z_clV58 {ds : List D} : cl 58 (.vl ds) = clL 57 ds := rfl
theorem z_cln57 : clL 57 [] = true := rfl
theorem z_clc57 {d : D} {r : List D} : clL 57 (d :: r) = (cl 57 d && clL 57 r) := rfl
theorem z_clI57 {i : Int} : cl 57 (.int i) = true := rfl
theorem z_clN57 : cl 57 .non = true := rfl
theorem z_clT57 {ds : List D} : cl 57 (.tup ds) = clL 56 ds := rfl
theorem z_clV57 {ds : List D} : cl 57 (.vl ds) = clL 56 ds := rfl
theorem z_cln56 : clL 56 [] = true := rfl
theorem z_clc56 {d : D} {r : List D} : clL 56 (d :: r) = (cl 56 d && clL 56 r) := rfl
theorem z_clI56 {i : Int} : cl 56 (.int i) = true := rfl
theorem z_clN56 : cl 56 .non = true := rfl
theorem z_clT56 {ds : List D} : cl 56 (.tup ds) = clL 55 ds := rfl
theorem z_clV56 {ds : List D} : cl 56 (.vl ds) = clL 55 ds := rfl
theorem z_cln55 : clL 55 [] = true := rfl
theorem z_clc55 {d : D} {r : List D} : clL 55 (d :: r) = (cl 55 d && clL 55 r) := rfl
theorem z_clI55 {i : Int} : cl 55 (.int i) = true := rfl
theorem z_clN55 : cl 55 .non = true := rfl
theorem z_clT55 {ds : List D} : cl 55 (.tup ds) = clL 54 ds := rfl
theorem z_clV55 {ds : List D} : cl 55 (.vl ds) = clL 54 ds := rfl
theorem z_cln54 : clL 54 [] = true := rfl
theorem z_clc54 {d : D} {r : List D} : clL 54 (d :: r) = (cl 54 d && clL 54 r) := rfl
theorem z_LenV {xs : List D} : gLen [.vl xs] M R = R (.int (xs.length : Int)) M := z_Len rfl
theorem z_LenT {xs : List D} : gLen [.tup xs] M R = R (.int (xs.length : Int)) M := z_Len rfl
theorem z_szk1 {A : Prop} : SzK 1 A = A := z_SzK (by decide)
theorem z_szk2 {A : Prop} : SzK 2 A = A := z_SzK (by decide)
theorem z_szk3 {A : Prop} : SzK 3 A = A := z_SzK (by decide)
theorem z_szk4 {A : Prop} : SzK 4 A = A := z_SzK (by decide)
theorem z_szk5 {A : Prop} : SzK 5 A = A := z_SzK (by decide)
theorem z_szk6 {A : Prop} : SzK 6 A = A := z_SzK (by decide)
theorem z_szk7 {A : Prop} : SzK 7 A = A := z_SzK (by decide)
theorem z_szk8 {A : Prop} : SzK 8 A = A := z_SzK (by decide)
theorem z_szk9 {A : Prop} : SzK 9 A = A := z_SzK (by decide)
theorem z_szk10 {A : Prop} : SzK 10 A = A := z_SzK (by decide)
theorem z_szk11 {A : Prop} : SzK 11 A = A := z_SzK (by decide)
theorem z_szk12 {A : Prop} : SzK 12 A = A := z_SzK (by decide)
theorem z_AnyV {bs : List Bool} : gAny [.vl (bs.map D.bl)] M R = R (.bl (bs.any id)) M := propext ⟨fun zz => by
  obtain ⟨_, bs', e, h, r⟩ := zz
  cases e
  have e2 : bs.map D.bl = bs'.map D.bl := Option.some.inj h
  have e3 : bs = bs' := (List.map_inj_right (fun a b z => by injection z)).mp e2
  subst e3; exact r, fun r => ⟨_, bs, rfl, rfl, r⟩⟩
theorem z_Fgt : dFgt ta e M R = ta e M fun x M1 => FgtK x M1 R := rfl
theorem SeqK_of {x : D} {ds : List D} {Q : List D → (Mem → Prop) → Mem → Prop} (h : seqD M x ds) (r : Q ds (fun M' => seqD M' x ds) M) : SeqK x M Q := ⟨ds, h, r⟩
theorem LMK_of {l : Addr} {ds : List D} {A : Prop} (h : M l = some (.lst ds)) (a : A) : LMK (.ref l) M A := ⟨⟨l, ds, rfl, h⟩, a⟩
theorem App_of {l : Addr} {ds : List D} {v : D} (h : M l = some (.lst ds)) (hz : ds.length < 1000) (r : R .non (updM M l (.lst (ds ++ [v])))) : gAppend (.ref l) [v] M R := ⟨l, ds, v, rfl, rfl, h, Nat.lt_of_lt_of_le hz (by decide), r⟩
theorem Frz_of {p : Addr} {ds : List D} (h : M p = none) (r : R (.vl ds) M) : FrzK (.ref p) (updM M p (.lst ds)) R := ⟨p, ds, rfl, updM_same, by rw [delM_upd h]; exact r⟩
theorem Fgt_of {x : D} {M1 M2 : Mem} (h : ∀ b o, M2 b = some o → M1 b = some o) (r : R x M2) : FgtK x M1 R := ⟨M2, h, r⟩
theorem z_SumV {ns : List Int} : gSum [.vl (ns.map D.int)] M R = R (.int ns.sum) M := propext ⟨fun zz => by
  obtain ⟨_, ms, e, h, r⟩ := zz
  cases e
  have h : ns.map D.int = ms.map D.int := Option.some.inj h
  have e2 : ns = ms := (List.map_inj_right (fun a b z => by injection z)).mp h
  rw [e2]; exact r, fun r => ⟨_, ns, rfl, rfl, r⟩⟩
theorem App_ofL {l : Addr} {ds : List D} {v : D} (h : M l = some (.lst ds)) (hz : ds.length < 100000) (r : R .non (updM M l (.lst (ds ++ [v])))) : gAppend (.ref l) [v] M R := ⟨l, ds, v, rfl, rfl, h, Nat.lt_of_lt_of_le hz (show 100000 ≤ sizeLine by decide), r⟩
end
end DL

namespace DL
open PySem PySem.Spec L2
open PyProof.Rows hiding St
theorem all0 {p : Str → Prop} : ∀ x ∈ ([] : List Str), p x := fun _ h => nomatch h
section
variable {e0 : Ev} {g : DTG} {te : DTE} {tc : DTIfs} {ds : List D} {stay : Mem → Prop} {M1 : Mem} {E : List D → Mem → Prop}
theorem compV_map {α : Type} {xs : List α} {enc : α → D} (f : α → D) (hn : xs.length ≤ 1000) (hst : stay M1) (step : ∀ x ∈ xs, ∀ Q : DK, Q (f x) M1 → g (enc x) e0 M1 fun e2 M2 => te e2 M2 Q) (h : E (xs.map f) M1) : ∃ W, CompW e0 g dYes te (xs.map enc) stay M1 E W := by
  refine ⟨fun i ys M => M = M1 ∧ ys = (xs.take i).map f, ⟨⟨rfl, rfl⟩, fun i ys M _ w => by rw [w.1]; exact hst, fun i d ys M hd w => ?_, fun ys M w => ?_⟩⟩
  · obtain ⟨rfl, rfl⟩ := w
    rw [List.getElem?_map] at hd
    cases hx : xs[i]? with
    | none => rw [hx] at hd; cases hd
    | some x =>
      rw [hx] at hd
      obtain rfl : enc x = d := by simpa using hd
      refine step x (List.mem_of_getElem? hx) _ ⟨?_, rfl, ?_⟩
      · rw [List.length_map, List.length_take]
        exact Nat.lt_of_le_of_lt (Nat.le_trans (Nat.min_le_right _ _) hn) (by decide)
      · obtain ⟨hl, he⟩ := List.getElem?_eq_some_iff.mp hx
        rw [List.take_succ_eq_append_getElem hl, List.map_append, he]; rfl
  · obtain ⟨rfl, rfl⟩ := w
    rw [List.length_map, List.take_length]; exact h
theorem compV_mapL {α : Type} {xs : List α} {enc : α → D} (f : α → D) (hn : xs.length ≤ 100000) (hst : stay M1) (step : ∀ x ∈ xs, ∀ Q : DK, Q (f x) M1 → g (enc x) e0 M1 fun e2 M2 => te e2 M2 Q) (h : E (xs.map f) M1) : ∃ W, CompW e0 g dYes te (xs.map enc) stay M1 E W := by
  refine ⟨fun i ys M => M = M1 ∧ ys = (xs.take i).map f, ⟨⟨rfl, rfl⟩, fun i ys M _ w => by rw [w.1]; exact hst, fun i d ys M hd w => ?_, fun ys M w => ?_⟩⟩
  · obtain ⟨rfl, rfl⟩ := w
    rw [List.getElem?_map] at hd
    cases hx : xs[i]? with
    | none => rw [hx] at hd; cases hd
    | some x =>
      rw [hx] at hd
      obtain rfl : enc x = d := by simpa using hd
      refine step x (List.mem_of_getElem? hx) _ ⟨?_, rfl, ?_⟩
      · rw [List.length_map, List.length_take]
        exact Nat.lt_of_le_of_lt (Nat.le_trans (Nat.min_le_right _ _) hn) (by decide)
      · obtain ⟨hl, he⟩ := List.getElem?_eq_some_iff.mp hx
        rw [List.take_succ_eq_append_getElem hl, List.map_append, he]; rfl
  · obtain ⟨rfl, rfl⟩ := w
    rw [List.length_map, List.take_length]; exact h
end

section
variable {X : Cx} {pos : Pos}
theorem jc {x : Str} {j k : Nat} {ps : List Str} {sp : DSp} {p : Pos} {e : Expr} {es : List Expr} {t : DTA} (G : Fn X.prog X.w X.K X.mg X.base x j ps sp) (hr : Room k X.A) (ha : JA X (e :: es) t) (hk : j ≤ k := by decide) (hg : Gl X x := by rfl)
    (hdb : (x == ("__debug__" : Str)) = false := by decide) (he : starEach (e :: es) X.env = (false, eval e X.env) :: starEach es X.env := by rfl) (hpl : (backTo pos (starEach es X.env)).any (·.1) = false := by rfl) : JE X (.Call (.Name x p) (e :: es) [] pos) (dCall sp [] Y0 t) := jd_callF G (hr.mono hk) hg ha hdb he hpl
theorem jx {a b : Expr} {ta tb : DTE} (ha : JE X a ta) (hb : JE X b tb) (hs : PlainIx b := by exact fun _ _ => rfl) : JE X (.Subscript a b pos) (dOp gIx ta tb) := jd_ix i_any ha hb hs
theorem jst (i : Nat) {x : Str} {e : Expr} {tx : DTE} {q : Pos} (hN : X.N.Nodup) (he : JE X e tx) (hi : X.N[i]? = some x := by rfl) (hx : Loc X.env.scope x := by first | exact .inl rfl | exact .inr rfl) (hs : swapsWith e (some (.Name x q)) pos.line X.env = pure false := by rfl)
    (hf : X.fn x = true ∨ X.env.scope.names.lookup x = some .local := by first | exact .inl rfl | exact .inr rfl | assumption) : JS X (.Assign [.Name x q] e pos) (dAsg tx (dgName i)) := jds_set hN hi hx he hs hf
theorem jn (i : Nat) {x : Str} (hN : X.N.Nodup) (hi : X.N[i]? = some x := by rfl) (hx : Loc X.env.scope x := by first | exact .inl rfl | exact .inr rfl) (hf : X.fn x = true ∨ X.env.scope.names.lookup x = some .local := by first | exact .inl rfl | exact .inr rfl | assumption) : JG X (.Name x pos) (dgName i) := jdg_name hN hi hx hf
theorem jm {op : CmpOp} {g : DR2} {a b : Expr} {ta tb : DTE} (ho : DOp X (compareOp op) g) (ha : JE X a ta) (hb : JE X b tb) (hm : behindInMarks op b = false := by first | exact nomark _ | with_unfolding_all rfl) : JE X (.Compare a [op] [b] pos) (dOp g ta tb) := jd_cmp ho ha hb hm
theorem jtm {op : CmpOp} {g : DR2} {a b : Expr} {ta tb : DTE} (ho : DOp X (compareOp op) g) (ha : JE X a ta) (hb : JE X b tb) (hm : behindInMarks op b = false := by first | exact nomark _ | with_unfolding_all rfl) : JT X (.Compare a [op] [b] pos) (dTest (dOp g ta tb)) := jd_tcmp ho ha hb hm
end
end DL

namespace GM
open PySem PySem.Spec L2 DL
open PyProof.Rows hiding St
noncomputable def ratD (q : Rat) : D := .tup [.int q.num, .int (q.den : Int)]
theorem ratD_inj {q r : Rat} (h : ratD q = ratD r) : q = r := by
  unfold ratD at h
  injection h with h
  injection h with h1 h2
  injection h1 with h1
  injection h2 with h2 _
  injection h2 with h2
  exact Rat.ext h1 (by omega)
theorem ratD_iff {q r : Rat} : ratD q = ratD r ↔ q = r := ⟨ratD_inj, fun h => by rw [h]⟩
structure PoolAt (M : Mem) (p : Addr) : Prop where
  ex : ∃ x y z : Int, M p = some (.lst [.int x, .int y, .int z])
noncomputable def MK (M M' : Mem) : Prop := ∀ b o, M b = some o → M' b = some o
theorem MK.refl (M : Mem) : MK M M := fun _ _ h => h
theorem MK.trans {M M1 M2 : Mem} (a : MK M M1) (b : MK M1 M2) : MK M M2 := fun c o h => b c o (a c o h)
theorem MK.new {M : Mem} {p : Addr} {o : MO} (h : M p = none) : MK M (updM M p o) := fun b u e => by
  have : b ≠ p := by intro z; subst z; rw [h] at e; cases e
  rw [updM_ne this]; exact e
theorem MK.pool {M M' : Mem} (k : MK M M') {p : Addr} (h : PoolAt M p) : PoolAt M' p := let ⟨x, y, z, e⟩ := h.ex; ⟨x, y, z, k _ _ e⟩
structure PStep (p : Addr) (M M' : Mem) : Prop where
  keep : ∀ b o, b ≠ p → M b = some o → M' b = some o
  pool : PoolAt M' p
theorem PStep.refl {p : Addr} {M : Mem} (h : PoolAt M p) : PStep p M M := ⟨fun _ _ _ h => h, h⟩
theorem PStep.trans {p : Addr} {M M1 M2 : Mem} (a : PStep p M M1) (b : PStep p M1 M2) : PStep p M M2 := ⟨fun c o n h => b.keep c o n (a.keep c o n h), b.pool⟩
theorem PStep.mk' {p : Addr} {M M1 : Mem} (h : PoolAt M p) (k : MK M M1) : PStep p M M1 := ⟨fun c o _ h => k c o h, k.pool h⟩
theorem PStep.upd {p : Addr} {M : Mem} (x y z : Int) : PStep p M (updM M p (.lst [.int x, .int y, .int z])) := ⟨fun b o n h => by rw [updM_ne n]; exact h, ⟨x, y, z, updM_same⟩⟩
theorem PoolAt.ne {M : Mem} {p l : Addr} (h : PoolAt M p) (hl : M l = none) : l ≠ p := by
  intro e; subst e; obtain ⟨x, y, z, q⟩ := h.ex; rw [hl] at q; cases q
noncomputable def spPool : DSp := fun ds M R _ => ∃ c : Int, ds = [.int c] ∧ ∀ p M', M p = none → MK M M' → PoolAt M' p → R (.ref p) M'
noncomputable def spNext : DSp := fun ds M R _ => ∃ (p : Addr) (b : Int), ds = [.ref p, .int b] ∧ PoolAt M p ∧ 0 < b ∧ b.natAbs.log2 < 9000 ∧ ∀ (r : Int) M', 0 ≤ r → r < b → PStep p M M' → R (.int r) M'
theorem cp18 : CPow 10 18 := ⟨by decide, by decide, by decide⟩
theorem m64l {a b : Int} (h1 : -(2 ^ 64) < a) (h2 : a < 2 ^ 64) : IntMulOk a b := .of_left (intBits_le_64 h1 h2)
theorem mmod {x m k b : Int} (hm : 0 < m) (hm2 : m < 2 ^ 60) (hk : 0 ≤ k) (hk2 : k < 2 ^ 60) : IntMulOk (x % m + k) b := by
  have h1 := Int.emod_nonneg x (show m ≠ 0 by omega)
  have h2 := Int.emod_lt_of_pos x hm
  exact m64l (by omega) (by omega)
theorem mmod0 {x m b : Int} (hm : 0 < m) (hm2 : m < 2 ^ 60) : IntMulOk (x % m) b := by
  have h1 := Int.emod_nonneg x (show m ≠ 0 by omega)
  have h2 := Int.emod_lt_of_pos x hm
  exact m64l (by omega) (by omega)
theorem cfd8 {i : Int} : CFd i 8 := ⟨by decide, by decide⟩
theorem low_sz {a b : Int} {n : Nat} (hn : 0 < n) (h1 : a.natAbs < 2 ^ n) (h2 : b.natAbs < 2 ^ n) (hb : b ≠ 0) : RM.sz (Rat.divInt a b) ≤ n :=
  Nat.le_trans (RM.sz_divInt a b hb) (Nat.max_le.mpr ⟨RM.bl_le h1 hn, RM.bl_le h2 hn⟩)
end GM
namespace GM
open PySem PySem.Spec L2 DL
open PyProof.Rows hiding St
end GM
namespace GM
open PySem PySem.Spec L2 DL
open PyProof.Rows hiding St
end GM
namespace GM
open PySem PySem.Spec L2 DL
end GM
namespace GM
open PySem PySem.Spec L2 DL
end GM
namespace GM
open PySem PySem.Spec L2 DL
noncomputable def spLaw : DSp := fun ds _ R _ => ∃ ns : List Int, ds = [.vl (ns.map D.int)] ∧ ns.length ≤ 63 ∧ ∀ M', R (.bl true) M'
end GM

namespace GM
open PySem PySem.Spec L2 DL
open RM (sz)
noncomputable def absQ (q : Rat) : Rat := if 0 ≤ q then q else -q
theorem absQ_D (q : Rat) : ratD (absQ q) = .tup [.int (q.num.natAbs : Int), .int (q.den : Int)] := by
  unfold absQ ratD
  have hz : 0 ≤ q ↔ 0 ≤ q.num := Rat.num_nonneg.symm
  split
  · rename_i h
    have := hz.mp h
    rw [show q.num = (q.num.natAbs : Int) by omega]; simp
  · rename_i h
    have h' : ¬ 0 ≤ q.num := fun z => h (hz.mpr z)
    rw [Rat.neg_num, Rat.neg_den, show -q.num = (q.num.natAbs : Int) by omega]
end GM

namespace GM
open RM (sz)
theorem nat_mul_lt {a b m n : Nat} (h1 : a < 2 ^ m) (h2 : b < 2 ^ n) : a * b < 2 ^ (m + n) := by
  rw [Nat.pow_add]; exact Nat.mul_lt_mul'' h1 h2
theorem int_mul_lt {a b : Int} {m n : Nat} (h1 : a.natAbs < 2 ^ m) (h2 : b.natAbs < 2 ^ n) : (a * b).natAbs < 2 ^ (m + n) := by
  rw [Int.natAbs_mul]; exact nat_mul_lt h1 h2
theorem int_add_lt {a b : Int} {m : Nat} (h1 : a.natAbs < 2 ^ m) (h2 : b.natAbs < 2 ^ m) : (a + b).natAbs < 2 ^ (m + 1) := by
  have := Int.natAbs_add_le a b
  rw [Nat.pow_succ]; omega
end GM

namespace GM
open PySem PySem.Spec L2 DL
open RM (sz)
noncomputable abbrev tabD (a b c d : Rat) : D := .tup [ratD a, ratD b, ratD c, ratD d]
end GM

namespace GM
open PySem PySem.Spec L2 DL
open RM (sz)
theorem sz_abs (q : Rat) : sz (absQ q) = sz q := by
  unfold absQ; split
  · rfl
  · exact RM.sz_neg q
noncomputable def partD (x : Str × Rat) : D := .tup [.str x.1, ratD x.2]
theorem ints_item2 {ns ms : List Int} {i : Nat} {d : D} (h : (ns.map D.int ++ ms.map D.int)[i]? = some d) : ∃ n : Int, d = .int n := by
  have hm := List.mem_of_getElem? h
  rcases List.mem_append.mp hm with z | z
  · obtain ⟨n, _, e⟩ := List.mem_map.mp z; exact ⟨n, e.symm⟩
  · obtain ⟨n, _, e⟩ := List.mem_map.mp z; exact ⟨n, e.symm⟩
end GM

namespace GM
open PySem PySem.Spec L2 DL
open RM (sz)
end GM

namespace GM
open PySem PySem.Spec L2 DL
open RM (sz)
end GM

namespace GM
open PySem PySem.Spec L2 DL
open RM (sz)
end GM

namespace GM
open PySem PySem.Spec L2 DL
open RM (sz)
theorem partD_inj {x y : Str × Rat} (h : partD x = partD y) : x = y := by
  unfold partD at h
  injection h with h
  injection h with h1 h2
  injection h1 with h1
  injection h2 with h2 _
  exact Prod.ext h1 (ratD_inj h2)
theorem partD_iff {x y : Str × Rat} : partD x = partD y ↔ x = y := ⟨partD_inj, fun h => by rw [h]⟩
theorem partsD_iff {xs ys : List (Str × Rat)} : xs.map partD = ys.map partD ↔ xs = ys := List.map_inj_right (fun _ _ h => partD_inj h)
noncomputable def lineD (l : Rat × Rat × Rat) : D := .tup [ratD l.1, ratD l.2.1, ratD l.2.2]
theorem lineD_inj {x y : Rat × Rat × Rat} (h : lineD x = lineD y) : x = y := by
  unfold lineD at h
  injection h with h
  injection h with h1 h2
  injection h2 with h2 h3
  injection h3 with h3 _
  exact Prod.ext (ratD_inj h1) (Prod.ext (ratD_inj h2) (ratD_inj h3))
theorem lineD_iff {x y : Rat × Rat × Rat} : lineD x = lineD y ↔ x = y := ⟨lineD_inj, fun h => by rw [h]⟩
theorem linesD_iff {xs ys : List (Rat × Rat × Rat)} : xs.map lineD = ys.map lineD ↔ xs = ys := List.map_inj_right (fun _ _ h => lineD_inj h)
theorem r_line {p q r : Rat} : D.tup [ratD p, ratD q, ratD r] = lineD (p, q, r) := rfl
theorem z_lineG {gs : DTGs} {l : Rat × Rat × Rat} {e : Ev} {M : Mem} {Q : Ev → Mem → Prop} : dgTup 3 gs (lineD l) e M Q = gs [ratD l.1, ratD l.2.1, ratD l.2.2] e M Q := z_gTup rfl
theorem z_line0 {l : Rat × Rat × Rat} {M : Mem} {R : DK} : gIx (lineD l) (.int 0) M R = R (ratD l.1) M := z_ixT0
theorem z_line1 {l : Rat × Rat × Rat} {M : Mem} {R : DK} : gIx (lineD l) (.int 1) M R = R (ratD l.2.1) M := z_ixT1
theorem z_line2 {l : Rat × Rat × Rat} {M : Mem} {R : DK} : gIx (lineD l) (.int 2) M R = R (ratD l.2.2) M := z_ixT2
theorem z_rat0 {q : Rat} {M : Mem} {R : DK} : gIx (ratD q) (.int 0) M R = R (.int q.num) M := z_ixT0
theorem z_rat1 {q : Rat} {M : Mem} {R : DK} : gIx (ratD q) (.int 1) M R = R (.int (q.den : Int)) M := z_ixT1
theorem z_ratG {gs : DTGs} {q : Rat} {e : Ev} {M : Mem} {Q : Ev → Mem → Prop} : dgTup 2 gs (ratD q) e M Q = gs [.int q.num, .int (q.den : Int)] e M Q := z_gTup rfl
theorem z_ratL {q : Rat} {M : Mem} {R : DK} : gLen [ratD q] M R = R (.int 2) M := z_Len rfl
theorem z_part0 {x : Str × Rat} {M : Mem} {R : DK} : gIx (partD x) (.int 0) M R = R (.str x.1) M := z_ixT0
theorem z_part1 {x : Str × Rat} {M : Mem} {R : DK} : gIx (partD x) (.int 1) M R = R (ratD x.2) M := z_ixT1
theorem z_partG {gs : DTGs} {x : Str × Rat} {e : Ev} {M : Mem} {Q : Ev → Mem → Prop} : dgTup 2 gs (partD x) e M Q = gs [.str x.1, ratD x.2] e M Q := z_gTup rfl
theorem z_partL {x : Str × Rat} {M : Mem} {R : DK} : gLen [partD x] M R = R (.int 2) M := z_Len rfl
theorem z_clR60 {q : Rat} : cl 60 (ratD q) = true := rfl
theorem z_clR59 {q : Rat} : cl 59 (ratD q) = true := rfl
theorem z_clR58 {q : Rat} : cl 58 (ratD q) = true := rfl
theorem z_clR57 {q : Rat} : cl 57 (ratD q) = true := rfl
theorem r0 : D.tup [.int 0, .int 1] = ratD 0 := rfl
theorem r1 : D.tup [.int 1, .int 1] = ratD 1 := rfl
theorem r2 : D.tup [.int 2, .int 1] = ratD 2 := rfl
theorem r4 : D.tup [.int 4, .int 1] = ratD 4 := rfl
theorem r_abs {q : Rat} : D.tup [.int (q.num.natAbs : Int), .int (q.den : Int)] = ratD (absQ q) := (absQ_D q).symm
theorem r_neg {q : Rat} : D.tup [.int (-q.num), .int (q.den : Int)] = ratD (-q) := by unfold ratD; rw [Rat.neg_num, Rat.neg_den]
theorem r_self {q : Rat} : D.tup [.int q.num, .int (q.den : Int)] = ratD q := rfl
theorem rm2 : D.tup [.int (-2), .int 1] = ratD (-2) := rfl
theorem rm1 : D.tup [.int (-1), .int 1] = ratD (-1) := rfl
local macro_rules | `(tactic| walk_at "inj") => `(tactic| (rename_i e h; simp only [List.cons.injEq, and_true, true_and, GM.ratD_iff, GM.partD_iff, GM.partsD_iff, GM.lineD_iff, GM.linesD_iff, D.tup.injEq, D.ref.injEq, D.int.injEq, D.str.injEq, D.bl.injEq, D.vl.injEq, Int.natCast_inj, and_assoc] at e; (repeat (obtain ⟨e1, e⟩ := e; subst e1)); subst e; exact h))
local macro_rules | `(tactic| walk_at "injs") => `(tactic| (rename_i e o h; rcases o with o | o <;> (subst o; first | (exfalso; simp only [D.tup.injEq, List.cons.injEq, reduceCtorEq, false_and, and_false] at e; done) | (simp only [List.cons.injEq, and_true, true_and, GM.ratD_iff, GM.partD_iff, GM.partsD_iff, GM.lineD_iff, GM.linesD_iff, D.tup.injEq, D.ref.injEq, D.int.injEq, D.str.injEq, D.bl.injEq, D.vl.injEq, Int.natCast_inj, and_assoc] at e; (repeat (obtain ⟨e1, e⟩ := e; subst e1)); subst e; exact h))))
theorem z_spPool {c : Int} {M : Mem} {R : DK} {Y : DXK} : spPool [.int c] M R Y = (∀ p M', M p = none → MK M M' → PoolAt M' p → R (.ref p) M') := propext ⟨fun z => by obtain ⟨_, _, _⟩ := z; walk_at "inj", fun h => ⟨c, rfl, h⟩⟩
theorem z_spNext {p : Addr} {b : Int} {M : Mem} {R : DK} {Y : DXK} : spNext [.ref p, .int b] M R Y = (PoolAt M p ∧ 0 < b ∧ b.natAbs.log2 < 9000 ∧ ∀ (r : Int) M', 0 ≤ r → r < b → PStep p M M' → R (.int r) M') := propext ⟨fun z => by obtain ⟨_, _, _, _⟩ := z; walk_at "inj", fun h => ⟨p, b, rfl, h⟩⟩
theorem szS {ns : List Int} (h : ns.length ≤ 63) (k : Nat) (hk : k ≤ 100 := by decide) : (ns.map D.int).length + k ≤ sizeLine := by
  rw [List.length_map]; exact Nat.le_trans (Nat.add_le_add h hk) (sl 163)
theorem szS' {ns : List Int} (h : ns.length ≤ 63) (k : Nat) (hk : k ≤ 100 := by decide) : k + (ns.map D.int).length ≤ sizeLine := by
  rw [Nat.add_comm]; exact szS h k hk
theorem PStep.put {p l : Addr} {M M' : Mem} {o : MO} (h : PStep p M M') (hl : M l = none) (hp : l ≠ p) : PStep p M (updM M' l o) := ⟨fun b u hb e => by
    rw [updM_ne (by intro z; subst z; rw [hl] at e; cases e)]; exact h.keep b u hb e, by
    obtain ⟨x, y, z, e⟩ := h.pool.ex
    exact ⟨x, y, z, by rw [updM_ne (Ne.symm hp)]; exact e⟩⟩
theorem PStep.del {p l : Addr} {M M' : Mem} (h : PStep p M M') (hl : M l = none) (hp : l ≠ p) : PStep p M (delM M' l) := ⟨fun b u hb e => by
    rw [delM_ne (by intro z; subst z; rw [hl] at e; cases e)]; exact h.keep b u hb e, by
    obtain ⟨x, y, z, e⟩ := h.pool.ex
    exact ⟨x, y, z, by rw [delM_ne (Ne.symm hp)]; exact e⟩⟩
theorem gIx_mem {xs : List D} {r : Int} {M : Mem} {R : DK} (h0 : 0 ≤ r) (h1 : r < xs.length) (h : ∀ d ∈ xs, R d M) : gIx (.vl xs) (.int r) M R := by
  obtain ⟨z, e, hz⟩ := atI_mem h0 h1
  exact ⟨z, e, h z hz⟩
end GM

set_option maxHeartbeats 1000000
namespace L2
open PySem PySem.Spec PyProof.Rows
section
variable {X : Cx} {pins : List (Addr × Obj)} {σ : St} {H : Hp} {s : Shared} {h' : Heap}
theorem Inv.keptL {t' : Nat} (I : Inv X pins σ H s) (k : ∀ b o, b ≠ X.env.locals → s.heap.get? b = some o → h'.get? b = some o) (ns : ∀ m, s.heap.Ns X.env.locals m → h'.Ns X.env.locals m) : Inv X pins σ H { s with heap := h', toks := t' } := by
  have ne : ∀ {b : Addr} {o : Obj}, X.s₀.heap.get? b = some o → b ≠ X.env.locals := fun {b o} e z => by
    have h1 := Heap.lt_size e
    rw [z] at h1
    exact absurd h1 (Nat.not_lt.mpr I.ok.above)
  have nL : ∀ {b : Addr} {u : HO}, H b = some u → b ≠ X.env.locals := fun {b u} e z => by rw [z, I.free] at e; cases e
  obtain ⟨m, hn, hl⟩ := I.loc
  have cel : ∀ {c : Addr} {v : Option Value}, s.heap.IsCell c v → h'.IsCell c v := fun {c v} d => by
    obtain ⟨o, e1, e2⟩ := d
    refine ⟨o, k c o (fun z => ?_) e1, e2⟩
    obtain ⟨o2, es, ep, e3, e4, _⟩ := hn
    rw [← z, e1] at e3
    cases e3
    rw [e2] at e4; cases e4
  refine ⟨I.ok, I.os, I.bare, ⟨fun b o q n hb hx => k b o (ne q) (I.base.keep b o q n hb hx), fun b o q n hb hx => ?_, I.base.free, fun b o q hx => ?_, I.base.tups, I.base.frzs, I.base.tbls⟩, ⟨m, ns m hn, fun i x v e1 e2 e3 => ?_⟩, fun x c e => ?_, I.free, I.freeC, fun p hp => ?_, fun b u e => ?_, I.len⟩
  · obtain ⟨sl, z⟩ := I.base.slot b o q n hb hx
    exact ⟨sl, k b _ (ne q) z⟩
  · obtain ⟨o', z⟩ := I.base.there b o q hx
    exact ⟨o', k b _ (ne q) z⟩
  · obtain ⟨u, r, lk⟩ := hl i x v e1 e2 e3
    exact ⟨u, r, lk.imp id fun ⟨a, c, b, d⟩ => ⟨a, c, b, cel d⟩⟩
  · obtain ⟨v, d⟩ := I.cell x c e
    exact ⟨v, cel d⟩
  · obtain ⟨a, b, c, d⟩ := I.pin p hp
    exact ⟨k _ _ c a, b, c, d⟩
  · refine (I.hok b u e).stay (fun c v hc q => k c v ?_ q) (fun _ q => q) fun _ _ q => q
    rcases hc with rfl | hc
    · exact nL e
    · exact nL hc
theorem objThere {P : Program} {w : World} {h : Heap} {a : Addr} {o : HO} (x : ObjOk P w H h a o) : ∃ u, h.get? a = some u := DL.obj_there x
theorem Inv.laidL {t' : Nat} {a : Addr} {o : HO} (I : Inv X pins σ H s) (k : ∀ b o, b ≠ X.env.locals → s.heap.get? b = some o → h'.get? b = some o) (ns : ∀ m, s.heap.Ns X.env.locals m → h'.Ns X.env.locals m) (hn : s.heap.get? a = none) (hL : a ≠ X.env.locals) (nt : ∀ xs, o ≠ .tup xs) (new : ObjOk X.prog X.w (upd H a o) h' a o) : Inv X pins σ (upd H a o) { s with heap := h', toks := t' } := by
  have J := I.keptL (t' := t') k ns
  have nH : H a = none := by
    cases e : H a with
    | none => rfl
    | some u => obtain ⟨x, hx⟩ := objThere (I.hok a u e); rw [hn] at hx; cases hx
  have ne : ∀ {b : Addr} {u : HO}, H b = some u → b ≠ a := fun {b u} e z => by rw [z, nH] at e; cases e
  refine ⟨J.ok, J.os, J.bare, ⟨J.base.keep, J.base.slot, fun b o' q n hx => ?_, J.base.there, fun b xs q => ?_, fun b o' u q => ?_, fun b ps q => ?_⟩, J.loc, J.cell, ?_, fun x c e => ?_, fun p hp => ?_, fun b u e => ?_, J.len⟩
  · have hb : b ≠ a := fun z => by
      obtain ⟨o2, e2⟩ := I.base.there b o' q hx
      rw [z, hn] at e2; cases e2
    rw [upd_ne hb]; exact J.base.free b o' q n hx
  · have := J.base.tups b xs q
    rw [upd_ne (ne this)]; exact this
  · have := J.base.frzs b o' u q
    rw [upd_ne (ne this)]; exact this
  · obtain ⟨more, this⟩ := J.base.tbls b ps q
    exact ⟨more, by rw [upd_ne (ne this)]; exact this⟩
  · rw [upd_ne (Ne.symm hL)]; exact J.free
  · have hb : c ≠ a := fun z => by
      obtain ⟨v, o2, e2, _⟩ := I.cell x c e
      rw [z, hn] at e2; cases e2
    rw [upd_ne hb]; exact J.freeC x c e
  · obtain ⟨p1, p2, p3⟩ := J.pin p hp
    have hb : p.1 ≠ a := fun z => by
      have := (I.pin p hp).1
      rw [z, hn] at this; cases this
    exact ⟨p1, by rw [upd_ne hb]; exact p2, p3⟩
  · by_cases hb : b = a
    · subst hb
      rw [upd_same] at e
      cases e
      exact new
    · rw [upd_ne hb] at e
      refine (J.hok b u e).stay (fun _ _ _ q => q) (fun c q => ?_) fun c xs q => ?_
      · rw [upd_ne (ne q)]; exact q
      · rw [upd_ne (ne q)]; exact q
end
section
variable {prog : Program} {w : World} {A : Around} {E : Value → Shared → Prop} {s : Shared}
end
end L2
namespace DL
open PySem PySem.Spec L2
open PyProof.Rows hiding St
theorem bt_sorted : bootBuiltins "sorted" = some (.builtin "sorted") := by decide +kernel
end DL

namespace L2
open PySem PySem.Spec PyProof.Rows
section
variable {prog : Program} {w : World} {A : Around} {E : Value → Shared → Prop} {s : Shared} {κ : SortKind} {P : Keyed → Prop}
noncomputable def Cmps (prog : Program) (w : World) (A : Around) (s : Shared) (κ : SortKind) (P : Keyed → Prop) : Prop :=
  ∀ x y, P x → P y → ∃ b : Bool, ∀ (C : Bool → Shared → Prop) (E : Value → Shared → Prop), C b s → wpAny (model prog w) A (keyLt' κ x.1 y.1) C E s
noncomputable abbrev SSt (κ : SortKind) (a : Array Keyed) (p : Array (Nat × Nat × Nat)) (g : Nat) : SortSt := SortSt.mk' κ a p g none
noncomputable def Al (P : Keyed → Prop) (a : Array Keyed) : Prop := ∀ x ∈ a, P x
variable {a : Array Keyed} {p : Array (Nat × Nat × Nat)} {g : Nat}
theorem sm_lt (hc : Cmps prog w A s κ P) {x y : Keyed} (hx : P x) (hy : P y) {Q : Option Bool → SortSt → Prop} (h : ∀ b, Q (some b) (SSt κ a p g)) : wpS (model prog w) A E s (lt' x y) Q (SSt κ a p g) := by
  rw [lt'_eq]
  refine wpS_bind (wpS_get ?_)
  obtain ⟨b, hb⟩ := hc x y hx hy
  refine wpS_bind (wpS_lift (wpAny_attempt (hb _ _ ⟨rfl, ?_⟩)))
  exact wpS_pure (h b)
theorem sm_elem {arr : Array Keyed} {i : Nat} (hi : i < arr.size) {st : SortSt} {Q : Keyed → SortSt → Prop} (h : ∀ x, x ∈ arr → Q x st) : wpS (model prog w) A E s (elem' arr i) Q st := by
  rw [elem'_eq, Array.getElem?_eq_getElem hi]
  exact wpS_pure (h _ (Array.getElem_mem hi))
theorem sm_ltAt (hc : Cmps prog w A s κ P) (ha : Al P a) {i j : Nat} (hi : i < a.size) (hj : j < a.size) {Q : Option Bool → SortSt → Prop} (h : ∀ b, Q (some b) (SSt κ a p g)) : wpS (model prog w) A E s (ltAt' i j) Q (SSt κ a p g) := by
  rw [ltAt'_eq]
  refine wpS_bind (wpS_get ?_)
  exact wpS_bind (sm_elem hi fun x hx => wpS_bind (sm_elem hj fun y hy => sm_lt hc (ha x hx) (ha y hy) h))
theorem Al.perm {a b : Array Keyed} (ha : Al P a) (h : b.Perm a) : Al P b := fun x hx => ha x ((Array.Perm.mem_iff h).mp hx)
theorem sm_rev (ha : Al P a) {i j : Nat} {Q : Unit → SortSt → Prop} (h : ∀ a', a'.size = a.size → Al P a' → Q () (SSt κ a' p g)) : wpS (model prog w) A E s (reverseSlice' i j) Q (SSt κ a p g) := by
  rw [reverseSlice'_eq]
  exact wpS_modify (h _ (mirror_size _ _ _ _) (ha.perm (mirror_perm _ _ _ _)))
theorem sm_move (ha : Al P a) {i j : Nat} {Q : Unit → SortSt → Prop} (h : ∀ a', a'.size = a.size → Al P a' → Q () (SSt κ a' p g)) : wpS (model prog w) A E s (moveDown' i j) Q (SSt κ a p g) := by
  rw [moveDown'_eq]
  exact wpS_modify (h _ (bubble_size _ _ _) (ha.perm (bubble_perm _ _ _)))
theorem sm_count (hc : Cmps prog w A s κ P) (ha : Al P a) {lo nrem : Nat} (h1 : 1 ≤ nrem) (hn : lo + nrem ≤ a.size) {Q : Option Nat → SortSt → Prop}
    (h : ∀ n a', 1 ≤ n → n ≤ nrem → a'.size = a.size → Al P a' → Q (some n) (SSt κ a' p g)) : wpS (model prog w) A E s (countRun' lo nrem) Q (SSt κ a p g) := by
  rw [countRun'_eq]
  refine wpS_bind (wpS_mono (wpS_forRange (I := fun x c st => c = (none, x) ∧ st = SSt κ a p g) (Q := fun c st => ∃ n, c = (none, n) ∧ 1 ≤ n ∧ n ≤ nrem ∧ st = SSt κ a p g) ?_ ?_ ⟨rfl, rfl⟩) ?_)
  · rintro x c st h1 h2 ⟨rfl, rfl⟩
    dsimp only
    refine wpS_bind (sm_ltAt hc ha (by omega) (by omega) fun b => ?_)
    cases b with
    | true => exact wpS_pure ⟨x, rfl, h1, by omega, rfl⟩
    | false => exact wpS_pure ⟨rfl, rfl⟩
  · rintro c st ⟨rfl, rfl⟩
    exact ⟨_, rfl, by omega, by omega, rfl⟩
  rintro c st ⟨n, rfl, n1, n2, rfl⟩
  dsimp only
  by_cases e : n = nrem
  · rw [if_pos (by simpa using e)]
    exact wpS_pure (h n a n1 n2 rfl ha)
  rw [if_neg (by simpa using e)]
  by_cases e2 : n > 1
  · rw [if_pos e2]
    refine wpS_bind (sm_ltAt hc ha (by omega) (by omega) fun b => ?_)
    cases b with
    | true => exact wpS_pure (h n a n1 n2 rfl ha)
    | false =>
      dsimp only
      rw [if_neg (by decide)]
      refine wpS_bind (sm_rev ha fun a' z ha' => ?_)
      refine wpS_bind (wpS_lift (wpAny_rule ⟨rfl, ?_⟩))
      refine wpS_bind (wpS_mono (wpS_forRange (I := fun x c st => ∃ q a2, c = (none, x, q) ∧ a2.size = a.size ∧ Al P a2 ∧ st = SSt κ a2 p g) (Q := fun c st => ∃ x q a2, c = (none, x, q) ∧ 1 ≤ x ∧ x ≤ nrem ∧ a2.size = a.size ∧ Al P a2 ∧ st = SSt κ a2 p g) ?_ ?_ ⟨_, _, rfl, z, ha', rfl⟩) ?_)
      · rintro x c st h1 h2 ⟨q, a2, rfl, z2, ha2, rfl⟩
        dsimp only
        refine wpS_bind (sm_ltAt hc ha2 (by omega) (by omega) fun b => ?_)
        cases b with
        | true =>
          dsimp only
          rw [if_pos rfl]
          by_cases e3 : q > 0
          · rw [if_pos e3]
            exact wpS_bind (sm_rev ha2 fun a3 z3 ha3 => wpS_pure ⟨_, a3, rfl, z3.trans z2, ha3, rfl⟩)
          · rw [if_neg e3]
            exact wpS_pure ⟨_, a2, rfl, z2, ha2, rfl⟩
        | false =>
          dsimp only
          rw [if_neg (by decide)]
          refine wpS_bind (sm_ltAt hc ha2 (by omega) (by omega) fun b => ?_)
          cases b with
          | true => exact wpS_pure ⟨x, q, a2, rfl, by omega, by omega, z2, ha2, rfl⟩
          | false => exact wpS_pure ⟨_, a2, rfl, z2, ha2, rfl⟩
      · rintro c st ⟨q, a2, rfl, z2, ha2, rfl⟩
        exact ⟨_, q, a2, rfl, by omega, by omega, z2, ha2, rfl⟩
      rintro c st ⟨x, q, a2, rfl, x1, x2, z2, ha2, rfl⟩
      dsimp only
      by_cases e3 : q > 0
      · rw [if_pos e3]
        refine wpS_bind (sm_rev ha2 fun a4 z4 ha4 => ?_)
        have z2 : a4.size = a.size := z4.trans z2
        have ha2 := ha4
        refine wpS_bind (sm_rev ha2 fun a3 z3 ha3 => ?_)
        refine wpS_bind (wpS_mono (wpS_forRange (I := fun x c st => c = (none, x) ∧ st = SSt κ a3 p g) (Q := fun c st => ∃ n, c = (none, n) ∧ 1 ≤ n ∧ n ≤ nrem ∧ st = SSt κ a3 p g) ?_ ?_ ⟨rfl, rfl⟩) ?_)
        · rintro x c st h1 h2 ⟨rfl, rfl⟩
          dsimp only
          refine wpS_bind (sm_ltAt hc ha3 (by omega) (by omega) fun b => ?_)
          cases b with
          | true => exact wpS_pure ⟨x, rfl, by omega, by omega, rfl⟩
          | false => exact wpS_pure ⟨rfl, rfl⟩
        · rintro c st ⟨rfl, rfl⟩
          exact ⟨_, rfl, by omega, by omega, rfl⟩
        rintro c st ⟨n', rfl, k1, k2, rfl⟩
        exact wpS_pure (h _ a3 k1 k2 (by omega) ha3)
      · rw [if_neg e3]
        refine wpS_bind (sm_rev ha2 fun a3 z3 ha3 => ?_)
        refine wpS_bind (wpS_mono (wpS_forRange (I := fun x c st => c = (none, x) ∧ st = SSt κ a3 p g) (Q := fun c st => ∃ n, c = (none, n) ∧ 1 ≤ n ∧ n ≤ nrem ∧ st = SSt κ a3 p g) ?_ ?_ ⟨rfl, rfl⟩) ?_)
        · rintro x c st h1 h2 ⟨rfl, rfl⟩
          dsimp only
          refine wpS_bind (sm_ltAt hc ha3 (by omega) (by omega) fun b => ?_)
          cases b with
          | true => exact wpS_pure ⟨x, rfl, by omega, by omega, rfl⟩
          | false => exact wpS_pure ⟨rfl, rfl⟩
        · rintro c st ⟨rfl, rfl⟩
          exact ⟨_, rfl, by omega, by omega, rfl⟩
        rintro c st ⟨n', rfl, k1, k2, rfl⟩
        exact wpS_pure (h _ a3 k1 k2 (by omega) ha3)
  · rw [if_neg e2]
    have z : a.size = a.size := rfl
    have ha' := ha
    refine wpS_bind (wpS_lift (wpAny_rule ⟨rfl, ?_⟩))
    refine wpS_bind (wpS_mono (wpS_forRange (I := fun x c st => ∃ q a2, c = (none, x, q) ∧ a2.size = a.size ∧ Al P a2 ∧ st = SSt κ a2 p g) (Q := fun c st => ∃ x q a2, c = (none, x, q) ∧ 1 ≤ x ∧ x ≤ nrem ∧ a2.size = a.size ∧ Al P a2 ∧ st = SSt κ a2 p g) ?_ ?_ ⟨_, _, rfl, z, ha', rfl⟩) ?_)
    · rintro x c st h1 h2 ⟨q, a2, rfl, z2, ha2, rfl⟩
      dsimp only
      refine wpS_bind (sm_ltAt hc ha2 (by omega) (by omega) fun b => ?_)
      cases b with
      | true =>
        dsimp only
        rw [if_pos rfl]
        by_cases e3 : q > 0
        · rw [if_pos e3]
          exact wpS_bind (sm_rev ha2 fun a3 z3 ha3 => wpS_pure ⟨_, a3, rfl, z3.trans z2, ha3, rfl⟩)
        · rw [if_neg e3]
          exact wpS_pure ⟨_, a2, rfl, z2, ha2, rfl⟩
      | false =>
        dsimp only
        rw [if_neg (by decide)]
        refine wpS_bind (sm_ltAt hc ha2 (by omega) (by omega) fun b => ?_)
        cases b with
        | true => exact wpS_pure ⟨x, q, a2, rfl, by omega, by omega, z2, ha2, rfl⟩
        | false => exact wpS_pure ⟨_, a2, rfl, z2, ha2, rfl⟩
    · rintro c st ⟨q, a2, rfl, z2, ha2, rfl⟩
      exact ⟨_, q, a2, rfl, by omega, by omega, z2, ha2, rfl⟩
    rintro c st ⟨x, q, a2, rfl, x1, x2, z2, ha2, rfl⟩
    dsimp only
    by_cases e3 : q > 0
    · rw [if_pos e3]
      refine wpS_bind (sm_rev ha2 fun a4 z4 ha4 => ?_)
      have z2 : a4.size = a.size := z4.trans z2
      have ha2 := ha4
      refine wpS_bind (sm_rev ha2 fun a3 z3 ha3 => ?_)
      refine wpS_bind (wpS_mono (wpS_forRange (I := fun x c st => c = (none, x) ∧ st = SSt κ a3 p g) (Q := fun c st => ∃ n, c = (none, n) ∧ 1 ≤ n ∧ n ≤ nrem ∧ st = SSt κ a3 p g) ?_ ?_ ⟨rfl, rfl⟩) ?_)
      · rintro x c st h1 h2 ⟨rfl, rfl⟩
        dsimp only
        refine wpS_bind (sm_ltAt hc ha3 (by omega) (by omega) fun b => ?_)
        cases b with
        | true => exact wpS_pure ⟨x, rfl, by omega, by omega, rfl⟩
        | false => exact wpS_pure ⟨rfl, rfl⟩
      · rintro c st ⟨rfl, rfl⟩
        exact ⟨_, rfl, by omega, by omega, rfl⟩
      rintro c st ⟨n', rfl, k1, k2, rfl⟩
      exact wpS_pure (h _ a3 k1 k2 (by omega) ha3)
    · rw [if_neg e3]
      refine wpS_bind (sm_rev ha2 fun a3 z3 ha3 => ?_)
      refine wpS_bind (wpS_mono (wpS_forRange (I := fun x c st => c = (none, x) ∧ st = SSt κ a3 p g) (Q := fun c st => ∃ n, c = (none, n) ∧ 1 ≤ n ∧ n ≤ nrem ∧ st = SSt κ a3 p g) ?_ ?_ ⟨rfl, rfl⟩) ?_)
      · rintro x c st h1 h2 ⟨rfl, rfl⟩
        dsimp only
        refine wpS_bind (sm_ltAt hc ha3 (by omega) (by omega) fun b => ?_)
        cases b with
        | true => exact wpS_pure ⟨x, rfl, by omega, by omega, rfl⟩
        | false => exact wpS_pure ⟨rfl, rfl⟩
      · rintro c st ⟨rfl, rfl⟩
        exact ⟨_, rfl, by omega, by omega, rfl⟩
      rintro c st ⟨n', rfl, k1, k2, rfl⟩
      exact wpS_pure (h _ a3 k1 k2 (by omega) ha3)
theorem sm_bin (hc : Cmps prog w A s κ P) (ha : Al P a) {lo n ok : Nat} (hn : lo + n ≤ a.size) {Q : Bool → SortSt → Prop}
    (h : ∀ a', a'.size = a.size → Al P a' → Q true (SSt κ a' p g)) : wpS (model prog w) A E s (binarySort' lo n ok) Q (SSt κ a p g) := by
  rw [binarySort'_eq]
  refine wpS_bind (wpS_mono (wpS_forRange (I := fun x c st => c = (none, ()) ∧ ∃ a', a'.size = a.size ∧ Al P a' ∧ st = SSt κ a' p g) (Q := fun c st => c = (none, ()) ∧ ∃ a', a'.size = a.size ∧ Al P a' ∧ st = SSt κ a' p g) ?_ (fun _ _ z => z) ⟨rfl, a, rfl, ha, rfl⟩) ?_)
  · rintro k c st h1 h2 ⟨rfl, a', z, ha', rfl⟩
    dsimp only
    refine wpS_bind (wpS_mono (wpS_forRange (I := fun x c st => ∃ l r, c = (none, l, r) ∧ r ≤ k ∧ st = SSt κ a' p g) (Q := fun c st => ∃ l r, c = (none, l, r) ∧ st = SSt κ a' p g) ?_ ?_ ⟨_, _, rfl, Nat.le_refl _, rfl⟩) ?_)
    · rintro x c st _ _ ⟨l, r, rfl, hr, rfl⟩
      dsimp only
      by_cases e : l ≥ r
      · rw [if_pos e]
        exact wpS_pure ⟨l, r, rfl, rfl⟩
      rw [if_neg e]
      refine wpS_bind (sm_ltAt hc ha' (by omega) (by omega) fun b => ?_)
      cases b with
      | true => exact wpS_pure ⟨_, _, rfl, by omega, rfl⟩
      | false => exact wpS_pure ⟨_, _, rfl, hr, rfl⟩
    · rintro c st ⟨l, r, rfl, _, rfl⟩
      exact ⟨l, r, rfl, rfl⟩
    · rintro c st ⟨l, r, rfl, rfl⟩
      dsimp only
      exact wpS_bind (sm_move ha' fun a2 z2 h2 => wpS_pure ⟨rfl, a2, z2.trans z, h2, rfl⟩)
  · rintro c st ⟨rfl, a', z, ha', rfl⟩
    exact wpS_pure (h a' z ha')
end
end L2

namespace L2
open PySem PySem.Spec PyProof.Rows
section
variable {prog : Program} {w : World} {A : Around} {E : Value → Shared → Prop} {s : Shared} {κ : SortKind} {P : Keyed → Prop}
variable {a : Array Keyed} {p : Array (Nat × Nat × Nat)} {g : Nat}
noncomputable def gallop' : Bool → Keyed → Array Keyed → Nat → Nat → Nat → StateT SortSt Sem (Option Nat) := sortPriv% PySem.Builtin.gallop
noncomputable def setMinG' : Nat → StateT SortSt Sem Unit := sortPriv% PySem.Builtin.setMinGallop
noncomputable def mergeLo' : Array Keyed → Array Keyed → StateT SortSt Sem (Array Keyed) := sortPriv% PySem.Builtin.mergeLo
noncomputable def mergeHi' : Array Keyed → Array Keyed → StateT SortSt Sem (Array Keyed) := sortPriv% PySem.Builtin.mergeHi
theorem w_ite {α : Type} {c : Prop} [Decidable c] {T U : StateT SortSt Sem α} {Q : α → SortSt → Prop} {st : SortSt} (h1 : c → wpS (model prog w) A E s T Q st) (h2 : ¬ c → wpS (model prog w) A E s U Q st) : wpS (model prog w) A E s (if c then T else U) Q st := by
  by_cases e : c
  · rw [if_pos e]; exact h1 e
  · rw [if_neg e]; exact h2 e
theorem w_beq {α : Type} {m n : Nat} {T U : StateT SortSt Sem α} {Q : α → SortSt → Prop} {st : SortSt} (h1 : m = n → wpS (model prog w) A E s T Q st) (h2 : m ≠ n → wpS (model prog w) A E s U Q st) : wpS (model prog w) A E s (if (m == n) = true then T else U) Q st :=
  w_ite (fun e => h1 (beq_iff_eq.mp e)) fun e => h2 fun z => e (beq_iff_eq.mpr z)
theorem sm_setg {g' : Nat} {Q : Unit → SortSt → Prop} (h : Q () (SSt κ a p g')) : wpS (model prog w) A E s (setMinG' g') Q (SSt κ a p g) := wpS_modify h
theorem sm_ask (hc : Cmps prog w A s κ P) {left : Bool} {key : Keyed} {arr : Array Keyed} {j : Nat} (hk : P key) (hr : Al P arr) (hj : j < arr.size) {Q : Option Bool → SortSt → Prop} (h : ∀ b, Q (some b) (SSt κ a p g)) :
    wpS (model prog w) A E s (do
      let x ← elem' arr j
      if left = true then lt' x key else do
        let r ← lt' key x
        pure (Option.map (fun x => !x) r)) Q (SSt κ a p g) := by
  refine wpS_bind (sm_elem hj fun x hx => w_ite (fun _ => sm_lt hc (hr x hx) hk h) fun _ => wpS_bind (sm_lt hc hk (hr x hx) fun b => wpS_pure (h _)))
theorem sm_gallop (hc : Cmps prog w A s κ P) {left : Bool} {key : Keyed} {arr : Array Keyed} {base n hint : Nat} (hk : P key) (hr : Al P arr) (hb : base + n ≤ arr.size) (hh : hint < n) {Q : Option Nat → SortSt → Prop}
    (h : ∀ k, k ≤ n → Q (some k) (SSt κ a p g)) : wpS (model prog w) A E s (gallop' left key arr base n hint) Q (SSt κ a p g) := by
  refine wpS_bind (sm_ask hc hk hr (by omega) fun b => ?_)
  try dsimp only
  refine w_ite (fun _ => ?_) fun _ => ?_
  · refine wpS_bind (wpS_mono (wpS_forRange (I := fun x c st => ∃ l o, c = (none, l, o) ∧ st = SSt κ a p g) (Q := fun c st => ∃ l o, c = (none, l, o) ∧ st = SSt κ a p g) ?_ (fun _ _ z => z) ⟨_, _, rfl, rfl⟩) ?_)
    · rintro x c st _ _ ⟨l, o, rfl, rfl⟩
      try dsimp only
      refine w_ite (fun _ => wpS_pure ⟨l, o, rfl, rfl⟩) fun e => wpS_bind (sm_ask hc hk hr (by omega) fun b => ?_)
      try dsimp only
      exact w_ite (fun _ => wpS_pure ⟨_, _, rfl, rfl⟩) fun _ => wpS_pure ⟨_, _, rfl, rfl⟩
    rintro c st ⟨l, o, rfl, rfl⟩
    try dsimp only
    refine wpS_bind (wpS_mono (wpS_forRange (I := fun x c st => ∃ lo hi, c = (none, lo, hi) ∧ hi ≤ n ∧ st = SSt κ a p g) (Q := fun c st => ∃ lo hi, c = (none, lo, hi) ∧ hi ≤ n ∧ st = SSt κ a p g) ?_ (fun _ _ z => z) ⟨_, _, rfl, by omega, rfl⟩) ?_)
    · rintro x c st _ _ ⟨lo, hi, rfl, hhi, rfl⟩
      try dsimp only
      refine w_ite (fun _ => wpS_pure ⟨lo, hi, rfl, hhi, rfl⟩) fun e => wpS_bind (sm_ask hc hk hr (by omega) fun b => ?_)
      try dsimp only
      exact w_ite (fun _ => wpS_pure ⟨_, _, rfl, hhi, rfl⟩) fun _ => wpS_pure ⟨_, _, rfl, by omega, rfl⟩
    rintro c st ⟨lo, hi, rfl, hhi, rfl⟩
    exact wpS_pure (h _ hhi)
  · refine wpS_bind (wpS_mono (wpS_forRange (I := fun x c st => ∃ l o, c = (none, l, o) ∧ st = SSt κ a p g) (Q := fun c st => ∃ l o, c = (none, l, o) ∧ st = SSt κ a p g) ?_ (fun _ _ z => z) ⟨_, _, rfl, rfl⟩) ?_)
    · rintro x c st _ _ ⟨l, o, rfl, rfl⟩
      try dsimp only
      refine w_ite (fun _ => wpS_pure ⟨l, o, rfl, rfl⟩) fun e => wpS_bind (sm_ask hc hk hr (by omega) fun b => ?_)
      try dsimp only
      exact w_ite (fun _ => wpS_pure ⟨_, _, rfl, rfl⟩) fun _ => wpS_pure ⟨_, _, rfl, rfl⟩
    rintro c st ⟨l, o, rfl, rfl⟩
    try dsimp only
    refine wpS_bind (wpS_mono (wpS_forRange (I := fun x c st => ∃ lo hi, c = (none, lo, hi) ∧ hi ≤ n ∧ st = SSt κ a p g) (Q := fun c st => ∃ lo hi, c = (none, lo, hi) ∧ hi ≤ n ∧ st = SSt κ a p g) ?_ (fun _ _ z => z) ⟨_, _, rfl, by omega, rfl⟩) ?_)
    · rintro x c st _ _ ⟨lo, hi, rfl, hhi, rfl⟩
      try dsimp only
      refine w_ite (fun _ => wpS_pure ⟨lo, hi, rfl, hhi, rfl⟩) fun e => wpS_bind (sm_ask hc hk hr (by omega) fun b => ?_)
      try dsimp only
      exact w_ite (fun _ => wpS_pure ⟨_, _, rfl, hhi, rfl⟩) fun _ => wpS_pure ⟨_, _, rfl, by omega, rfl⟩
    rintro c st ⟨lo, hi, rfl, hhi, rfl⟩
    exact wpS_pure (h _ hhi)
theorem Al.app {a b : Array Keyed} (ha : Al P a) (hb : Al P b) : Al P (a ++ b) := fun x hx => (Array.mem_append.mp hx).elim (ha x) (hb x)
theorem Al.ext {a : Array Keyed} (ha : Al P a) {i j : Nat} : Al P (a.extract i j) := fun x hx => by
  obtain ⟨k, hk, e⟩ := Array.getElem_of_mem hx
  rw [Array.getElem_extract] at e
  exact ha x (e ▸ Array.getElem_mem _)
theorem Al.psh {a : Array Keyed} (ha : Al P a) {x : Keyed} (hx : P x) : Al P (a.push x) := fun y hy => by
  rcases Array.mem_push.mp hy with h | h
  · exact ha y h
  · rw [h]; exact hx
theorem Al.one {x : Keyed} (hx : P x) : Al P #[x] := fun y hy => by
  have : y = x := by simpa using hy
  rw [this]; exact hx
theorem Al.rv {a : Array Keyed} (ha : Al P a) : Al P a.reverse := fun x hx => ha x (Array.mem_reverse.mp hx)
noncomputable def MDn {R : Type} (κ : SortKind) (P : Keyed → Prop) (a : Array Keyed) (p : Array (Nat × Nat × Nat)) (c : Option (Array Keyed) × R) (st : SortSt) : Prop := ∃ o r g', c = (some o, r) ∧ Al P o ∧ st = SSt κ a p g'
theorem sm_lo (hc : Cmps prog w A s κ P) {x y : Array Keyed} (hx : Al P x) (hy : Al P y) (x1 : 1 ≤ x.size) (y1 : 1 ≤ y.size) {Q : Array Keyed → SortSt → Prop}
    (h : ∀ o g', Al P o → Q o (SSt κ a p g')) : wpS (model prog w) A E s (mergeLo' x y) Q (SSt κ a p g) := by
  refine wpS_bind (wpS_lift (wpAny_rule ⟨rfl, ?_⟩))
  refine wpS_bind (sm_elem (by omega) fun e0 he0 => ?_)
  have o0 : Al P #[e0] := .one (hy e0 he0)
  try dsimp only
  refine w_beq (fun _ => wpS_pure (h _ _ ((o0.app hx.ext).app hy.ext))) fun n1 => w_beq (fun _ => wpS_pure (h _ _ ((o0.app hy.ext).app hx.ext))) fun n2 => wpS_bind (wpS_get ?_)
  refine wpS_bind (wpS_mono (wpS_forRange (I := fun t c st => ∃ out ia ib mg g', c = (none, out, ia, ib, mg) ∧ Al P out ∧ ia + 1 < x.size ∧ ib < y.size ∧ t + 1 ≤ ia + ib ∧ st = SSt κ a p g') (Q := MDn κ P a p) ?_ ?_ ⟨_, _, _, _, _, rfl, o0, by omega, by omega, by omega, rfl⟩) ?_)
  · rintro t c st _ _ ⟨out, ia, ib, mg, g', rfl, ho, i1, i2, i3, rfl⟩
    try dsimp only
    refine wpS_bind (wpS_mono (wpS_forRange (I := fun u c st => ∃ out ja jb ac bc, c = (none, out, ja, jb, ac, bc) ∧ Al P out ∧ ja + 1 < x.size ∧ jb < y.size ∧ ia + ib + u ≤ ja + jb ∧ st = SSt κ a p g')
      (Q := fun c st => MDn κ P a p c st ∨ ∃ out ja jb ac bc, c = (none, out, ja, jb, ac, bc) ∧ Al P out ∧ ja + 1 < x.size ∧ jb < y.size ∧ ia + ib + 1 ≤ ja + jb ∧ st = SSt κ a p g') ?_ ?_ ⟨_, _, _, _, _, rfl, ho, i1, i2, by omega, rfl⟩) ?_)
    · rintro u c st _ _ ⟨out, ja, jb, ac, bc, rfl, ho, i1, i2, i3, rfl⟩
      try dsimp only
      refine wpS_bind (sm_elem (by omega) fun e1 he1 => wpS_bind (sm_elem (by omega) fun e2 he2 => wpS_bind (sm_lt hc (hy _ he1) (hx _ he2) fun b => ?_)))
      try dsimp only
      refine w_ite (fun _ => wpS_bind (sm_elem (by omega) fun e3 he3 => ?_)) fun _ => wpS_bind (sm_elem (by omega) fun e3 he3 => ?_)
      · have o3 : Al P (out.push e3) := ho.psh (hy _ he3)
        exact w_beq (fun _ => wpS_pure (.inl ⟨_, _, _, rfl, (o3.app hx.ext).app hy.ext, rfl⟩)) fun e => w_ite (fun _ => wpS_pure (.inr ⟨_, _, _, _, _, rfl, o3, i1, by omega, by omega, rfl⟩)) fun _ => wpS_pure ⟨_, _, _, _, _, rfl, o3, i1, by omega, by omega, rfl⟩
      · have o3 : Al P (out.push e3) := ho.psh (hx _ he3)
        exact w_beq (fun _ => wpS_pure (.inl ⟨_, _, _, rfl, (o3.app hy.ext).app hx.ext, rfl⟩)) fun e => w_ite (fun _ => wpS_pure (.inr ⟨_, _, _, _, _, rfl, o3, by omega, i2, by omega, rfl⟩)) fun _ => wpS_pure ⟨_, _, _, _, _, rfl, o3, by omega, i2, by omega, rfl⟩
    · rintro c st ⟨out, ja, jb, ac, bc, rfl, ho, i1, i2, i3, rfl⟩
      exact .inr ⟨_, _, _, _, _, rfl, ho, i1, i2, by omega, rfl⟩
    rintro c st (⟨o, r, g2, rfl, ho, rfl⟩ | ⟨out, ja, jb, ac, bc, rfl, ho, i1, i2, j3, rfl⟩)
    · exact wpS_pure ⟨_, _, _, rfl, ho, rfl⟩
    try dsimp only
    refine wpS_bind (wpS_lift (wpAny_rule ⟨rfl, ?_⟩))
    try dsimp only
    refine wpS_bind (wpS_mono (wpS_forRange (I := fun u c st => ∃ out ja jb mg ac bc g', c = (none, out, ja, jb, mg, ac, bc) ∧ Al P out ∧ ja + 1 < x.size ∧ jb < y.size ∧ ia + ib + 1 ≤ ja + jb ∧ st = SSt κ a p g')
      (Q := fun c st => MDn κ P a p c st ∨ ∃ out ja jb mg ac bc g', c = (none, out, ja, jb, mg, ac, bc) ∧ Al P out ∧ ja + 1 < x.size ∧ jb < y.size ∧ ia + ib + 1 ≤ ja + jb ∧ st = SSt κ a p g') ?_ (fun _ _ z => .inr z) ⟨_, _, _, _, _, _, _, rfl, ho, i1, i2, by omega, rfl⟩) ?_)
    · rintro u c st _ _ ⟨out, ja, jb, mg, ac, bc, g', rfl, ho, i1, i2, i3, rfl⟩
      try dsimp only
      refine w_ite (fun _ => ?_) fun _ => ?_
      all_goals
        refine wpS_bind (sm_setg (wpS_bind (sm_elem (by omega) fun e1 he1 => wpS_bind (sm_gallop hc (hy _ he1) hx (by omega) (by omega) fun k hk => ?_))))
        try dsimp only
        refine w_ite (fun _ => ?_) fun _ => ?_
        · have o2 : Al P (out ++ x.extract ja (ja + k)) := ho.app hx.ext
          refine w_beq (fun _ => wpS_pure (.inl ⟨_, _, _, rfl, (o2.app hy.ext).app hx.ext, rfl⟩)) fun _ => w_beq (fun _ => wpS_pure (.inl ⟨_, _, _, rfl, (o2.app hx.ext).app hy.ext, rfl⟩)) fun _ => ?_
          refine wpS_bind (sm_elem (by omega) fun e2 he2 => ?_)
          have o3 := o2.psh (hy _ he2)
          refine w_beq (fun _ => wpS_pure (.inl ⟨_, _, _, rfl, (o3.app hx.ext).app hy.ext, rfl⟩)) fun _ => wpS_bind (sm_elem (by omega) fun e3 he3 => wpS_bind (sm_gallop hc (hx _ he3) hy (by omega) (by omega) fun k2 hk2 => ?_))
          try dsimp only
          refine w_ite (fun _ => ?_) fun _ => ?_
          · have o4 := o3.app (hy.ext (i := jb + 1) (j := jb + 1 + k2))
            refine w_beq (fun _ => wpS_pure (.inl ⟨_, _, _, rfl, (o4.app hx.ext).app hy.ext, rfl⟩)) fun _ => wpS_bind (sm_elem (by omega) fun e4 he4 => ?_)
            have o5 := o4.psh (hx _ he4)
            exact w_beq (fun _ => wpS_pure (.inl ⟨_, _, _, rfl, (o5.app hy.ext).app hx.ext, rfl⟩)) fun _ => w_ite (fun _ => wpS_pure (.inr ⟨_, _, _, _, _, _, _, rfl, o5, by omega, by omega, by omega, rfl⟩)) fun _ => wpS_pure ⟨_, _, _, _, _, _, _, rfl, o5, by omega, by omega, by omega, rfl⟩
          · refine wpS_bind (sm_elem (by omega) fun e4 he4 => ?_)
            have o5 := o3.psh (hx _ he4)
            exact w_beq (fun _ => wpS_pure (.inl ⟨_, _, _, rfl, (o5.app hy.ext).app hx.ext, rfl⟩)) fun _ => w_ite (fun _ => wpS_pure (.inr ⟨_, _, _, _, _, _, _, rfl, o5, by omega, by omega, by omega, rfl⟩)) fun _ => wpS_pure ⟨_, _, _, _, _, _, _, rfl, o5, by omega, by omega, by omega, rfl⟩
        · refine wpS_bind (sm_elem (by omega) fun e2 he2 => ?_)
          have o3 := ho.psh (hy _ he2)
          refine w_beq (fun _ => wpS_pure (.inl ⟨_, _, _, rfl, (o3.app hx.ext).app hy.ext, rfl⟩)) fun _ => wpS_bind (sm_elem (by omega) fun e3 he3 => wpS_bind (sm_gallop hc (hx _ he3) hy (by omega) (by omega) fun k2 hk2 => ?_))
          try dsimp only
          refine w_ite (fun _ => ?_) fun _ => ?_
          · have o4 := o3.app (hy.ext (i := jb + 1) (j := jb + 1 + k2))
            refine w_beq (fun _ => wpS_pure (.inl ⟨_, _, _, rfl, (o4.app hx.ext).app hy.ext, rfl⟩)) fun _ => wpS_bind (sm_elem (by omega) fun e4 he4 => ?_)
            have o5 := o4.psh (hx _ he4)
            exact w_beq (fun _ => wpS_pure (.inl ⟨_, _, _, rfl, (o5.app hy.ext).app hx.ext, rfl⟩)) fun _ => w_ite (fun _ => wpS_pure (.inr ⟨_, _, _, _, _, _, _, rfl, o5, by omega, by omega, by omega, rfl⟩)) fun _ => wpS_pure ⟨_, _, _, _, _, _, _, rfl, o5, by omega, by omega, by omega, rfl⟩
          · refine wpS_bind (sm_elem (by omega) fun e4 he4 => ?_)
            have o5 := o3.psh (hx _ he4)
            exact w_beq (fun _ => wpS_pure (.inl ⟨_, _, _, rfl, (o5.app hy.ext).app hx.ext, rfl⟩)) fun _ => w_ite (fun _ => wpS_pure (.inr ⟨_, _, _, _, _, _, _, rfl, o5, by omega, by omega, by omega, rfl⟩)) fun _ => wpS_pure ⟨_, _, _, _, _, _, _, rfl, o5, by omega, by omega, by omega, rfl⟩
    rintro c st (⟨o, r, g2, rfl, ho, rfl⟩ | ⟨out, ja, jb, mg, ac, bc, g2, rfl, ho, i1, i2, j3, rfl⟩)
    · exact wpS_pure ⟨_, _, _, rfl, ho, rfl⟩
    exact wpS_bind (sm_setg (wpS_pure ⟨out, ja, jb, _, _, rfl, ho, i1, i2, by omega, rfl⟩))
  · rintro c st ⟨out, ia, ib, mg, g', rfl, ho, i1, i2, i3, rfl⟩
    omega
  · rintro c st ⟨o, r, g', rfl, ho, rfl⟩
    exact wpS_pure (h _ _ ho)
theorem sm_hi (hc : Cmps prog w A s κ P) {x y : Array Keyed} (hx : Al P x) (hy : Al P y) (x1 : 1 ≤ x.size) (y1 : 1 ≤ y.size) {Q : Array Keyed → SortSt → Prop}
    (h : ∀ o g', Al P o → Q o (SSt κ a p g')) : wpS (model prog w) A E s (mergeHi' x y) Q (SSt κ a p g) := by
  refine wpS_bind (wpS_lift (wpAny_rule ⟨rfl, ?_⟩))
  refine wpS_bind (sm_elem (by omega) fun e0 he0 => ?_)
  have o0 : Al P #[e0] := .one (hx e0 he0)
  try dsimp only
  refine w_beq (fun _ => wpS_pure (h _ _ ((hx.ext.app hy.ext).app o0.rv))) fun n1 => w_beq (fun _ => wpS_pure (h _ _ ((hy.ext.app hx.ext).app o0.rv))) fun n2 => wpS_bind (wpS_get ?_)
  refine wpS_bind (wpS_mono (wpS_forRange (I := fun t c st => ∃ na nb out mg g', c = (none, na, nb, out, mg) ∧ Al P out ∧ 1 ≤ na ∧ 2 ≤ nb ∧ na ≤ x.size ∧ nb ≤ y.size ∧ na + nb + t + 1 ≤ x.size + y.size ∧ st = SSt κ a p g') (Q := MDn κ P a p) ?_ ?_ ⟨_, _, _, _, _, rfl, o0, by omega, by omega, by omega, by omega, by omega, rfl⟩) ?_)
  · rintro t c st _ _ ⟨na, nb, out, mg, g', rfl, ho, i1, i2, l1, l2, i3, rfl⟩
    try dsimp only
    refine wpS_bind (wpS_mono (wpS_forRange (I := fun u c st => ∃ ja jb out ac bc, c = (none, ja, jb, out, ac, bc) ∧ Al P out ∧ 1 ≤ ja ∧ 2 ≤ jb ∧ ja ≤ x.size ∧ jb ≤ y.size ∧ ja + jb + u ≤ na + nb ∧ st = SSt κ a p g')
      (Q := fun c st => MDn κ P a p c st ∨ ∃ ja jb out ac bc, c = (none, ja, jb, out, ac, bc) ∧ Al P out ∧ 1 ≤ ja ∧ 2 ≤ jb ∧ ja ≤ x.size ∧ jb ≤ y.size ∧ ja + jb + 1 ≤ na + nb ∧ st = SSt κ a p g') ?_ ?_ ⟨_, _, _, _, _, rfl, ho, i1, i2, l1, l2, by omega, rfl⟩) ?_)
    · rintro u c st _ _ ⟨ja, jb, out, ac, bc, rfl, ho, i1, i2, l1, l2, i3, rfl⟩
      try dsimp only
      refine wpS_bind (sm_elem (by omega) fun e1 he1 => wpS_bind (sm_elem (by omega) fun e2 he2 => wpS_bind (sm_lt hc (hy _ he1) (hx _ he2) fun b => ?_)))
      try dsimp only
      refine w_ite (fun _ => wpS_bind (sm_elem (by omega) fun e3 he3 => ?_)) fun _ => wpS_bind (sm_elem (by omega) fun e3 he3 => ?_)
      · have o3 : Al P (out.push e3) := ho.psh (hx _ he3)
        exact w_beq (fun _ => wpS_pure (.inl ⟨_, _, _, rfl, (hx.ext.app hy.ext).app o3.rv, rfl⟩)) fun e => w_ite (fun _ => wpS_pure (.inr ⟨_, _, _, _, _, rfl, o3, by omega, by omega, by omega, by omega, by omega, rfl⟩)) fun _ => wpS_pure ⟨_, _, _, _, _, rfl, o3, by omega, by omega, by omega, by omega, by omega, rfl⟩
      · have o3 : Al P (out.push e3) := ho.psh (hy _ he3)
        exact w_beq (fun _ => wpS_pure (.inl ⟨_, _, _, rfl, (hy.ext.app hx.ext).app o3.rv, rfl⟩)) fun e => w_ite (fun _ => wpS_pure (.inr ⟨_, _, _, _, _, rfl, o3, by omega, by omega, by omega, by omega, by omega, rfl⟩)) fun _ => wpS_pure ⟨_, _, _, _, _, rfl, o3, by omega, by omega, by omega, by omega, by omega, rfl⟩
    · rintro c st ⟨ja, jb, out, ac, bc, rfl, ho, i1, i2, l1, l2, i3, rfl⟩
      exact .inr ⟨_, _, _, _, _, rfl, ho, i1, i2, l1, l2, by omega, rfl⟩
    rintro c st (⟨o, r, g2, rfl, ho, rfl⟩ | ⟨ja, jb, out, ac, bc, rfl, ho, i1, i2, l1, l2, j3, rfl⟩)
    · exact wpS_pure ⟨_, _, _, rfl, ho, rfl⟩
    try dsimp only
    refine wpS_bind (wpS_lift (wpAny_rule ⟨rfl, ?_⟩))
    try dsimp only
    refine wpS_bind (wpS_mono (wpS_forRange (I := fun u c st => ∃ ja jb out mg ac bc g', c = (none, ja, jb, out, mg, ac, bc) ∧ Al P out ∧ 1 ≤ ja ∧ 2 ≤ jb ∧ ja ≤ x.size ∧ jb ≤ y.size ∧ ja + jb + 1 ≤ na + nb ∧ st = SSt κ a p g')
      (Q := fun c st => MDn κ P a p c st ∨ ∃ ja jb out mg ac bc g', c = (none, ja, jb, out, mg, ac, bc) ∧ Al P out ∧ 1 ≤ ja ∧ 2 ≤ jb ∧ ja ≤ x.size ∧ jb ≤ y.size ∧ ja + jb + 1 ≤ na + nb ∧ st = SSt κ a p g') ?_ (fun _ _ z => .inr z) ⟨_, _, _, _, _, _, _, rfl, ho, i1, i2, l1, l2, by omega, rfl⟩) ?_)
    · rintro u c st _ _ ⟨ja, jb, out, mg, ac, bc, g', rfl, ho, i1, i2, l1, l2, i3, rfl⟩
      try dsimp only
      refine w_ite (fun _ => ?_) fun _ => ?_
      all_goals
        refine wpS_bind (sm_setg (wpS_bind (sm_elem (by omega) fun e1 he1 => wpS_bind (sm_gallop hc (hy _ he1) hx (by omega) (by omega) fun k hk => ?_))))
        try dsimp only
        refine w_ite (fun _ => ?_) fun _ => ?_
        · have o2 : Al P (out ++ (x.extract k ja).reverse) := ho.app hx.ext.rv
          refine w_beq (fun _ => wpS_pure (.inl ⟨_, _, _, rfl, (hx.ext.app hy.ext).app o2.rv, rfl⟩)) fun _ => ?_
          refine wpS_bind (sm_elem (by omega) fun e2 he2 => ?_)
          have o3 := o2.psh (hy _ he2)
          refine w_beq (fun _ => wpS_pure (.inl ⟨_, _, _, rfl, (hy.ext.app hx.ext).app o3.rv, rfl⟩)) fun _ => wpS_bind (sm_elem (by omega) fun e3 he3 => wpS_bind (sm_gallop hc (hx _ he3) hy (by omega) (by omega) fun k2 hk2 => ?_))
          try dsimp only
          refine w_ite (fun _ => ?_) fun _ => ?_
          · have o4 := o3.app (hy.ext (i := k2) (j := jb - 1)).rv
            refine w_beq (fun _ => wpS_pure (.inl ⟨_, _, _, rfl, (hy.ext.app hx.ext).app o4.rv, rfl⟩)) fun _ => w_beq (fun _ => wpS_pure (.inl ⟨_, _, _, rfl, (hx.ext.app hy.ext).app o4.rv, rfl⟩)) fun _ => wpS_bind (sm_elem (by omega) fun e4 he4 => ?_)
            have o5 := o4.psh (hx _ he4)
            exact w_beq (fun _ => wpS_pure (.inl ⟨_, _, _, rfl, (hx.ext.app hy.ext).app o5.rv, rfl⟩)) fun _ => w_ite (fun _ => wpS_pure (.inr ⟨_, _, _, _, _, _, _, rfl, o5, by omega, by omega, by omega, by omega, by omega, rfl⟩)) fun _ => wpS_pure ⟨_, _, _, _, _, _, _, rfl, o5, by omega, by omega, by omega, by omega, by omega, rfl⟩
          · refine wpS_bind (sm_elem (by omega) fun e4 he4 => ?_)
            have o5 := o3.psh (hx _ he4)
            exact w_beq (fun _ => wpS_pure (.inl ⟨_, _, _, rfl, (hx.ext.app hy.ext).app o5.rv, rfl⟩)) fun _ => w_ite (fun _ => wpS_pure (.inr ⟨_, _, _, _, _, _, _, rfl, o5, by omega, by omega, by omega, by omega, by omega, rfl⟩)) fun _ => wpS_pure ⟨_, _, _, _, _, _, _, rfl, o5, by omega, by omega, by omega, by omega, by omega, rfl⟩
        · refine wpS_bind (sm_elem (by omega) fun e2 he2 => ?_)
          have o3 := ho.psh (hy _ he2)
          refine w_beq (fun _ => wpS_pure (.inl ⟨_, _, _, rfl, (hy.ext.app hx.ext).app o3.rv, rfl⟩)) fun _ => wpS_bind (sm_elem (by omega) fun e3 he3 => wpS_bind (sm_gallop hc (hx _ he3) hy (by omega) (by omega) fun k2 hk2 => ?_))
          try dsimp only
          refine w_ite (fun _ => ?_) fun _ => ?_
          · have o4 := o3.app (hy.ext (i := k2) (j := jb - 1)).rv
            refine w_beq (fun _ => wpS_pure (.inl ⟨_, _, _, rfl, (hy.ext.app hx.ext).app o4.rv, rfl⟩)) fun _ => w_beq (fun _ => wpS_pure (.inl ⟨_, _, _, rfl, (hx.ext.app hy.ext).app o4.rv, rfl⟩)) fun _ => wpS_bind (sm_elem (by omega) fun e4 he4 => ?_)
            have o5 := o4.psh (hx _ he4)
            exact w_beq (fun _ => wpS_pure (.inl ⟨_, _, _, rfl, (hx.ext.app hy.ext).app o5.rv, rfl⟩)) fun _ => w_ite (fun _ => wpS_pure (.inr ⟨_, _, _, _, _, _, _, rfl, o5, by omega, by omega, by omega, by omega, by omega, rfl⟩)) fun _ => wpS_pure ⟨_, _, _, _, _, _, _, rfl, o5, by omega, by omega, by omega, by omega, by omega, rfl⟩
          · refine wpS_bind (sm_elem (by omega) fun e4 he4 => ?_)
            have o5 := o3.psh (hx _ he4)
            exact w_beq (fun _ => wpS_pure (.inl ⟨_, _, _, rfl, (hx.ext.app hy.ext).app o5.rv, rfl⟩)) fun _ => w_ite (fun _ => wpS_pure (.inr ⟨_, _, _, _, _, _, _, rfl, o5, by omega, by omega, by omega, by omega, by omega, rfl⟩)) fun _ => wpS_pure ⟨_, _, _, _, _, _, _, rfl, o5, by omega, by omega, by omega, by omega, by omega, rfl⟩
    rintro c st (⟨o, r, g2, rfl, ho, rfl⟩ | ⟨ja, jb, out, mg, ac, bc, g2, rfl, ho, i1, i2, l1, l2, j3, rfl⟩)
    · exact wpS_pure ⟨_, _, _, rfl, ho, rfl⟩
    exact wpS_bind (sm_setg (wpS_pure ⟨ja, jb, out, _, _, rfl, ho, i1, i2, l1, l2, by omega, rfl⟩))
  · rintro c st ⟨na, nb, out, mg, g', rfl, ho, i1, i2, l1, l2, i3, rfl⟩
    omega
  · rintro c st ⟨o, r, g', rfl, ho, rfl⟩
    exact wpS_pure (h _ _ ho)
end
end L2

namespace L2
open PySem PySem.Spec PyProof.Rows
section
variable {prog : Program} {w : World} {A : Around} {E : Value → Shared → Prop} {s : Shared} {κ : SortKind} {P : Keyed → Prop}
variable {a : Array Keyed} {p : Array (Nat × Nat × Nat)} {g : Nat}
noncomputable def nxt3 (p : Array (Nat × Nat × Nat)) (hi i : Nat) : Nat := (p[i]?).elim hi (·.1)
noncomputable def Pnd (p : Array (Nat × Nat × Nat)) (hi : Nat) : Prop := ∀ i t, p[i]? = some t → 1 ≤ t.2.1 ∧ t.1 + t.2.1 = nxt3 p hi (i + 1) ∧ t.1 + t.2.1 ≤ hi
theorem Pnd.nil {hi : Nat} : Pnd #[] hi := fun i t h => by simp at h
theorem nxt_some {hi i : Nat} {t : Nat × Nat × Nat} (h : p[i]? = some t) : nxt3 p hi i = t.1 := by unfold nxt3; rw [h]; rfl
theorem nxt_congr {p q : Array (Nat × Nat × Nat)} {hi i j : Nat} (h : p[i]? = q[j]?) : nxt3 p hi i = nxt3 q hi j := by unfold nxt3; rw [h]
theorem Pnd.push {hi n m : Nat} (h : Pnd p hi) (hn : 1 ≤ n) : Pnd (p.push (hi, n, m)) (hi + n) := fun i t ht => by
  rw [Array.getElem?_push] at ht
  by_cases c : i = p.size
  · rw [if_pos c] at ht
    cases ht
    refine ⟨hn, ?_, Nat.le_refl _⟩
    unfold nxt3
    rw [Array.getElem?_eq_none (by rw [Array.size_push]; omega)]
    rfl
  · rw [if_neg c] at ht
    obtain ⟨h1, h2, h3⟩ := h i t ht
    refine ⟨h1, ?_, by omega⟩
    rw [h2]
    unfold nxt3
    have hlt : i < p.size := by
      rcases Nat.lt_or_ge i p.size with z | z
      · exact z
      · rw [Array.getElem?_eq_none z] at ht; cases ht
    rw [Array.getElem?_push]
    by_cases c2 : i + 1 = p.size
    · rw [if_pos c2, Array.getElem?_eq_none (by omega)]; rfl
    · rw [if_neg c2, Array.getElem?_eq_getElem (show i + 1 < p.size by omega)]; rfl
theorem Pnd.pow {hi k pw : Nat} (h : Pnd p hi) : Pnd (p.modify k fun (x : Nat × Nat × Nat) => match x with | (st, len, _) => (st, len, pw)) hi := fun i t ht => by
  have nx : ∀ j, nxt3 (p.modify k fun (x : Nat × Nat × Nat) => match x with | (st, len, _) => (st, len, pw)) hi j = nxt3 p hi j := fun j => by
    unfold nxt3
    rw [Array.getElem?_modify]
    by_cases c : k = j
    · rw [if_pos c]
      cases p[j]? with
      | none => rfl
      | some u => rfl
    · rw [if_neg c]
  rw [nx]
  rw [Array.getElem?_modify] at ht
  by_cases c : k = i
  · rw [if_pos c] at ht
    cases e : p[i]? with
    | none => rw [e] at ht; cases ht
    | some u => rw [e] at ht; cases ht; exact h i u e
  · rw [if_neg c] at ht
    exact h i t ht
theorem Pnd.join {hi i sa na pw sb nb pw2 : Nat} (h : Pnd p hi) (h1 : p[i]? = some (sa, na, pw)) (h2 : p[i + 1]? = some (sb, nb, pw2)) : Pnd ((p.setIfInBounds i (sa, na + nb, pw)).eraseIdxIfInBounds (i + 1)) hi := by
  have lt : i + 1 < p.size := by
    rcases Nat.lt_or_ge (i + 1) p.size with z | z
    · exact z
    · rw [Array.getElem?_eq_none z] at h2; cases h2
  have at' : ∀ j, ((p.setIfInBounds i (sa, na + nb, pw)).eraseIdxIfInBounds (i + 1))[j]? = if j = i then some (sa, na + nb, pw) else if j < i then p[j]? else p[j + 1]? := fun j => by
    unfold Array.eraseIdxIfInBounds
    rw [dif_pos (by rw [Array.size_setIfInBounds]; exact lt), Array.getElem?_eraseIdx]
    by_cases c : j < i + 1
    · rw [if_pos c, Array.getElem?_setIfInBounds]
      by_cases c2 : i = j
      · rw [if_pos c2, if_pos (by omega), if_pos c2.symm]
      · rw [if_neg c2, if_neg (fun z => c2 z.symm), if_pos (by omega)]
    · rw [if_neg c, if_neg (by omega), if_neg (by omega), Array.getElem?_setIfInBounds, if_neg (by omega)]
  have k1 := h i _ h1
  have k2 := h (i + 1) _ h2
  rw [nxt_some h2] at k1
  intro j t ht
  rw [at'] at ht
  by_cases c : j = i
  · subst c
    rw [if_pos rfl] at ht
    cases ht
    have e : nxt3 ((p.setIfInBounds j (sa, na + nb, pw)).eraseIdxIfInBounds (j + 1)) hi (j + 1) = nxt3 p hi (j + 1 + 1) := nxt_congr (by rw [at', if_neg (by omega), if_neg (by omega)])
    refine ⟨?_, ?_, ?_⟩
    · show 1 ≤ na + nb
      have := k1.1; dsimp only at this; omega
    · rw [e, ← k2.2.1]
      have := k1.2.1; dsimp only at this ⊢; omega
    · have := k1.2.1; have := k2.2.2; dsimp only at *; omega
  · rw [if_neg c] at ht
    by_cases c2 : j < i
    · rw [if_pos c2] at ht
      have k := h j t ht
      refine ⟨k.1, ?_, k.2.2⟩
      rw [k.2.1]
      by_cases c3 : j + 1 = i
      · rw [c3, nxt_some h1]
        unfold nxt3
        rw [at', if_pos rfl]; rfl
      · exact nxt_congr (by rw [at', if_neg c3, if_pos (by omega)])
    · rw [if_neg c2] at ht
      have k := h (j + 1) t ht
      refine ⟨k.1, ?_, k.2.2⟩
      rw [k.2.1]
      exact nxt_congr (by rw [at', if_neg (by omega), if_neg (by omega)])
theorem fold_set {sa : Nat} : ∀ (l : List (Keyed × Nat)) (a : Array Keyed), (∀ x ∈ l, P x.1) → Al P a → (l.foldl (fun (a : Array Keyed) (x : Keyed × Nat) => match x with | (p, j) => a.setIfInBounds (sa + j) p) a).size = a.size ∧ Al P (l.foldl (fun (a : Array Keyed) (x : Keyed × Nat) => match x with | (p, j) => a.setIfInBounds (sa + j) p) a)
  | [], a, _, ha => ⟨rfl, ha⟩
  | (x, j) :: l, a, hl, ha => by
    have ha' : Al P (a.setIfInBounds (sa + j) x) := fun y hy => by
      rcases Array.mem_or_eq_of_mem_setIfInBounds hy with h | h
      · exact ha y h
      · rw [h]; exact hl (x, j) (.head _)
    have := fold_set (sa := sa) l (a.setIfInBounds (sa + j) x) (fun y hy => hl y (.tail _ hy)) ha'
    exact ⟨this.1.trans Array.size_setIfInBounds, this.2⟩
theorem sm_set {st st' : SortSt} {Q : PUnit → SortSt → Prop} (h : Q ⟨⟩ st') : wpS (model prog w) A E s (set st' : StateT SortSt Sem PUnit) Q st := by
  unfold wpS; rw [StateT.run_set]; exact wpAny_pure ⟨rfl, h⟩
theorem sm_mergeAt (hc : Cmps prog w A s κ P) (ha : Al P a) {hi i : Nat} (hp : Pnd p hi) (hhi : hi ≤ a.size) (hi1 : i + 1 < p.size) {Q : Bool → SortSt → Prop}
    (h : ∀ a' p' g', a'.size = a.size → Al P a' → Pnd p' hi → Q true (SSt κ a' p' g')) : wpS (model prog w) A E s (mergeAt' i) Q (SSt κ a p g) := by
  refine wpS_bind (wpS_get ?_)
  obtain ⟨⟨sa, na, pw⟩, h1⟩ : ∃ t, p[i]? = some t := ⟨_, Array.getElem?_eq_getElem (show i < p.size by omega)⟩
  obtain ⟨⟨sb, nb, pw2⟩, h2⟩ : ∃ t, p[i + 1]? = some t := ⟨_, Array.getElem?_eq_getElem hi1⟩
  have hj := hp.join h1 h2
  have k1 := hp i _ h1
  have k2 := hp (i + 1) _ h2
  rw [nxt_some h2] at k1
  dsimp only at k1 k2
  show wpS _ _ _ _ (match (p[i]?, p[i + 1]?) with | (some (sa, na, power), some (sb, nb, snd)) => _ | x => _) _ _
  rw [h1, h2]
  dsimp only
  refine wpS_bind (sm_set ?_)
  refine wpS_bind (sm_elem (by omega) fun e1 he1 => wpS_bind (sm_gallop (p := (p.setIfInBounds i (sa, na + nb, pw)).eraseIdxIfInBounds (i + 1)) hc (ha _ he1) ha (by omega) (by omega) fun k hk => ?_))
  dsimp only
  refine w_beq (fun _ => wpS_pure (h _ _ _ rfl ha hj)) fun e => ?_
  refine wpS_bind (sm_elem (by omega) fun e2 he2 => wpS_bind (sm_gallop (p := (p.setIfInBounds i (sa, na + nb, pw)).eraseIdxIfInBounds (i + 1)) hc (ha _ he2) ha (by omega) (by omega) fun n2 hn2 => ?_))
  dsimp only
  refine w_beq (fun _ => wpS_pure (h _ _ _ rfl ha hj)) fun e3 => ?_
  have z1 : (a.extract (sa + k) sb).size = na - k := by rw [Array.size_extract]; omega
  have z2 : (a.extract sb (sb + n2)).size = n2 := by rw [Array.size_extract]; omega
  refine w_ite (fun _ => wpS_bind (sm_lo (p := (p.setIfInBounds i (sa, na + nb, pw)).eraseIdxIfInBounds (i + 1)) hc ha.ext ha.ext (by omega) (by omega) fun o g' ho => ?_)) fun _ => wpS_bind (sm_hi (p := (p.setIfInBounds i (sa, na + nb, pw)).eraseIdxIfInBounds (i + 1)) hc ha.ext ha.ext (by omega) (by omega) fun o g' ho => ?_)
  all_goals
    have hz : ∀ x ∈ o.toList.zipIdx, P x.1 := fun x hx => by
      obtain ⟨y, j⟩ := x
      exact ho y (Array.mem_def.mpr (List.fst_mem_of_mem_zipIdx hx))
    have f := fold_set (P := P) (sa := sa + k) o.toList.zipIdx a hz ha
    exact wpS_bind (wpS_modify (wpS_bind (wpS_get (wpS_pure (h _ _ _ f.1 f.2 hj)))))
theorem ite_low {c : Prop} [Decidable c] {u v n : Nat} (h1 : u + 1 < n) (h2 : v + 1 < n) : (if c then u else v) + 1 < n := by
  by_cases e : c
  · rw [if_pos e]; exact h1
  · rw [if_neg e]; exact h2
theorem sm_runs (hc : Cmps prog w A s κ P) (ha : Al P a) {Q : Unit → SortSt → Prop} (h : ∀ a' p' g', a'.size = a.size → Al P a' → Q () (SSt κ a' p' g')) : wpS (model prog w) A E s sortRuns' Q (SSt κ a #[] g) := by
  rw [sortRuns'_eq]
  refine wpS_bind (wpS_get ?_)
  dsimp only
  obtain ⟨N, hN⟩ : ∃ N, (arrOf (SSt κ a #[] g)).size = N := ⟨_, rfl⟩
  have hN' : a.size = N := hN
  simp only [hN]
  generalize minRun' N N 0 = mr
  refine wpS_bind (wpS_mono (wpS_forRange (I := fun x c st => ∃ lo a' p' g', c = (none, lo) ∧ lo ≤ N ∧ a'.size = N ∧ Al P a' ∧ Pnd p' lo ∧ st = SSt κ a' p' g') (Q := fun c st => ∃ lo a' p' g', c = (none, lo) ∧ lo ≤ N ∧ a'.size = N ∧ Al P a' ∧ Pnd p' lo ∧ st = SSt κ a' p' g') ?_ (fun _ _ z => z) ⟨_, a, _, g, rfl, by omega, hN', ha, .nil, rfl⟩) ?_)
  · rintro x c st _ _ ⟨lo, a', p', g', rfl, hlo, z, ha', hp, rfl⟩
    dsimp only
    refine w_ite (fun _ => wpS_pure ⟨lo, a', p', g', rfl, hlo, z, ha', hp, rfl⟩) fun e => ?_
    refine wpS_bind (sm_count hc ha' (by omega) (by omega) fun n b2 n1 n2 y2 hb2 => ?_)
    dsimp only
    refine w_ite (fun e2 => ?_) fun e2 => ?_
    · refine wpS_bind (wpS_lift (wpAny_rule ⟨rfl, ?_⟩))
      obtain ⟨f, hf⟩ : ∃ f, min (N - lo) mr = f := ⟨_, rfl⟩
      have f1 : 1 ≤ f := by omega
      have f2 : lo + f ≤ N := by omega
      simp only [hf]
      refine wpS_bind (sm_bin hc hb2 (by omega) fun a2 z3 ha2 => ?_)
      simp only [Bool.not_true, Bool.false_eq_true, if_false]
      have z2 : a2.size = a'.size := z3.trans y2
      refine wpS_bind (wpS_get ?_)
      show wpS _ _ _ _ (match p'.back? with | some (s1, n1, _) => _ | x => _) _ _
      cases e5 : p'.back? with
      | none =>
        dsimp only
        exact wpS_bind (wpS_modify (wpS_pure ⟨lo + f, a2, p'.push (lo, f, 0), g', rfl, by omega, by omega, ha2, hp.push f1, rfl⟩))
      | some t =>
        obtain ⟨s1, n1, t3⟩ := t
        dsimp only
        refine wpS_bind (wpS_mono (wpS_forRange (I := fun x c st => c = (none, ()) ∧ ∃ a' p' g', a'.size = N ∧ Al P a' ∧ Pnd p' lo ∧ st = SSt κ a' p' g') (Q := fun c st => c = (none, ()) ∧ ∃ a' p' g', a'.size = N ∧ Al P a' ∧ Pnd p' lo ∧ st = SSt κ a' p' g') ?_ (fun _ _ z => z) ⟨rfl, a2, p', g', by omega, ha2, hp, rfl⟩) ?_)
        · rintro x c st _ _ ⟨rfl, a', p', g', z, ha', hp, rfl⟩
          refine wpS_bind (wpS_get ?_)
          show wpS _ _ _ _ (match (if p'.size > 1 then p'[p'.size - 2]? else none) with | some (_, _, older) => _ | x => _) _ _
          by_cases e6 : p'.size > 1
          · rw [if_pos e6, Array.getElem?_eq_getElem (show p'.size - 2 < p'.size by omega)]
            dsimp only
            exact w_ite (fun _ => wpS_pure ⟨rfl, a', p', g', z, ha', hp, rfl⟩) fun _ => wpS_bind (sm_mergeAt hc ha' hp (by omega) (show p'.size - 2 + 1 < p'.size by omega) fun a3 p3 g3 z3 ha3 hp3 => wpS_pure ⟨rfl, a3, p3, g3, by omega, ha3, hp3, rfl⟩)
          · rw [if_neg e6]
            exact wpS_pure ⟨rfl, a', p', g', z, ha', hp, rfl⟩
        rintro c st ⟨rfl, a', p', g', z, ha', hp, rfl⟩
        dsimp only
        exact wpS_bind (wpS_modify (wpS_bind (wpS_modify (wpS_pure ⟨lo + f, a', _, g', rfl, by omega, by omega, ha', hp.pow.push f1, rfl⟩))))
    · obtain ⟨f, rfl⟩ : ∃ f, f = n := ⟨_, rfl⟩
      obtain ⟨a2, rfl⟩ : ∃ x, x = b2 := ⟨_, rfl⟩
      have z2 := y2
      have ha2 := hb2
      have f1 : 1 ≤ f := n1
      refine wpS_bind (wpS_get ?_)
      show wpS _ _ _ _ (match p'.back? with | some (s1, n1, _) => _ | x => _) _ _
      cases e5 : p'.back? with
      | none =>
        dsimp only
        exact wpS_bind (wpS_modify (wpS_pure ⟨lo + f, a2, p'.push (lo, f, 0), g', rfl, by omega, by omega, ha2, hp.push f1, rfl⟩))
      | some t =>
        obtain ⟨s1, n1, t3⟩ := t
        dsimp only
        refine wpS_bind (wpS_mono (wpS_forRange (I := fun x c st => c = (none, ()) ∧ ∃ a' p' g', a'.size = N ∧ Al P a' ∧ Pnd p' lo ∧ st = SSt κ a' p' g') (Q := fun c st => c = (none, ()) ∧ ∃ a' p' g', a'.size = N ∧ Al P a' ∧ Pnd p' lo ∧ st = SSt κ a' p' g') ?_ (fun _ _ z => z) ⟨rfl, a2, p', g', by omega, ha2, hp, rfl⟩) ?_)
        · rintro x c st _ _ ⟨rfl, a', p', g', z, ha', hp, rfl⟩
          refine wpS_bind (wpS_get ?_)
          show wpS _ _ _ _ (match (if p'.size > 1 then p'[p'.size - 2]? else none) with | some (_, _, older) => _ | x => _) _ _
          by_cases e6 : p'.size > 1
          · rw [if_pos e6, Array.getElem?_eq_getElem (show p'.size - 2 < p'.size by omega)]
            dsimp only
            exact w_ite (fun _ => wpS_pure ⟨rfl, a', p', g', z, ha', hp, rfl⟩) fun _ => wpS_bind (sm_mergeAt hc ha' hp (by omega) (show p'.size - 2 + 1 < p'.size by omega) fun a3 p3 g3 z3 ha3 hp3 => wpS_pure ⟨rfl, a3, p3, g3, by omega, ha3, hp3, rfl⟩)
          · rw [if_neg e6]
            exact wpS_pure ⟨rfl, a', p', g', z, ha', hp, rfl⟩
        rintro c st ⟨rfl, a', p', g', z, ha', hp, rfl⟩
        dsimp only
        exact wpS_bind (wpS_modify (wpS_bind (wpS_modify (wpS_pure ⟨lo + f, a', _, g', rfl, by omega, by omega, ha', hp.pow.push f1, rfl⟩))))
  · rintro c st ⟨lo, a', p', g', rfl, hlo, z, ha', hp, rfl⟩
    dsimp only
    refine wpS_bind (wpS_mono (wpS_forRange (I := fun x c st => c = (none, ()) ∧ ∃ a' p' g', a'.size = N ∧ Al P a' ∧ Pnd p' lo ∧ st = SSt κ a' p' g') (Q := fun c st => c = (none, ()) ∧ ∃ a' p' g', a'.size = N ∧ Al P a' ∧ Pnd p' lo ∧ st = SSt κ a' p' g') ?_ (fun _ _ z => z) ⟨rfl, a', p', g', by omega, ha', hp, rfl⟩) ?_)
    · rintro x c st _ _ ⟨rfl, a', p', g', z, ha', hp, rfl⟩
      refine wpS_bind (wpS_get ?_)
      show wpS _ _ _ _ (if p'.size ≤ 1 then _ else _) _ _
      refine w_ite (fun _ => wpS_pure ⟨rfl, a', p', g', z, ha', hp, rfl⟩) fun e => ?_
      refine wpS_bind (sm_mergeAt hc ha' hp (by omega) ?_ fun a3 p3 g3 z3 ha3 hp3 => wpS_pure ⟨rfl, a3, p3, g3, by omega, ha3, hp3, rfl⟩)
      refine ite_low ?_ ?_
      · show p'.size - 2 - 1 + 1 < p'.size
        omega
      · show p'.size - 2 + 1 < p'.size
        omega
    rintro c st ⟨rfl, a', p', g', z, ha', hp, rfl⟩
    exact wpS_pure (h a' p' g' (by omega) ha')
end
end L2

namespace L2
open PySem PySem.Spec PyProof.Rows
noncomputable def RawD (h : Heap) (d : Addr) (es : Array DictEntry) (ep : Nat) : Prop := ∃ o, h.get? d = some o ∧ o.ExactDict ∧ o.data = .dict es ep
theorem RawD.at {h h' : Heap} {d : Addr} {es : Array DictEntry} {ep : Nat} (x : RawD h d es ep) (e : ∀ o, h.get? d = some o → h'.get? d = some o) : RawD h' d es ep := let ⟨o, ho, r⟩ := x; ⟨o, e _ ho, r⟩
theorem RawD.ty {s : Shared} {d : Addr} {es : Array DictEntry} {ep : Nat} (x : RawD s.heap d es ep) : s.TypeIs (.ref d) "dict" := let ⟨o, ho, hc, _⟩ := x; ⟨o, ho, hc.1⟩
theorem RawD.lt {h : Heap} {d : Addr} {es : Array DictEntry} {ep : Nat} (x : RawD h d es ep) : d < h.objs.size := let ⟨_, ho, _⟩ := x; Heap.lt_size ho
noncomputable def kitO (d : Addr) (n ep : Nat) : Obj := { cls := .type "dict_keyiterator", data := .fields #[.ref d, .int 0 0, .int n 0, .int ep 0] }
section
variable {prog : Program} {w : World} {A : Around} {E : Value → Shared → Prop} {s : Shared} {d it : Addr} {es : Array DictEntry} {ep i : Nat}
theorem iter_rd {Q : Value → Shared → Prop} (lo : (d == sysModules) = false) (x : RawD s.heap d es ep) (k : Q (.ref s.heap.objs.size) { s with heap := s.heap.push (kitO d es.size ep) }) : wpAny (model prog w) A (pyIter (.ref d)) Q E s := by
  have ty := x.ty
  obtain ⟨o, g, _, dat⟩ := id x
  refine wpAny_pyIter_slot ty F.slot_dict_iter (wpAny_call_entry F.slot_dict_iter ty F.entry_dict_iter ?_ (F.args_dict_iter_1 _))
  unfold Builtin.«dict.__iter__» Builtin.Dict.dictSlotNone
  refine wpAny_bind (wpAny_bind (wpAny_notOrdered_dict ty (wpAny_of_eq (a := Value.ref d) rfl ?_)))
  show wpAny _ _ (Builtin.Dict.showsAll d >>= fun _ => _) _ _ s
  unfold Builtin.Dict.showsAll
  rw [if_neg (fun z => by rw [lo] at z; cases z)]
  refine wpAny_bind (wpAny_pure (wpAny_bind (wpAny_dictEntries g dat (wpAny_bind (wpAny_dictEpoch g dat ?_)))))
  exact wpAny_bind (wpAny_newObj_type (wpAny_pure ⟨_, rfl, "dict_keyiterator", _, ⟨_, Heap.get?_push_size _ rfl, rfl⟩, F.slot_dict_keyiterator_next.lookup, k⟩))
theorem next_rd {e : DictEntry} {Q : Option Value → Shared → Prop} (hit : s.heap.IsKeyIter it d i es.size ep) (x : RawD s.heap d es ep) (hx : es[i]? = some e)
    (k : ∀ h', h'.IsKeyIter it d (i + 1) es.size ep → Heap.SameBut it s.heap h' → Q (some e.key) { s with heap := h' }) : wpAny (model prog w) A (pyNext (.ref it)) Q E s := by
  have ty := hit.typeIs
  obtain ⟨o, ho, hc, hd⟩ := id hit
  obtain ⟨od, g, _, dat⟩ := id x
  unfold pyNext
  refine wpAny_bind (wpAny_attempt (wpAny_callSpecial?_slot (name := Str.ofString "__next__") ty F.slot_dict_keyiterator_next (wpAny_call_entry F.slot_dict_keyiterator_next ty F.entry_dict_keyiterator_next ?_ (F.args_dict_keyiterator_next_1 _))))
  refine wpAny_bind (wpAny_pure (wpAny_bind (wpAny_bind ?_)))
  first | refine wpAny_bind (wpAny_typeNameOfWhole_keyiter ty (wpAny_pure ?_)) | refine wpAny_bind (wpAny_typeNameOf_keyiter ty (wpAny_pure ?_))
  refine wpAny_bind (wpAny_fieldsOf ho hd ?_)
  simp only [show Builtin.Dict_items.ownsTuple "dict_keyiterator" = false by decide, Bool.false_eq_true, if_false]
  show wpAny _ _ (if (Value.ref d == Value.none) = true then _ else _) _ _ s
  rw [if_neg (fun z => by cases z)]
  refine wpAny_bind (wpAny_pure (wpAny_bind (wpAny_dictEntries g dat ?_)))
  rw [if_neg (fun z => by simp at z)]
  refine wpAny_bind (wpAny_pure (wpAny_bind (wpAny_dictEpoch g dat ?_)))
  rw [if_neg (fun z => by simp at z)]
  refine wpAny_pure ?_
  simp only [show ¬ ((i : Int) < 0) from by omega, if_false, Int.toNat_natCast, hx]
  refine wpAny_bind ?_
  first | refine wpAny_bind (wpAny_typeNameOfWhole_keyiter ty (wpAny_pure ?_)) | refine wpAny_bind (wpAny_typeNameOf_keyiter ty (wpAny_pure ?_))
  refine wpAny_bind (wpAny_isOneOf_keyiter ty ?_)
  show wpAny _ _ (setField (.ref it) 1 (rawInt ((i : Int) + 1)) >>= fun _ => _) _ _ s
  refine wpAny_bind (wpAny_setField ho hd (by simp) ?_)
  have nx : (s.heap.update it (Obj.mapFields (·.setIfInBounds 1 (rawInt ((i : Int) + 1))))).IsKeyIter it d (i + 1) es.size ep := by
    refine ⟨_, Heap.get?_update_self _ ho (Obj.isFreed_of_fields (Obj.data_mapFields hd _)), (Obj.cls_mapFields ..).trans hc, ?_⟩
    rw [Obj.data_mapFields hd]; simp [rawInt]
  refine wpAny_bind (wpAny_holding (wpAny_bind (wpAny_isOneOf_keyiter (s := { s with heap := s.heap.update it (Obj.mapFields (·.setIfInBounds 1 (rawInt ((i : Int) + 1)))) }) nx.typeIs ?_)))
  show wpAny _ _ (pure e.key) _ _ _
  exact wpAny_pure (wpAny_pure ⟨_, rfl, wpAny_pure (k _ nx (Heap.SameBut.update ..))⟩)
theorem stop_rd {Q : Option Value → Shared → Prop} (hh : A.handled = none) (hit : s.heap.IsKeyIter it d i es.size ep) (x : RawD s.heap d es ep) (hx : es.size ≤ i) (k : ∀ h', Heap.ExtBut it s.heap h' → Q none { s with heap := h' }) : wpAny (model prog w) A (pyNext (.ref it)) Q E s := by
  have ty := hit.typeIs
  obtain ⟨o, ho, hc, hd⟩ := id hit
  obtain ⟨od, g, _, dat⟩ := id x
  unfold pyNext
  refine wpAny_bind (wpAny_attempt (wpAny_callSpecial?_slot (name := Str.ofString "__next__") ty F.slot_dict_keyiterator_next (wpAny_call_entry F.slot_dict_keyiterator_next ty F.entry_dict_keyiterator_next ?_ (F.args_dict_keyiterator_next_1 _))))
  refine wpAny_bind (wpAny_pure (wpAny_bind (wpAny_bind ?_)))
  first | refine wpAny_bind (wpAny_typeNameOfWhole_keyiter ty (wpAny_pure ?_)) | refine wpAny_bind (wpAny_typeNameOf_keyiter ty (wpAny_pure ?_))
  refine wpAny_bind (wpAny_fieldsOf ho hd ?_)
  simp only [show Builtin.Dict_items.ownsTuple "dict_keyiterator" = false by decide, Bool.false_eq_true, if_false]
  show wpAny _ _ (if (Value.ref d == Value.none) = true then _ else _) _ _ s
  rw [if_neg (fun z => by cases z)]
  refine wpAny_bind (wpAny_pure (wpAny_bind (wpAny_dictEntries g dat ?_)))
  rw [if_neg (fun z => by simp at z)]
  refine wpAny_bind (wpAny_pure (wpAny_bind (wpAny_dictEpoch g dat ?_)))
  rw [if_neg (fun z => by simp at z)]
  refine wpAny_pure ?_
  simp only [show ¬ ((i : Int) < 0) from by omega, if_false, Int.toNat_natCast, Array.getElem?_eq_none hx]
  refine wpAny_bind ?_
  first | refine wpAny_bind (wpAny_typeNameOfWhole_keyiter ty (wpAny_pure ?_)) | refine wpAny_bind (wpAny_typeNameOf_keyiter ty (wpAny_pure ?_))
  show wpAny _ _ (setField (.ref it) 0 .none >>= fun _ => _) _ _ s
  refine wpAny_bind (wpAny_setField ho hd (by simp) ?_)
  show wpAny _ _ (newExc (.type "StopIteration") [] >>= fun _ => _) _ _ _
  refine wpAny_bind ?_
  simp only [newExc, newTuple]
  refine wpAny_bind (wpAny_newObj_type ?_ (by size_fits))
  refine wpAny_bind (m := firstArgMember _ _) (wpAny_of_eq (a := Value.none) (by first | rfl | (simp only [firstArgMember]; rfl)) (wpAny_newObj_type ?_ (by size_fits)))
  simp only [raiseNew]
  refine wpAny_bind (wpAny_handled ?_)
  rw [show A.in1.handled = none from hh]
  refine wpAny_bind (wpAny_pure (wpAny_throw ?_))
  exact wpAny_bind (wpAny_isInstance (T := "StopIteration") (b := true) ⟨_, Heap.get?_push_size _ rfl, rfl⟩ isSubtype_stop (wpAny_pure (k _ (((Heap.SameBut.update ..).extBut.push _).push _))))
theorem walks_rd (hh : A.handled = none) (I d : Addr) (ne : d ≠ I) (es : Array DictEntry) (ep : Nat) :
    Walks prog w A I [I, d] [I] es.size (fun i v => ∃ e, es[i]? = some e ∧ v = e.key) (fun i h => h.IsKeyIter I d i es.size ep ∧ RawD h d es ep) where
  sub := fun b hb => by simp at hb; simp [hb]
  frame := fun _ _ _ st hk => ⟨st.1.at fun o e => hk I (by simp) o e, st.2.at fun o e => hk d (by simp) o e⟩
  item := fun i s Q E hi st k => next_rd st.1 st.2 (Array.getElem?_eq_getElem hi) fun h' nx sb => k _ h' s.toks ⟨_, Array.getElem?_eq_getElem hi, rfl⟩ ⟨nx, st.2.at fun o e => sb.extBut d o ne e⟩ fun b o hb e => sb.extBut b o (fun z => hb (by simp [z])) e
  done := fun s Q E st k => stop_rd hh st.1 st.2 (Nat.le_refl _) fun h' he => k h' s.toks fun b o hb e => he b o (fun z => hb (by simp [z])) e
  self := fun _ _ _ _ st k => wpAny_pyIter_keyiter st.1 k
theorem src_rd (lo : (d == sysModules) = false) : PySem.W.KdlSrc prog w "dict" d d es.size (fun i v => ∃ e, es[i]? = some e ∧ v = e.key) (fun h => RawD h d es ep) where
  type := fun _ y => y.ty
  there := fun _ y => ⟨y.lt, y.lt⟩
  keep := fun _ _ y hk => y.at fun o e => hk d (.inl rfl) o e
  notList := by decide
  notTuple := by decide
  hint := fun _ _ _ _ y q => PySem.W.kdl_hint_dict y.ty q
  iter := fun _ s2 h2 y => ⟨_, _, fun _ _ q => iter_rd lo y q, walks_rd h2 _ d (Nat.ne_of_lt y.lt) es ep, ⟨⟨_, Heap.get?_push_size _ rfl, rfl, rfl⟩, y.at fun o e => Heap.get?_push_of_some _ e⟩⟩
theorem iadd_rd {R : Result → Shared → Prop} {S : Addr} {c₀ : Nat} (hh : A.handled = none) (lo : (d == sysModules) = false) (x : RawD s.heap d es ep) (hz : es.size ≤ sizeLine) (hj : S ≠ d) (hS : s.heap.get? S = some { cls := .type "list", data := .seq #[] c₀ })
    (fin : ∀ h' tk acc c1, (∀ b o, b ≠ S → s.heap.get? b = some o → h'.get? b = some o) → h'.get? S = some { cls := .type "list", dict := none, data := .seq acc c1, slots := #[] } → ItemsOf (fun i v => ∃ e, es[i]? = some e ∧ v = e.key) acc es.size → R (.ok (.ret (.ref S))) { s with heap := h', toks := tk }) :
    codeAny (model prog w) A (.builtin "list.__iadd__" ⟨[.ref S, .ref d], []⟩) R s := by
  refine codeAny_builtin F.entry_list_iadd ?_
  rw [Around.under_plainId F.plain_list_iadd _]
  exact PySem.W.kdl_extend (src_rd lo) hh x S hj hj (.ref S) c₀ hS fin hz
theorem collect_rd {Q : List Value → Shared → Prop} (hh : A.handled = none) (lo : (d == sysModules) = false) (x : RawD s.heap d es ep) (hz : es.size ≤ sizeLine)
    (k : ∀ h' tk, (∀ b o, s.heap.get? b = some o → h'.get? b = some o) → Q (es.toList.map (·.key)) { s with heap := h', toks := tk }) : wpAny (model prog w) A (collect (.ref d)) Q E s := by
  unfold collect
  refine wpAny_bind (wpAny_runValue (codeAny_builtin F.entry_proto_collect ?_)); rw [Around.under_plainId F.plain_proto_collect _]
  show wpAny _ A.in1 (newList [] >>= fun S => again (.builtin "list.__iadd__" ⟨[S, .ref d], []⟩)) _ _ s
  have up : ∀ b o, s.heap.get? b = some o → (s.heap.push { cls := .type "list", data := .seq ([] : List Value).toArray }).get? b = some o := fun b o e => Heap.get?_push_of_some _ e
  have gS : (s.heap.push { cls := .type "list", data := .seq ([] : List Value).toArray }).get? s.heap.objs.size = some { cls := .type "list", data := .seq #[] } := Heap.get?_push_size _ rfl
  refine wpAny_bind (wpAny_newObj_type (wpAny_pure ⟨plainId_quiet F.plain_list_iadd _, iadd_rd (s := { s with heap := s.heap.push { cls := .type "list", data := .seq ([] : List Value).toArray } }) hh lo (x.at fun o e => up d o e) hz (Nat.ne_of_lt x.lt).symm gS fun h' tk acc c' hk hS hacc => ?_⟩))
  show wpAny _ A (load s.heap.objs.size >>= fun _ => _) _ _ _
  have ea : acc.toList = es.toList.map (·.key) := by
    refine List.ext_getElem? fun i => ?_
    rw [List.getElem?_map, Array.getElem?_toList, Array.getElem?_toList]
    by_cases hi : i < es.size
    · have hv : acc[i]? = some (acc[i]'(by rw [hacc.1]; exact hi)) := Array.getElem?_eq_getElem _
      obtain ⟨e, e1, e2⟩ := hacc.2 i _ hv
      rw [hv, e1, e2]; rfl
    · rw [Array.getElem?_eq_none (by rw [hacc.1]; omega), Array.getElem?_eq_none (by omega)]; rfl
  refine wpAny_bind (wpAny_load hS (wpAny_pure ?_))
  show Q acc.toList _
  rw [ea]
  exact k h' tk fun b o e => hk b o (Nat.ne_of_lt (Heap.lt_size e)) (up b o e)
end
end L2

namespace L2
open PySem PySem.Spec PyProof.Rows
section
variable {prog : Program} {w : World} {A : Around} {E : Value → Shared → Prop} {s : Shared}
theorem lex_any {us : List Value} {ns : List Int} (h1 : IntsAre us ns) : ∀ {vs : List Value} {ms : List Int}, IntsAre vs ms → ∀ (fin : Bool) (i : Nat), ∃ b : Bool, ∀ Q : Bool → Shared → Prop, Q b s → PySem.W.KatLex prog w A true fin Q (us.zip vs) i s := by
  induction h1 with
  | nil => intro vs ms _ fin i; exact ⟨fin, fun Q q => q⟩
  | cons a t h ih =>
    intro vs ms h2 fin i
    cases h2 with
    | nil => exact ⟨fin, fun Q q => q⟩
    | cons c u h2 =>
      obtain ⟨e, he, _⟩ := HT.eqAt_int A s a t c u
      cases e with
      | true =>
        obtain ⟨b, hb⟩ := ih h2 fin (i + 1)
        exact ⟨b, fun Q q => PySem.W.kat_cons (he _ _ _ _ (PySem.W.kat_yes (hb Q q)))⟩
      | false =>
        refine ⟨decide (a < c), fun Q q => PySem.W.kat_cons (he _ _ _ _ (PySem.W.kat_no ?_))⟩
        cases i with
        | zero => exact oneLt_int q
        | succ i => exact PySem.W.kat_one _ _ (wpAny_lt_int q)
noncomputable def TupI (h : Heap) (v : Value) : Prop := ∃ (a : Addr) (us : List Value) (n : Int) (ns : List Int), v = .ref a ∧ IsTup h a us.toArray ∧ IntsAre us (n :: ns)
theorem cmps_tup {vs : List Value} (hv : ∀ v ∈ vs, TupI s.heap v) : Cmps prog w A s (tuples' true) (fun x => x.1 ∈ vs ∧ x.2 = x.1) := by
  rintro ⟨x, x2⟩ ⟨y, y2⟩ ⟨hx, _⟩ ⟨hy, _⟩
  obtain ⟨a, us, n, ns, rfl, ⟨o, g, _, k, d⟩, i1⟩ := hv x hx
  obtain ⟨a', us', n', ns', rfl, ⟨o', g', _, k', d'⟩, i2⟩ := hv y hy
  obtain ⟨b, hb⟩ := lex_any (prog := prog) (w := w) (A := A) (s := s) i1 i2 (decide (us.toArray.size < us'.toArray.size)) 0
  exact ⟨b, fun C E q => PySem.W.kat_lt g d g' d' (hb C q)⟩
theorem firsts_tup : ∀ (vs : List Value), (∀ v ∈ vs, TupI s.heap v) → ∃ fs, PySem.W.KatTups s.heap vs fs ∧ fs.length = vs.length ∧ ∀ v ∈ fs, ∃ n t, v = Value.int n t
  | [], _ => ⟨[], trivial, rfl, fun v hv => nomatch hv⟩
  | v :: vs, h => by
    obtain ⟨fs, k1, k2, k3⟩ := firsts_tup vs fun v hv => h v (.tail _ hv)
    obtain ⟨a, us, n, ns, rfl, ⟨o, g, c, k, d⟩, i⟩ := h v (.head _)
    cases i with
    | cons n t i =>
      refine ⟨.int n t :: fs, .cons g c d (by simp) k1, by rw [List.length_cons, List.length_cons, k2], fun v hv => ?_⟩
      rcases List.mem_cons.mp hv with rfl | hv
      · exact ⟨_, _, rfl⟩
      · exact k3 v hv
theorem sort_many {a : Addr} {vs : List Value} {n : Nat} {P : PySem.Fin → Shared → Prop} (ho : s.heap.get? a = some (seqObj "list" vs.toArray n)) (h2 : 2 ≤ vs.length) (hz : vs.length ≤ sizeLine) (hv : ∀ v ∈ vs, TupI s.heap v)
    (h : ∀ out : List Value, out.length = vs.length → (∀ v ∈ out, v ∈ vs) → ∀ h' c, h'.get? a = some (seqObj "list" out.toArray c) → (∀ b o, b ≠ a → s.heap.get? b = some o → h'.get? b = some o) → P (.done (.ret .none)) { s with heap := h' }) :
    wpAny (model prog w) A (Builtin.«list.sort» ⟨[.ref a], []⟩) P E s := by
  rw [list_sort_plain]
  have ha : a < s.heap.objs.size := Heap.lt_size ho
  refine wpAny_bind (listItems_at ho rfl (wpAny_bind (listUpdate_at ho rfl ?_ (by rw [List.size_toArray]; exact hz) (Nat.zero_le _))))
  obtain ⟨e1, ho1⟩ : ∃ e1, (s.heap.update a (Obj.mapSeq fun _ => (#[] : Array Value))).get? a = some (seqObj "list" #[] e1) := ⟨_, get?_update_seq ho fun _ => #[]⟩
  refine wpAny_bind (seqEpoch_at ho1 rfl (wpAny_bind (wpAny_newTuple ?_ (by show vs.length ≤ _; exact hz))))
  refine wpAny_bind (wpAny_newList ?_ (Nat.zero_le _))
  refine wpAny_holding ?_
  have up : ∀ b o, (s.heap.update a (Obj.mapSeq fun _ => (#[] : Array Value))).get? b = some o → (((s.heap.update a (Obj.mapSeq fun _ => (#[] : Array Value))).push (seqObj "tuple" vs.toArray 0)).push (seqObj "list" #[] 0)).get? b = some o := fun b o e => Heap.get?_push_of_some _ (Heap.get?_push_of_some _ e)
  have keep : ∀ b o, b ≠ a → s.heap.get? b = some o → (((s.heap.update a (Obj.mapSeq fun _ => (#[] : Array Value))).push (seqObj "tuple" vs.toArray 0)).push (seqObj "list" #[] 0)).get? b = some o := fun b o nb e => up b o (by rw [Heap.get?_update_ne _ _ _ _ nb]; exact e)
  have ho6 := up a _ ho1
  show wpAny (model prog w) A _ P E { s with heap := ((s.heap.update a (Obj.mapSeq fun _ => (#[] : Array Value))).push (seqObj "tuple" vs.toArray 0)).push (seqObj "list" #[] 0) }
  generalize ((s.heap.update a (Obj.mapSeq fun _ => (#[] : Array Value))).push (seqObj "tuple" vs.toArray 0)).push (seqObj "list" #[] 0) = h1 at *
  dsimp only
  have n2 : ¬ vs.toArray.size < 2 := by rw [List.size_toArray]; omega
  rw [if_neg n2, if_neg n2]
  have hv1 : ∀ v ∈ vs, TupI h1 v := fun v m => by
    obtain ⟨b, us, n, ns, rfl, ⟨o, g, c, k, d⟩, i⟩ := hv v m
    refine ⟨b, us, n, ns, rfl, ⟨o, keep b o (fun z => ?_) g, c, k, d⟩, i⟩
    subst z
    rw [g] at ho; cases ho
    have c : Value.type "list" = Value.type "tuple" := c
    exact absurd c (by decide)
  obtain ⟨fs, f1, f2, f3⟩ := firsts_tup (s := { s with heap := h1 }) vs hv1
  refine wpAny_bind (PySem.W.kat_kind (s := { s with heap := h1 }) (fs := fs) (T := .type "int") f1 (by omega) (fun v hv => ?_) rfl ?_)
  · obtain ⟨n, t, rfl⟩ := f3 v hv
    exact .now
  show wpAny _ _ _ _ _ _
  have et : (Value.type "int" != Value.type "tuple") = true := by decide
  rw [et]
  have al : Al (fun x : Keyed => x.1 ∈ vs ∧ x.2 = x.1) (vs.toArray.zip vs.toArray) := fun x hx => by
    have hx : x ∈ vs.zip vs := by simpa using Array.mem_def.mp hx
    obtain ⟨i, hi, e⟩ := List.getElem_of_mem hx
    rw [List.getElem_zip] at e
    subst e
    exact ⟨List.getElem_mem _, rfl⟩
  refine wpAny_bind (wpAny_mono (sm_runs (E := E) (s := { s with heap := h1 }) (Q := fun _ st' => ∃ a' p' g', a'.size = vs.length ∧ Al (fun x : Keyed => x.1 ∈ vs ∧ x.2 = x.1) a' ∧ st' = SSt (tuples' true) a' p' g') (cmps_tup hv1) al (g := 7) fun a' p' g' z ha' => ⟨a', p', g', by rw [z]; simp, ha', rfl⟩) ?_ fun _ _ e => e)
  rintro ⟨⟨⟩, st'⟩ s' ⟨rfl, a', p', g', z, ha', rfl⟩
  dsimp only
  have hsz : (a'.map (·.2)).size ≤ sizeLine := by rw [Array.size_map, z]; exact hz
  refine wpAny_bind (seqEpoch_at ho6 rfl (wpAny_bind (listUpdate_at ho6 rfl ?_ (Nat.zero_le _) (Nat.le_succ_of_le hsz))))
  simp only [bne_self_eq_false, Bool.false_eq_true, if_false]
  have ex : (a'.map (·.2)) = (a'.map (·.2)).toList.toArray := by rw [Array.toArray_toList]
  obtain ⟨c2, hc2⟩ : ∃ c2, (h1.update a (Obj.mapSeq fun _ => a'.map (·.2))).get? a = some (seqObj "list" (a'.map (·.2)) c2) := ⟨_, get?_update_seq ho6 fun _ => a'.map (·.2)⟩
  refine wpAny_pure (h (a'.map (·.2)).toList (by rw [Array.length_toList, Array.size_map]; exact z) (fun v hv => ?_) _ c2 (by rw [Array.toArray_toList]; exact hc2) fun b o nb e => ?_)
  · obtain ⟨x, hx, rfl⟩ := List.mem_map.mp (by simpa using hv : v ∈ a'.toList.map (·.2))
    obtain ⟨m1, m2⟩ := ha' x (Array.mem_def.mpr hx)
    rw [m2]; exact m1
  · rw [Heap.get?_update_ne _ _ _ _ nb]; exact keep b o nb e
theorem sorted_rd {d : Addr} {es : Array DictEntry} {ep : Nat} {Q : Value → Shared → Prop} (hh : A.handled = none) (lo : (d == sysModules) = false) (x : RawD s.heap d es ep) (h2 : 2 ≤ es.size) (hz : es.size ≤ sizeLine) (hv : ∀ e ∈ es.toList, TupI s.heap e.key)
    (h : ∀ (out : List Value) h' tk p c, out.length = es.size → (∀ v ∈ out, ∃ e ∈ es.toList, v = e.key) → (∀ b o, s.heap.get? b = some o → h'.get? b = some o) → s.heap.get? p = none → h'.get? p = some (seqObj "list" out.toArray c) → Q (.ref p) { s with heap := h', toks := tk }) :
    wpAny (model prog w) A (call (.builtin "sorted") [.ref d]) Q E s := by
  refine Calls.call_function_entry kind_sorted plain_sorted entry_sorted (args_sorted1 _) ?_
  unfold Builtin.«sorted»
  refine wpAny_bind (m := checkCount "sorted" 1 1 _) (wpAny_pure (wpAny_bind (collect_rd (A := A.in1) hh lo x hz fun h1 tk k1 => ?_)))
  have len : (es.toList.map (·.key)).length = es.size := by rw [List.length_map, Array.length_toList]
  refine wpAny_bind (wpAny_newList ?_ (by rw [len]; exact hz))
  have at1 : (h1.push (seqObj "list" (es.toList.map (·.key)).toArray 0)).get? h1.objs.size = some (seqObj "list" (es.toList.map (·.key)).toArray 0) := Heap.get?_push_size _ rfl
  have up : ∀ b o, s.heap.get? b = some o → b ≠ h1.objs.size ∧ (h1.push (seqObj "list" (es.toList.map (·.key)).toArray 0)).get? b = some o := fun b o e => ⟨Nat.ne_of_lt (Heap.lt_size (k1 b o e)), Heap.get?_push_of_some _ (k1 b o e)⟩
  show wpAny _ _ _ _ _ { s with heap := h1.push (seqObj "list" (es.toList.map (·.key)).toArray 0), toks := tk }
  generalize h1.objs.size = p at *
  generalize h1.push (seqObj "list" (es.toList.map (·.key)).toArray 0) = h3 at *
  refine wpAny_bind (wpAny_holding (wpAny_call_entry (s := { s with heap := h3, toks := tk }) slot_list_sort ⟨_, at1, rfl⟩ entry_list_sort (sort_many (s := { s with heap := h3, toks := tk }) at1 (by omega) (by omega) (fun v hv' => ?_) fun out o1 o2 h' c g1 g2 => ⟨_, rfl, ?_⟩) (args_list_sort _)))
  · obtain ⟨e, he, rfl⟩ := List.mem_map.mp hv'
    obtain ⟨b, us, n, ns, q, ⟨o, g, r⟩, i⟩ := hv e he
    exact ⟨b, us, n, ns, q, ⟨o, (up b o g).2, r⟩, i⟩
  · refine wpAny_pure ⟨_, rfl, h out h' tk p c (by omega) (fun v hv => ?_) (fun b o e => g2 b o (up b o e).1 (up b o e).2) ?_ g1⟩
    · obtain ⟨e, he, q⟩ := List.mem_map.mp (o2 v hv)
      exact ⟨e, he, q.symm⟩
    · cases e : s.heap.get? p with
      | none => rfl
      | some o => exact absurd rfl (up p o e).1
end
end L2

namespace L2
open PySem PySem.Spec PyProof.Rows
noncomputable abbrev PKey := List Int × List Int
noncomputable def thT (k : PKey) : Int := reduceHash (Builtin.Tuple.tupleHashOf (k.1.map hashInt))
noncomputable def tupKd (prog : Program) (w : World) : HeapKind prog w PKey where
  is := fun h k a => k.2 = [] ∧ (tupleKind (intKind prog w)).is h k.1 a
  hash := thT
  draws := fun k => k.1.length + 1
  room := fun A => A.units < cLine
  inj := fun {h a x y} hx hy => Prod.ext ((tupleKind (intKind prog w)).inj hx.2 hy.2) (hx.1.trans hy.1.symm)
  keeps := fun x ho hd hs => ⟨x.1, (tupleKind (intKind prog w)).keeps x.2 ho hd hs⟩
  pyHash := fun hu hk h => (tupleKind (intKind prog w)).pyHash hu hk.2 h
  eqBool := fun {A E s x y a b Q} hu hx hy h => (tupleKind (intKind prog w)).eqBool hu hx.2 hy.2 (by
    have e : decide (x.1 = y.1) = decide (x = y) := by
      by_cases c : x.1 = y.1
      · rw [decide_eq_true c, decide_eq_true (Prod.ext c (hx.1.trans hy.1.symm))]
      · rw [decide_eq_false c, decide_eq_false fun z => c (congrArg Prod.fst z)]
    rw [e]; exact h)
  quiet := fun hk h => (tupleKind (intKind prog w)).quiet hk.2 h
section
variable {X : Cx} {pins : List (Addr × Obj)} {σ : St} {H : Hp} {s : Shared} {a : Addr} {k : PKey}
theorem Inv.bigD (I : Inv X pins σ H s) : sysModules < s.heap.objs.size := Nat.lt_trans (show sysModules < mainGlobals by decide) (I.mod.glob.keeps I.bk).lt
noncomputable def PaK (K : PySem.W.Frag) (H : Hp) (k : PKey) (a : Addr) : Prop := k.2 = [] ∧ SqT K H a (k.1.map V.int)
theorem PaK.is (I : Inv X pins σ H s) (h : PaK X.K H k a) : (tupKd X.prog X.w).is s.heap k a := by
  obtain ⟨us, r, ⟨o, e1, e2, n, e3⟩, _⟩ := I.tuple h.2
  refine ⟨h.1, o, us.toArray, n, e1, e2, e3, ?_⟩
  have : ∀ {us : List Value} {ns : List Int}, IntsAre us ns → ItemsAre (intKind X.prog X.w) ns us := fun {us ns} i => by
    induction i with
    | nil => exact .nil
    | cons a t h ih => exact .cons (by simp [intKind, Value.isInt]) ih
  simpa using this (intsAre_of r)
theorem PaK.tup (I : Inv X pins σ H s) (h : PaK X.K H k a) (hk : k.1 ≠ []) : TupI s.heap (.ref a) := by
  obtain ⟨us, r, p, _⟩ := I.tuple h.2
  have i := intsAre_of r
  cases e : k.1 with
  | nil => exact absurd e hk
  | cons n ns => rw [e] at i; exact ⟨a, us, n, ns, rfl, p, i⟩
noncomputable abbrev KX : List (PKey × Addr × V) → List (PKey × Addr × Value) → Prop := Paired fun p q => p.1 = q.1 ∧ p.2.1 = q.2.1 ∧ RelV p.2.2 q.2.2
theorem KX.all {kvs : List (PKey × Addr × V)} {xs : List (PKey × Addr × Value)} (r : KX kvs xs) {F : PKey → Addr → Prop} (h : ∀ x ∈ kvs, F x.1 x.2.1) : ∀ x ∈ xs, F x.1 x.2.1 := by
  induction r with
  | nil => intro x hx; cases hx
  | cons p t ih =>
    intro x hx
    rcases List.mem_cons.mp hx with rfl | hx
    · have := h _ (.head _)
      rw [p.1, p.2.1] at this; exact this
    · exact ih (fun y hy => h y (.tail _ hy)) x hx
theorem KX.len {kvs : List (PKey × Addr × V)} {xs : List (PKey × Addr × Value)} (r : KX kvs xs) : kvs.length = xs.length := by
  induction r with
  | nil => rfl
  | cons _ _ ih => rw [List.length_cons, List.length_cons, ih]
theorem KX.any {kvs : List (PKey × Addr × V)} {xs : List (PKey × Addr × Value)} (r : KX kvs xs) (k : PKey) : (kvs.any fun x => decide (x.1 = k)) = (atKey xs k).isSome := by
  induction r with
  | nil => rfl
  | @cons p q ps qs h t ih =>
    rw [List.any_cons, ih]
    unfold atKey
    rw [List.find?_cons, h.1]
    by_cases e : q.1 = k
    · rw [decide_eq_true e]; rfl
    · rw [decide_eq_false e, Bool.false_or]
noncomputable def putX (kvs : List (PKey × Addr × V)) (k : PKey) (a : Addr) (v : V) : List (PKey × Addr × V) := if (kvs.any fun x => decide (x.1 = k)) = true then kvs.map (fun x => if x.1 = k then (x.1, x.2.1, v) else x) else kvs ++ [(k, a, v)]
theorem KX.put {kvs : List (PKey × Addr × V)} {xs : List (PKey × Addr × Value)} (r : KX kvs xs) (k : PKey) {b : Addr} {y : V} {u : Value} (ry : RelV y u) : KX (putX kvs k b y) (storedH xs k b u) := by
  unfold putX storedH
  rw [r.any k]
  by_cases q : (atKey xs k).isSome = true
  · rw [if_pos q, if_pos q]
    clear q
    induction r with
    | nil => exact .nil
    | @cons p q ps qs h t ih =>
      refine .cons ?_ ih
      unfold putAt
      by_cases e : p.1 = k
      · simp only [if_pos e, if_pos (h.1.symm.trans e)]; exact ⟨h.1, h.2.1, ry⟩
      · simp only [if_neg e, if_neg (fun z => e (h.1.trans z))]; exact h
  · rw [if_neg q, if_neg q]
    clear q
    induction r with
    | nil => exact .cons ⟨rfl, rfl, ry⟩ .nil
    | cons h t ih => exact .cons h ih
theorem putX_len (kvs : List (PKey × Addr × V)) (k : PKey) (a : Addr) (v : V) : (putX kvs k a v).length ≤ kvs.length + 1 := by
  unfold putX
  split
  · rw [List.length_map]; omega
  · rw [List.length_append, List.length_singleton]; exact Nat.le_refl _
theorem KX.fnd {kvs : List (PKey × Addr × V)} {xs : List (PKey × Addr × Value)} (r : KX kvs xs) {k : PKey} {b : Addr} {v : V} (h : (kvs.find? fun x => decide (x.1 = k)) = some (k, b, v)) : ∃ p, atKey xs k = some p ∧ RelV v p.2 := by
  induction r with
  | nil => cases h
  | @cons p q ps qs hp t ih =>
    unfold atKey
    rw [List.find?_cons] at h ⊢
    by_cases e : p.1 = k
    · rw [decide_eq_true e] at h
      rw [decide_eq_true (hp.1.symm.trans e)]
      obtain rfl := Option.some.inj h
      exact ⟨_, rfl, hp.2.2⟩
    · rw [decide_eq_false e] at h
      rw [decide_eq_false fun z => e (hp.1.trans z)]
      exact ih h
theorem KX.mem {kvs : List (PKey × Addr × V)} {xs : List (PKey × Addr × Value)} (r : KX kvs xs) : ∀ y ∈ xs, ∃ x ∈ kvs, x.2.1 = y.2.1 := by
  induction r with
  | nil => intro y hy; cases hy
  | cons h t ih =>
    intro y hy
    rcases List.mem_cons.mp hy with rfl | hy
    · exact ⟨_, .head _, h.2.1⟩
    · obtain ⟨x, hx, e⟩ := ih y hy
      exact ⟨x, .tail _ hx, e⟩
theorem KX.at {kvs : List (PKey × Addr × V)} {xs : List (PKey × Addr × Value)} (r : KX kvs xs) : ∀ {i : Nat} {k : PKey} {b : Addr} {v : V}, kvs[i]? = some (k, b, v) → ∃ x, xs[i]? = some x ∧ x.2.1 = b := by
  induction r with
  | nil => intro i k b v h; simp at h
  | cons h t ih =>
    intro i k b v hi
    cases i with
    | zero =>
      obtain rfl := Option.some.inj hi
      exact ⟨_, rfl, h.2.1.symm⟩
    | succ i => exact ih hi
theorem dt_at (I : Inv X pins σ H s) {ep : Option Nat} {kvs : List (PKey × Addr × V)} (e : H a = some (.dT (thT, ep) kvs)) (hk : ∀ x ∈ kvs, PaK X.K H x.1 x.2.1) : kvs.length ≤ sizeLine ∧ (a == sysModules) = false ∧ ∃ xs, KX kvs xs ∧ s.heap.DictOfH (tupKd X.prog X.w) a xs := by
  obtain ⟨z, y, xs, r, o, es, ep, h1, h2, h3, h4, h5, _⟩ := (show ObjOk X.prog X.w H s.heap a (.dT (thT, ep) kvs) from I.hok a _ e)
  exact ⟨z, y, xs, r, o, es, ep, h1, h2, h3, h4, KX.all r fun x hx => (hk x hx).is I, h5⟩
theorem room_in {A : Around} {prog : Program} {w : World} (hu : A.units + 64 < cLine) : (tupKd prog w).room A.in1 := by show A.units + 1 < cLine; omega
theorem op_notD (hu : X.A.units + 64 < cLine) : OpR X (compareOp .NotIn) (fun x y H Q => ∃ (a p : Addr) (ep : Option Nat) (kvs : List (PKey × Addr × V)) (k : PKey), x = .ref a ∧ y = .ref p ∧ H p = some (.dT (thT, ep) kvs) ∧ (∀ x ∈ kvs, PaK X.K H x.1 x.2.1) ∧ PaK X.K H k a ∧ Q (.bl (!(kvs.any fun x => decide (x.1 = k)))) H) := by
  intro pins s σ H x y v u Q I rx ry h
  obtain ⟨a, p, ep, kvs, k, rfl, rfl, e, hk, ka, q⟩ := h
  cases rx
  cases ry
  obtain ⟨_, hd, xs, rel, dd⟩ := dt_at I e hk
  refine wpAny_notIn_heap (room_in hu) (ka.is I) hd dd ?_
  rw [← rel.any k]
  exact ⟨.bl _, H, I.kept (t' := _) fun _ _ z => z, rfl, q⟩
theorem ix_dic (hu : X.A.units + 64 < cLine) : IxR X (fun x y H Q => ∃ (p a : Addr) (ep : Option Nat) (kvs : List (PKey × Addr × V)) (k : PKey) (b : Addr) (v : V), x = .ref p ∧ y = .ref a ∧ H p = some (.dT (thT, ep) kvs) ∧ (∀ x ∈ kvs, PaK X.K H x.1 x.2.1) ∧ PaK X.K H k a ∧ (kvs.find? fun x => decide (x.1 = k)) = some (k, b, v) ∧ Q v H) := by
  intro value slice pins s σ H x y v u Q I rx ry h hs
  obtain ⟨p, a, ep, kvs, k, b, z, rfl, rfl, e, hk, ka, hf, q⟩ := h
  cases rx
  cases ry
  obtain ⟨_, hd, xs, rel, dd⟩ := dt_at I e hk
  obtain ⟨w, hw, rw'⟩ := KX.fnd rel hf
  unfold subscriptTail
  refine wpAny_bind ?_
  rw [getitemInPython_of_ne dd.typeIs.not_modules]
  refine wpAny_bind (wpAny_specialOf dd.typeIs PySem.F.slot_dict_getitem.lookup ?_)
  have fin : wpAny (model X.prog X.w) X.A (subscripted slice false (.ref p) (.ref a)) (fun r s₃ => wpAny (model X.prog X.w) X.A (letTemporaryGo value (.ref p) r >>= fun _ => pure r) (EP X pins σ Q) X.xe s₃) X.xe s := by
    rw [hs]
    exact wpAny_operating (wpAny_getItem_heap (room_in hu) (ka.is I) dd hw (wpAny_bind (wpAny_letTemporaryGo (wpAny_pure ⟨z, H, I.kept (t' := _) fun _ _ z => z, rw', q⟩))))
  first
    | exact wpAny_pure (wpAny_bind fin)
    | exact wpAny_bind (wpAny_pure (wpAny_bind fin))
    | exact wpAny_bind fin
theorem set_dic (hu : X.A.units + 64 < cLine) : PSet X (fun o i v H Q => ∃ (p a : Addr) (kvs : List (PKey × Addr × V)) (k : PKey), o = .ref p ∧ i = .ref a ∧ H p = some (.dT (thT, none) kvs) ∧ (∀ x ∈ kvs, PaK X.K H x.1 x.2.1) ∧ PaK X.K H k a ∧ kvs.length < sizeLine ∧ Q (upd H p (.dT (thT, none) (putX kvs k a v)))) := by
  intro pins s σ H o i v ov iv u Q I ro ri rv h
  obtain ⟨p, a, kvs, k, rfl, rfl, e, hk, ka, hl, q⟩ := h
  cases ro
  cases ri
  obtain ⟨z, hd, xs, rel, dd⟩ := dt_at I e hk
  refine wpAny_setItem_heap (hsz := by rw [← rel.len]; exact z) (room_in hu) (ka.is I) dd fun h' dd' hs => ⟨_, ?_, q⟩
  obtain ⟨qo, es, ep, hq, h2, h3, h4, _, h5⟩ := dd'
  exact I.write (x := p) (e := p) (by rw [e]; exact True.intro) (.inl rfl) (fun b o hb z => (hs.2 b hb).trans z) ⟨qo, hq⟩ ⟨by have := putX_len kvs k a v; omega, hd, _, rel.put k rv, qo, es, ep, hq, h2, h3, h4, h5, fun n z => nomatch z⟩
theorem pe_dict1 {kx vx : Expr} {tk tv : TE} {pos : Pos} (hu : X.A.units + 64 < cLine) (h1 : PE X kx tk) (h2 : PE X vx tv) : PE X (.Dict [some kx] [vx] pos) (fun σ H Q => ∀ p, H p = none → tk σ (upd H p (.dT (thT, none) [])) fun x H1 => tv σ H1 fun v H2 => ∃ a k, x = .ref a ∧ PaK X.K H2 k a ∧ H2 p = some (.dT (thT, none) []) ∧ Q (.ref p) (upd H2 p (.dT (thT, none) [(k, a, v)]))) := by
  intro pins s σ H Q I q
  have I1 := I.laid (a := s.heap.objs.size) (o := .dT (thT, none) []) (h' := s.heap.push { cls := .type "dict", data := .dict #[] }) (t' := s.toks) (fun _ _ q => Heap.get?_push_of_some _ q) (Nat.le_refl _)
    ⟨Nat.zero_le _, beq_eq_false_iff_ne.mpr (Ne.symm (Nat.ne_of_lt I.bigD)), [], .nil, _, #[], 0, Heap.get?_push_size _ rfl, ⟨rfl, rfl, rfl⟩, rfl, rfl, List.nodup_nil, fun n z => nomatch z⟩
  refine wpAny_Dict_any rfl rfl (fun z => nomatch z) (by show 1 ≤ 15; decide) (pairTrees_cons_walk (thn (h1 pins _ σ _ _ I1 (q _ (I.hok.fresh (Nat.le_refl _)))) fun u s1 ⟨x, H1, I2, rx, q1⟩ => thn (h2 pins s1 σ H1 _ I2 q1) fun w2 s2 ⟨y, H2, I3, ry, a, k, ex, ka, hp, q2⟩ => pairTrees_nil_walk ?_))
  subst ex
  cases rx
  obtain ⟨z, hd, xs, rel, dd⟩ := dt_at I3 hp (fun x hx => nomatch hx)
  cases rel
  unfold storeAll
  rw [List.forIn_cons]
  refine wpAny_bind (wpAny_bind (wpAny_dictSet_heap (show X.A.units < cLine by omega) (ka.is I3) dd (fun h' dd' hs => ?_)))
  refine wpAny_pure ?_
  dsimp only
  rw [List.forIn_nil]
  refine wpAny_pure ⟨.ref s.heap.objs.size, _, ?_, rfl, q2⟩
  obtain ⟨qo, es, ep, hq, g2, g3, g4, _, g5⟩ := dd'
  exact I3.write (x := s.heap.objs.size) (e := s.heap.objs.size) (by rw [hp]; exact True.intro) (.inl rfl) (fun b o hb z => (hs.2 b hb).trans z) ⟨qo, hq⟩ ⟨by show 1 ≤ sizeLine; decide, hd, _, .cons ⟨rfl, rfl, ry⟩ .nil, qo, es, ep, hq, g2, g3, g4, g5, fun n z => nomatch z⟩
theorem cr_sortedD (hc : X.calm = true) : CallR X (.builtin "sorted") (fun xs H Q => ∃ (p : Addr) (ep : Option Nat) (kvs : List (PKey × Addr × V)), xs = [.ref p] ∧ H p = some (.dT (thT, ep) kvs) ∧ (∀ x ∈ kvs, PaK X.K H x.1 x.2.1 ∧ x.1.1 ≠ []) ∧ 2 ≤ kvs.length ∧
    ∀ out : List (PKey × Addr × V), out.length = kvs.length → (∀ x ∈ out, x ∈ kvs) → ∀ q, H q = none → Q (.ref q) (upd H q (.lst (out.map fun x => V.ref x.2.1)))) := by
  intro pins s σ H xs us Q I rv h
  obtain ⟨p, ep, kvs, rfl, e, hk, l2, q⟩ := h
  obtain ⟨u, rfl, ru⟩ := Vals.one rv
  obtain rfl : u = Value.ref p := ru
  obtain ⟨z, hd, xs, r, o, es, ep, g1, g2, g3, g4, _, _⟩ := (show ObjOk X.prog X.w H s.heap p (.dT (thT, ep) kvs) from I.hok p _ e)
  have hl : es.size = kvs.length := by rw [← Array.length_toList, g4, List.length_map, KX.len r]
  have kys : ∀ e ∈ es.toList, ∃ x ∈ kvs, e.key = .ref x.2.1 := fun e he => by
    rw [g4] at he
    obtain ⟨y, hy, rfl⟩ := List.mem_map.mp he
    obtain ⟨x, hx, e1⟩ := KX.mem r y hy
    exact ⟨x, hx, by show Value.ref y.2.1 = _; rw [e1]⟩
  refine sorted_rd (I.ok.hd hc) hd ⟨o, g1, g2, g3⟩ (by omega) (by omega) (fun e he => ?_) fun out h' tk q' c o1 o2 k1 pn g => ?_
  · obtain ⟨x, hx, e1⟩ := kys e he
    rw [e1]
    exact (hk x hx).1.tup I (hk x hx).2
  · have ex : ∃ ys : List (PKey × Addr × V), ys.length = out.length ∧ (∀ y ∈ ys, y ∈ kvs) ∧ Vals (ys.map fun x => V.ref x.2.1) out := by
      clear o1 g
      induction out with
      | nil => exact ⟨[], rfl, ⟨fun y hy => (nomatch hy), .nil⟩⟩
      | cons v out ih =>
        obtain ⟨ys, y1, y2, y3⟩ := ih fun w hw => o2 w (.tail _ hw)
        obtain ⟨e, he, rfl⟩ := o2 v (.head _)
        obtain ⟨x, hx, e1⟩ := kys e he
        refine ⟨x :: ys, by rw [List.length_cons, List.length_cons, y1], fun y hy => ?_, .cons e1 y3⟩
        rcases List.mem_cons.mp hy with rfl | hy
        · exact hx
        · exact y2 y hy
    obtain ⟨ys, y1, y2, y3⟩ := ex
    obtain ⟨m, F⟩ := I.fr
    have nL : q' ≠ X.env.locals := fun z => by
      obtain ⟨o2, es, ep, e3, _⟩ := F.ns
      rw [z, e3] at pn
      cases pn
    have I2 : Inv X pins σ (upd H q' (.lst (ys.map fun x => V.ref x.2.1))) { s with heap := h', toks := tk } := I.laidL (fun b o _ e => k1 b o e) (fun m hm => hm.at' fun o e => k1 _ o e) pn nL (fun _ z => nomatch z) ⟨by rw [List.length_map]; omega, out, c, y3, g⟩
    refine ⟨.ref q', _, I2, rfl, q ys (by omega) y2 q' ?_⟩
    cases e : H q' with
    | none => rfl
    | some u =>
      obtain ⟨x, hx⟩ := objThere (I.hok q' u e)
      rw [pn] at hx
      cases hx
noncomputable def Itdd (d : Addr) (ep n : Nat) : It :=
  ⟨fun i H => ∃ kvs, H d = some (.dT (thT, some ep) kvs) ∧ kvs.length = n ∧ i < n, fun i H x H' => H' = H ∧ ∃ kvs k a v, H d = some (.dT (thT, some ep) kvs) ∧ kvs[i]? = some (k, a, v) ∧ x = .ref a, fun i H => ∃ kvs, H d = some (.dT (thT, some ep) kvs) ∧ kvs.length = n ∧ n ≤ i⟩
theorem dt_raw (I : Inv X pins σ H s) {ep : Nat} {kvs : List (PKey × Addr × V)} (e : H a = some (.dT (thT, some ep) kvs)) : ∃ es : Array DictEntry, RawD s.heap a es ep ∧ es.size = kvs.length ∧ ∀ (i : Nat) (k : PKey) (b : Addr) (v : V), kvs[i]? = some (k, b, v) → ∃ en : DictEntry, es[i]? = some en ∧ en.key = .ref b := by
  obtain ⟨z, y, xs, r, o, es, ep', h1, h2, h3, h4, h5, h6⟩ := (show ObjOk X.prog X.w H s.heap a (.dT (thT, some ep) kvs) from I.hok a _ e)
  obtain rfl := h6 ep rfl
  refine ⟨es, ⟨o, h1, h2, h3⟩, by rw [← Array.length_toList, h4, List.length_map, KX.len r], fun i k b v hi => ?_⟩
  obtain ⟨x, hx, e1⟩ := KX.at r hi
  refine ⟨_, by rw [← Array.getElem?_toList, h4, List.getElem?_map, hx]; rfl, ?_⟩
  show Value.ref x.2.1 = _
  rw [e1]
theorem turn_dic {P : Program} {w : World} {K : PySem.W.Frag} {tg : Expr} (d it : Addr) (ep n : Nat) : Turn P w K tg (Itdd d ep n) [it] it (fun i h => h.IsKeyIter it d i n ep) where
  mem := by simp
  obj := fun i h st b hb => by
    obtain rfl : b = it := by simpa using hb
    obtain ⟨o, e, c, d⟩ := st
    exact ⟨o, e, fun v z => by rw [d] at z; cases z⟩
  keep := fun i h h2 st k => st.at fun o e => k it (by simp) o e
  item := by
    intro X hP hw hK hc i pins s σ H E I hf st hg
    subst hP hw hK
    obtain ⟨kvs, e, hn, hi⟩ := hg
    obtain ⟨es, rw', hz, hk⟩ := dt_raw I e
    obtain ⟨f0, f1, f2, f3, f4, f5⟩ := hf it (by simp)
    obtain ⟨⟨k, b, v⟩, hx⟩ : ∃ y, kvs[i]? = some y := ⟨_, List.getElem?_eq_getElem (by omega)⟩
    obtain ⟨en, g, ek⟩ := hk i k b v hx
    subst hn
    rw [← hz] at st
    refine next_rd st rw' g fun h2 st3 sb => ?_
    rw [hz] at st3
    have I1 : Inv X pins σ H { s with heap := h2 } := I.turned (t' := s.toks) (fun b o hb e => (sb.2 b hb).trans e) f0 f1 f3 f4 f5
    obtain ⟨o, e3, c, dd⟩ := id st3
    rw [ek]
    exact ⟨_, rfl, go_of (s := { s with heap := h2 }) e3 c dd (by decide) ⟨.ref b, H, I1, rfl, ⟨rfl, kvs, k, b, v, e, hx, rfl⟩, st3, fun b hb => (hf b hb).1⟩⟩
  done := by
    intro X hP hw hK hc i pins s σ H E I hf st hg
    subst hP hw hK
    obtain ⟨kvs, e, hn, hi⟩ := hg
    obtain ⟨es, rw', hz, hk⟩ := dt_raw I e
    obtain ⟨f0, f1, f2, f3, f4, f5⟩ := hf it (by simp)
    subst hn
    rw [← hz] at st
    exact stop_rd (I.ok.hd hc) st rw' (by omega) fun h2 he => ⟨rfl, I.turned (t' := s.toks) (fun b o hb e => he b o hb e) f0 f1 f3 f4 f5⟩
  self := fun A i s Q E st k => wpAny_pyIter_keyiter st k
noncomputable def iDic (t : TE) : TI := fun σ H R => t σ H fun v H1 => ∃ a kvs, v = .ref a ∧ H1 a = some (.dT (thT, none) kvs) ∧ ∀ ep, R (Itdd a ep kvs.length) (upd H1 a (.dT (thT, some ep) kvs))
theorem pi_dic {tg e : Expr} {t : TE} (he : PE X e t) : PI X tg e (iDic t) := by
  intro pins s σ H R I h
  refine thn (he pins s σ H _ I h) fun v s1 ⟨x, H1, I1, r1, q1⟩ => ?_
  obtain ⟨a, kvs, rfl, e, q⟩ := q1
  cases r1
  have ok := I1.hok a _ e
  obtain ⟨z, lo, xs, r, o, es, ep, h1, h2, h3, h4, h5, _⟩ := (show ObjOk X.prog X.w H1 s1.heap a (.dT (thT, none) kvs) from ok)
  have hz : es.size = kvs.length := by rw [← Array.length_toList, h4, List.length_map, KX.len r]
  have I2 : Inv X pins σ (upd H1 a (.dT (thT, some ep) kvs)) s1 := I1.swap e ⟨fun _ q => (nomatch q), fun _ q => (nomatch q)⟩ (fun ys q => by rw [I1.base.tups a ys q] at e; cases e) (fun o u q => by rw [I1.base.frzs a o u q] at e; cases e) (fun ps q => by obtain ⟨more, q⟩ := I1.base.tbls a ps q; rw [q] at e; cases e) ⟨z, lo, xs, r, o, es, ep, h1, h2, h3, h4, h5, fun n hn => (Option.some.inj hn).symm⟩
  refine iter_rd lo ⟨o, h1, h2, h3⟩ ?_
  rw [hz]
  refine ⟨s1.heap.objs.size, [s1.heap.objs.size], _, _, _, rfl, I2.kept (t' := s1.toks) fun b o e => Heap.get?_push_of_some _ e, turn_dic a _ ep kvs.length, ⟨_, Heap.get?_push_size _ rfl, rfl, rfl⟩, fun b hb => ?_, q ep⟩
  obtain rfl : b = s1.heap.objs.size := by simpa using hb
  exact I2.fpOk (Nat.le_refl _) (I2.hok.fresh (Nat.le_refl _))
end
end L2

namespace DL
open PySem PySem.Spec L2
open PyProof.Rows hiding St
noncomputable def pkD (k : PKey) : D := .tup (k.1.map D.int)
noncomputable abbrev DPs := List (PKey × D × D)
noncomputable def putD (kvs : DPs) (k : PKey) (v : D) : DPs := if (kvs.any fun x => decide (x.1 = k)) = true then kvs.map (fun x => if x.1 = k then (x.1, x.2.1, v) else x) else kvs ++ [(k, pkD k, v)]
noncomputable def KeysOk (kvs : DPs) : Prop := ∀ e ∈ kvs, e.2.1 = pkD e.1 ∧ e.1.2 = []
section
variable {K : PySem.W.Frag} {H : Hp} {M : Mem} {p : Addr}
theorem hasL_ints : ∀ {vs : List V} {ns : List Int}, HasL K H vs (ns.map D.int) → vs = ns.map V.int
  | _, [], h => by cases h; rfl
  | _, n :: ns, h => by
    cases h with
    | cons h t => cases h; rw [hasL_ints t]; rfl
theorem pak_of {v : V} {k : PKey} (h : Has K H v (pkD k)) (hk : k.2 = []) : ∃ a, v = .ref a ∧ PaK K H k a := by
  cases h with
  | tup s1 l1 =>
  have e := hasL_ints l1
  subst e
  exact ⟨_, rfl, hk, s1⟩
theorem hasD_any {xs : List (PKey × Addr × V)} {kvs : DPs} (h : xs.map (·.1) = kvs.map (·.1)) (k : PKey) : (xs.any fun x => decide (x.1 = k)) = kvs.any fun x => decide (x.1 = k) := by
  have e1 : (xs.any fun x => decide (x.1 = k)) = (xs.map (·.1)).any fun y => decide (y = k) := by rw [List.any_map]; rfl
  have e2 : (kvs.any fun x => decide (x.1 = k)) = (kvs.map (·.1)).any fun y => decide (y = k) := by rw [List.any_map]; rfl
  rw [e1, e2, h]
theorem hasD_pak {xs : List (PKey × Addr × V)} {kvs : DPs} (h : HasD K H xs kvs) (ok : KeysOk kvs) : ∀ x ∈ xs, PaK K H x.1 x.2.1 := by
  obtain ⟨h1, h2, h3⟩ := h
  clear h3
  induction xs generalizing kvs with
  | nil => intro x hx; cases hx
  | cons y xs ih =>
    cases kvs with
    | nil => cases h1
    | cons e kvs =>
      injection h1 with e1 h1
      have e1 : y.1 = e.1 := e1
      cases h2 with
      | cons g h2 =>
        have g : Has K H (V.ref y.2.1) e.2.1 := g
        intro x hx
        rcases List.mem_cons.mp hx with rfl | hx
        · obtain ⟨o1, o2⟩ := ok e (.head _)
          rw [o1] at g
          obtain ⟨a, e2, pk⟩ := pak_of g o2
          cases e2
          rw [e1]; exact pk
        · exact ih (fun z hz => ok z (.tail _ hz)) h1 h2 x hx
theorem hasD_put {xs : List (PKey × Addr × V)} {kvs : DPs} (h : HasD K H xs kvs) (k : PKey) {a : Addr} {v : V} {d : D} (hk : Has K H (.ref a) (pkD k)) (hv : Has K H v d) : HasD K H (putX xs k a v) (putD kvs k d) := by
  obtain ⟨h1, h2, h3⟩ := h
  unfold putX putD
  rw [hasD_any h1]
  by_cases q : (kvs.any fun x => decide (x.1 = k)) = true
  · rw [if_pos q, if_pos q]
    clear q
    induction xs generalizing kvs with
    | nil =>
      cases kvs with
      | nil => exact ⟨rfl, .nil, .nil⟩
      | cons e kvs => cases h1
    | cons y xs ih =>
      cases kvs with
      | nil => cases h1
      | cons e kvs =>
        injection h1 with e1 h1
        have e1 : y.1 = e.1 := e1
        cases h2 with
        | cons g h2 =>
        cases h3 with
        | cons g3 h3 =>
        obtain ⟨i1, i2, i3⟩ := ih h1 h2 h3
        by_cases c : y.1 = k
        · have c' : e.1 = k := e1.symm.trans c
          simp only [List.map_cons, if_pos c, if_pos c']
          exact ⟨by rw [List.map_cons, List.map_cons, i1, e1], .cons g i2, .cons hv i3⟩
        · have c' : ¬ e.1 = k := fun z => c (e1.trans z)
          simp only [List.map_cons, if_neg c, if_neg c']
          exact ⟨by rw [List.map_cons, List.map_cons, i1, e1], .cons g i2, .cons g3 i3⟩
  · rw [if_neg q, if_neg q]
    refine ⟨by rw [List.map_append, List.map_append, h1]; rfl, ?_, ?_⟩
    · rw [List.map_append, List.map_append]; exact h2.append (.cons hk .nil)
    · rw [List.map_append, List.map_append]; exact h3.append (.cons hv .nil)
theorem kt_dic {hs : (PKey → Int) × Option Nat} {xs : List (PKey × Addr × V)} {o : HO} (h : H p = some (.dT hs xs)) : KT H (upd H p o) := KT.at (fun xs r => by rcases r with r | ⟨_, r⟩ <;> (rw [h] at r; cases r)) (fun q xs r => by rw [h] at r; cases r) fun φ r => by rw [h] at r; cases r
theorem absM_newD (h : AbsM K H M) {hs : (PKey → Int) × Option Nat} (e : H p = none) : AbsM K (upd H p (.dT hs [])) (updM M p (.dic hs [])) := fun a o m => by
  by_cases q : a = p
  · subst q
    rw [updM_same] at m; cases m
    exact ⟨[], upd_same, rfl, .nil, .nil⟩
  · rw [updM_ne q] at m
    exact h.alloc e a o m
theorem absM_writeD (h : AbsM K H M) {hs : (PKey → Int) × Option Nat} {xs ys : List (PKey × Addr × V)} {kvs : DPs} (e : H p = some (.dT hs xs)) (l : HasD K H ys kvs) : AbsM K (upd H p (.dT hs ys)) (updM M p (.dic hs kvs)) := fun a o m => by
  have k : KT H (upd H p (.dT hs ys)) := kt_dic e
  by_cases q : a = p
  · subst q
    rw [updM_same] at m; cases m
    exact ⟨ys, upd_same, l.mono k⟩
  · rw [updM_ne q] at m
    cases o with
    | lst es =>
      obtain ⟨zs, z, l⟩ := h a _ m
      exact ⟨zs, by rw [upd_ne q]; exact z, l.mono k⟩
    | ins C fs =>
      obtain ⟨C0, dx, zs, z, l, hc⟩ := h a _ m
      exact ⟨C0, dx, zs, by rw [upd_ne q]; exact z, l.mono k, hc⟩
    | dic hs' kvs' =>
      obtain ⟨zs, z, l⟩ := h a _ m
      exact ⟨zs, by rw [upd_ne q]; exact z, l.mono k⟩
theorem absM_writeD2 (h : AbsM K H M) {hs hs2 : (PKey → Int) × Option Nat} {xs ys : List (PKey × Addr × V)} {kvs : DPs} (e : H p = some (.dT hs xs)) (l : HasD K H ys kvs) : AbsM K (upd H p (.dT hs2 ys)) (updM M p (.dic hs2 kvs)) := fun a o m => by
  have k : KT H (upd H p (.dT hs2 ys)) := kt_dic e
  by_cases q : a = p
  · subst q
    rw [updM_same] at m; cases m
    exact ⟨ys, upd_same, l.mono k⟩
  · rw [updM_ne q] at m
    cases o with
    | lst es =>
      obtain ⟨zs, z, l⟩ := h a _ m
      exact ⟨zs, by rw [upd_ne q]; exact z, l.mono k⟩
    | ins C fs =>
      obtain ⟨C0, dx, zs, z, l, hc⟩ := h a _ m
      exact ⟨C0, dx, zs, by rw [upd_ne q]; exact z, l.mono k, hc⟩
    | dic hs' kvs' =>
      obtain ⟨zs, z, l⟩ := h a _ m
      exact ⟨zs, by rw [upd_ne q]; exact z, l.mono k⟩
end
section
variable {X : Cx} {pos : Pos} {o i : Expr} {to ti : DTE}
theorem hasD_at {K : PySem.W.Frag} {H : Hp} {xs : List (PKey × Addr × V)} {kvs : DPs} (h : HasD K H xs kvs) : ∀ x ∈ xs, ∃ e ∈ kvs, x.1 = e.1 ∧ Has K H (.ref x.2.1) e.2.1 ∧ Has K H x.2.2 e.2.2 := by
  obtain ⟨h1, h2, h3⟩ := h
  induction xs generalizing kvs with
  | nil => intro x hx; cases hx
  | cons y xs ih =>
    cases kvs with
    | nil => cases h1
    | cons e kvs =>
      injection h1 with e1 h1
      cases h2 with
      | cons g2 h2 =>
      cases h3 with
      | cons g3 h3 =>
      intro x hx
      rcases List.mem_cons.mp hx with rfl | hx
      · exact ⟨e, .head _, e1, g2, g3⟩
      · obtain ⟨e', he, r⟩ := ih h1 h2 h3 x hx
        exact ⟨e', .tail _ he, r⟩
theorem hasD_find {K : PySem.W.Frag} {H : Hp} {xs : List (PKey × Addr × V)} {kvs : DPs} (h : HasD K H xs kvs) {k : PKey} {b v : D} (hf : (kvs.find? fun x => decide (x.1 = k)) = some (k, b, v)) : ∃ a w, (xs.find? fun x => decide (x.1 = k)) = some (k, a, w) ∧ Has K H w v := by
  obtain ⟨h1, h2, h3⟩ := h
  induction xs generalizing kvs with
  | nil =>
    cases kvs with
    | nil => cases hf
    | cons e kvs => cases h1
  | cons y xs ih =>
    cases kvs with
    | nil => cases h1
    | cons e kvs =>
      injection h1 with e1 h1
      have e1 : y.1 = e.1 := e1
      cases h2 with
      | cons g2 h2 =>
      cases h3 with
      | cons g3 h3 =>
      rw [List.find?_cons] at hf ⊢
      by_cases c : e.1 = k
      · rw [decide_eq_true c] at hf
        rw [decide_eq_true (e1.trans c)]
        obtain rfl := Option.some.inj hf
        exact ⟨y.2.1, y.2.2, by obtain ⟨y1, y2, y3⟩ := y; have e1 : y1 = k := e1; subst e1; rfl, g3⟩
      · rw [decide_eq_false c] at hf
        rw [decide_eq_false fun z => c (e1.symm.trans z)]
        exact ih hf h1 h2 h3
theorem hasD_get {K : PySem.W.Frag} {H : Hp} {xs : List (PKey × Addr × V)} {kvs : DPs} (h : HasD K H xs kvs) : ∀ {i : Nat} {k : PKey} {a : Addr} {v : V}, xs[i]? = some (k, a, v) → ∃ e, kvs[i]? = some e ∧ Has K H (.ref a) e.2.1 := by
  obtain ⟨h1, h2, h3⟩ := h
  clear h3
  induction xs generalizing kvs with
  | nil => intro i k a v h; simp at h
  | cons y xs ih =>
    cases kvs with
    | nil => cases h1
    | cons e kvs =>
      injection h1 with e1 h1
      cases h2 with
      | cons g2 h2 =>
      intro i k a v hi
      cases i with
      | zero =>
        obtain rfl := Option.some.inj hi
        exact ⟨e, rfl, g2⟩
      | succ i => exact ih h1 h2 hi
theorem hasD_len {K : PySem.W.Frag} {H : Hp} {xs : List (PKey × Addr × V)} {kvs : DPs} (h : HasD K H xs kvs) : xs.length = kvs.length := by
  have := congrArg List.length h.keys
  rwa [List.length_map, List.length_map] at this
noncomputable def dDict1 (tk tv : DTE) : DTE := fun e M R => ∀ p, M p = none → tk e (updM M p (.dic (thT, none) [])) fun x M1 => tv e M1 fun v M2 => ∃ k, x = pkD k ∧ k.2 = [] ∧ M2 p = some (.dic (thT, none) []) ∧ R (.ref p) (updM M2 p (.dic (thT, none) [(k, pkD k, v)]))
theorem jd_dict1 {kx vx : Expr} {tk tv : DTE} (hu : X.A.units + 64 < cLine) (h1 : JE X kx tk) (h2 : JE X vx tv) : JE X (.Dict [some kx] [vx] pos) (dDict1 tk tv) := ⟨(pe_dict1 hu h1.out h2.out).imp fun σ H Q ⟨e, M, R, ok, am, t, f⟩ => fun p hp => by
  have kp : KT H (upd H p (.dT (thT, none) [])) := KT.alloc hp
  exact ⟨e, _, _, ok.mono kp, absM_newD am hp, t p (am.fresh hp), fun x M1 g1 v1 H1 k1 a1 r1 => ⟨e, M1, _, (ok.mono kp).mono k1, a1, g1, fun y M2 ⟨k, ex, hk, hm, g2⟩ v2 H2 k2 a2 r2 => by
    subst ex
    obtain ⟨a, rfl, pk⟩ := pak_of (r1.mono k2) hk
    obtain ⟨xs, he, hd⟩ := a2 p _ hm
    obtain rfl : xs = [] := List.map_eq_nil_iff.mp hd.keys
    have kw : KT H2 (upd H2 p (.dT (thT, none) [(k, a, v2)])) := kt_dic he
    exact ⟨a, k, rfl, pk, he, f _ _ g2 _ _ ((kp.trans (k1.trans k2)).trans kw) (absM_writeD a2 he ⟨rfl, .cons (r1.mono k2) .nil, .cons r2 .nil⟩) (.ref p)⟩⟩⟩⟩
theorem z_Dict1 {tk tv : DTE} {e : Ev} {M : Mem} {R : DK} : dDict1 tk tv e M R = ∀ p, M p = none → tk e (updM M p (.dic (thT, none) [])) fun x M1 => tv e M1 fun v M2 => ∃ k, x = pkD k ∧ k.2 = [] ∧ M2 p = some (.dic (thT, none) []) ∧ R (.ref p) (updM M2 p (.dic (thT, none) [(k, pkD k, v)])) := rfl
noncomputable def gNotD : DR2 := fun x y M R => ∃ (p : Addr) (ep : Option Nat) (kvs : DPs) (k : PKey), x = pkD k ∧ k.2 = [] ∧ y = .ref p ∧ M p = some (.dic (thT, ep) kvs) ∧ KeysOk kvs ∧ R (.bl (!(kvs.any fun e => decide (e.1 = k)))) M
theorem o_notD (hu : X.A.units + 64 < cLine) : DOp X (compareOp .NotIn) gNotD := OpR.imp (op_notD hu) fun x y H Q ⟨dx, dy, M, R, hx, hy, am, ⟨p, ep, kvs, k, e1, hk, e2, hm, ok, r⟩, f⟩ => by
  subst e1; subst e2
  cases hy
  obtain ⟨a, rfl, pk⟩ := pak_of hx hk
  obtain ⟨xs, he, hd⟩ := am p _ hm
  refine ⟨a, p, ep, xs, k, rfl, rfl, he, hasD_pak hd ok, pk, ?_⟩
  rw [hasD_any hd.keys]
  exact f _ M r _ H (KT.refl H) am (.bl _)
noncomputable def gGetD : DR2 := fun x y M R => ∃ (p : Addr) (ep : Option Nat) (kvs : DPs) (k : PKey) (b v : D), x = .ref p ∧ y = pkD k ∧ k.2 = [] ∧ M p = some (.dic (thT, ep) kvs) ∧ KeysOk kvs ∧ (kvs.find? fun x => decide (x.1 = k)) = some (k, b, v) ∧ R v M
theorem i_getD (hu : X.A.units + 64 < cLine) : DIx X gGetD := by
  intro value slice pins s σ H x y v u Q I rx ry h hs
  obtain ⟨dx, dy, M, R, hx, hy, am, ⟨p, ep, kvs, k, b, w, e1, e2, hk, hm, ok, hf, r⟩, f⟩ := h
  subst e1; subst e2
  cases hx
  obtain ⟨a, rfl, pk⟩ := pak_of hy hk
  obtain ⟨xs, he, hd⟩ := am p _ hm
  obtain ⟨a', w', g1, g2⟩ := hasD_find hd hf
  exact ix_dic hu value slice pins s σ H _ _ v u Q I rx ry ⟨p, a, ep, xs, k, a', w', rfl, rfl, he, hasD_pak hd ok, pk, g1, f _ M r _ H (KT.refl H) am g2⟩ hs
noncomputable def gSetD : DTSet := fun o i v M R => ∃ (p : Addr) (kvs : DPs) (k : PKey), o = .ref p ∧ i = pkD k ∧ k.2 = [] ∧ M p = some (.dic (thT, none) kvs) ∧ KeysOk kvs ∧ kvs.length < sizeLine ∧ R (updM M p (.dic (thT, none) (putD kvs k v)))
theorem jdg_subD (hu : X.A.units + 64 < cLine) (ho : JE X o to) (hi : JE X i ti)
    (ha : ∀ v, assign (.Subscript o i pos) X.env v = (do
      let ov ← holding [v] (eval o X.env)
      let iv ← holding [v, ov] (eval i X.env)
      standAt pos
      holding [v, ov, iv] (setItem ov iv v)
      release [v, ov, iv] []) := by intro _; rfl) : JG X (.Subscript o i pos) (dgSub to ti gSetD) :=
  ⟨PG.imp (pg_sub ho.out hi.out (set_dic hu) ha) fun v σ H Q ⟨d, e, M, R, r, ok, am, g, f⟩ =>
    ⟨e, M, _, ok, am, g, fun x M1 h1 vo H1 k1 a1 r1 => ⟨e, M1, _, ok.mono k1, a1, h1, fun y M2 ⟨p, kvs, k, e1, e2, hk, hm, kok, hl, h2⟩ vi H2 k2 a2 r2 => by
      subst e1; subst e2
      cases r1
      obtain ⟨a, rfl, pk⟩ := pak_of r2 hk
      obtain ⟨xs, he, hd⟩ := a2 p _ hm
      have kt : KT H H2 := k1.trans k2
      have kw : KT H2 (upd H2 p (.dT (thT, none) (putX xs k a v))) := kt_dic he
      refine ⟨p, a, xs, k, rfl, rfl, he, hasD_pak hd kok, pk, ?_, f e _ h2 σ _ (kt.trans kw) (absM_writeD a2 he (hasD_put hd k r2 (r.mono kt))) ((ok.mono kt).mono kw)⟩
      have := hasD_len hd
      omega⟩⟩⟩
noncomputable def gSrD : DRC := fun ds M R => ∃ (p : Addr) (ep : Option Nat) (kvs : DPs), ds = [.ref p] ∧ M p = some (.dic (thT, ep) kvs) ∧ KeysOk kvs ∧ (∀ e ∈ kvs, e.1.1 ≠ []) ∧ 2 ≤ kvs.length ∧ ∀ ks : List PKey, ks.length = kvs.length → (∀ k ∈ ks, ∃ e ∈ kvs, e.1 = k) → ∀ q, M q = none → R (.ref q) (updM M q (.lst (ks.map pkD)))
theorem c_sortedD (hc : X.calm = true) : DCall X (.builtin "sorted") gSrD := CallR.imp (cr_sortedD hc) fun xs H Q ⟨ds, M, R, hl, am, ⟨p, ep, kvs, z, hm, ok, hne, l2, h⟩, f⟩ => by
  subst z
  obtain ⟨v, rfl, hv⟩ := hl.one
  cases hv
  obtain ⟨xs, he, hd⟩ := am p _ hm
  have len := hasD_len hd
  have pk := hasD_pak hd ok
  refine ⟨p, ep, xs, rfl, he, fun x hx => ⟨pk x hx, ?_⟩, by omega, fun out o1 o2 q hq => ?_⟩
  · obtain ⟨e, he, e1, _⟩ := hasD_at hd x hx
    rw [e1]; exact hne e he
  · have hks : ∀ k ∈ out.map (·.1), ∃ e ∈ kvs, e.1 = k := fun k hk => by
      obtain ⟨x, hx, rfl⟩ := List.mem_map.mp hk
      obtain ⟨e, he, e1, _⟩ := hasD_at hd x (o2 x hx)
      exact ⟨e, he, e1.symm⟩
    have lx : HasL X.K H (out.map fun x => V.ref x.2.1) ((out.map (·.1)).map pkD) := by
      clear o1 hks
      induction out with
      | nil => exact .nil
      | cons x out ih =>
        obtain ⟨e, he, e1, e2, _⟩ := hasD_at hd x (o2 x (.head _))
        rw [(ok e he).1, ← e1] at e2
        exact .cons e2 (ih fun y hy => o2 y (.tail _ hy))
    exact f _ _ (h (out.map (·.1)) (by rw [List.length_map]; omega) hks q (am.fresh hq)) _ _ (KT.alloc hq) (am.new hq lx) (.ref q)
noncomputable def diDic (t : DTE) : DTI := fun e M R => t e M fun x M1 => ∃ (p : Addr) (kvs : DPs), x = .ref p ∧ M1 p = some (.dic (thT, none) kvs) ∧ KeysOk kvs ∧ ∀ ep : Nat, R (kvs.map fun e => pkD e.1) (fun M' => M' p = some (.dic (thT, some ep) kvs)) (updM M1 p (.dic (thT, some ep) kvs))
theorem walk_dic {K : PySem.W.Frag} {H1 : Hp} {p : Addr} {ep : Nat} {kvs : DPs} (ok : KeysOk kvs) : Walk K H1 (Itdd p ep kvs.length) (kvs.map fun e => pkD e.1) (fun M' => M' p = some (.dic (thT, some ep) kvs)) where
  go := fun i H' M' hi k am st => by
    obtain ⟨xs, he, hd⟩ := am p _ st
    exact ⟨xs, he, hasD_len hd, by rw [List.length_map] at hi; exact hi⟩
  yld := fun i H' M' x H'' hi k am st ⟨e, ys, k1, a, v, hy, hx, ex⟩ => by
    subst e; subst ex
    obtain ⟨xs, he, hd⟩ := am p _ st
    rw [he] at hy
    obtain rfl : xs = ys := by injection hy with hy; injection hy with _ hy
    obtain ⟨e, g1, g2⟩ := hasD_get hd hx
    refine ⟨_, by rw [List.getElem?_map, g1]; rfl, KT.refl _, am, ?_⟩
    rw [(ok e (List.mem_of_getElem? g1)).1] at g2
    exact g2
  stop := fun i H' M' hi k am st => by
    obtain ⟨xs, he, hd⟩ := am p _ st
    exact ⟨xs, he, hasD_len hd, by rw [List.length_map] at hi; exact hi⟩
  up := fun M' q o st hq => by rw [updM_ne (by intro e; subst e; rw [hq] at st; cases st)]; exact st
theorem jpd_dic {tg e : Expr} {t : DTE} (he : JE X e t) : JI X tg e (diDic t) := ⟨PI.imp (pi_dic he.out) fun σ H R ⟨e, M, R', ok, am, t, f⟩ => ⟨e, M, _, ok, am, t, fun x M1 ⟨p, kvs, z, hm, kok, r⟩ v H1 k1 a1 r1 => by
  subst z
  cases r1
  obtain ⟨xs, hx, hd⟩ := a1 p _ hm
  have kw : ∀ ep : Nat, KT H1 (upd H1 p (.dT (thT, some ep) xs)) := fun ep => kt_dic hx
  refine ⟨p, xs, rfl, hx, fun ep => ?_⟩
  rw [hasD_len hd]
  exact f _ _ _ (r ep) _ (k1.trans (kw ep)) (absM_writeD2 a1 hx hd) _ (walk_dic kok)⟩⟩
end
end DL

namespace GM
open PySem PySem.Spec L2 DL
open RM (sz)
local macro_rules | `(tactic| walk_at "inj") => `(tactic| (rename_i e h; simp only [List.cons.injEq, and_true, true_and, GM.ratD_iff, GM.partD_iff, GM.partsD_iff, GM.lineD_iff, GM.linesD_iff, D.tup.injEq, D.ref.injEq, D.int.injEq, D.str.injEq, D.bl.injEq, D.vl.injEq, Int.natCast_inj, and_assoc] at e; (repeat (obtain ⟨e1, e⟩ := e; subst e1)); subst e; exact h))
local macro_rules | `(tactic| walk_at "injs") => `(tactic| (rename_i e o h; rcases o with o | o <;> (subst o; first | (exfalso; simp only [D.tup.injEq, List.cons.injEq, reduceCtorEq, false_and, and_false] at e; done) | (simp only [List.cons.injEq, and_true, true_and, GM.ratD_iff, GM.partD_iff, GM.partsD_iff, GM.lineD_iff, GM.linesD_iff, D.tup.injEq, D.ref.injEq, D.int.injEq, D.str.injEq, D.bl.injEq, D.vl.injEq, Int.natCast_inj, and_assoc] at e; (repeat (obtain ⟨e1, e⟩ := e; subst e1)); subst e; exact h))))
end GM

namespace GM
open PySem PySem.Spec L2 DL
open RM (sz)
local macro_rules | `(tactic| walk_at "inj") => `(tactic| (rename_i e h; simp only [List.cons.injEq, and_true, true_and, GM.ratD_iff, GM.partD_iff, GM.partsD_iff, GM.lineD_iff, GM.linesD_iff, D.tup.injEq, D.ref.injEq, D.int.injEq, D.str.injEq, D.bl.injEq, D.vl.injEq, Int.natCast_inj, and_assoc] at e; (repeat (obtain ⟨e1, e⟩ := e; subst e1)); subst e; exact h))
local macro_rules | `(tactic| walk_at "injs") => `(tactic| (rename_i e o h; rcases o with o | o <;> (subst o; first | (exfalso; simp only [D.tup.injEq, List.cons.injEq, reduceCtorEq, false_and, and_false] at e; done) | (simp only [List.cons.injEq, and_true, true_and, GM.ratD_iff, GM.partD_iff, GM.partsD_iff, GM.lineD_iff, GM.linesD_iff, D.tup.injEq, D.ref.injEq, D.int.injEq, D.str.injEq, D.bl.injEq, D.vl.injEq, Int.natCast_inj, and_assoc] at e; (repeat (obtain ⟨e1, e⟩ := e; subst e1)); subst e; exact h))))
structure Small (w : Rat) : Prop where
  n : w.num.natAbs ≤ 4
  d : w.den ≤ 4
  ne : w ≠ 0
theorem small_one : Small 1 := ⟨by decide, by decide, by decide⟩
theorem Small.sz {w : Rat} (h : Small w) : RM.sz w ≤ 3 := by
  rw [← Rat.num_divInt_den w]
  exact low_sz (by decide) (by have := h.n; omega) (by have := h.d; omega) (RM.den_ne w)
end GM

namespace GM
open PySem PySem.Spec L2 DL
open RM (sz)
local macro_rules | `(tactic| walk_at "inj") => `(tactic| (rename_i e h; simp only [List.cons.injEq, and_true, true_and, GM.ratD_iff, GM.partD_iff, GM.partsD_iff, GM.lineD_iff, GM.linesD_iff, D.tup.injEq, D.ref.injEq, D.int.injEq, D.str.injEq, D.bl.injEq, D.vl.injEq, Int.natCast_inj, and_assoc] at e; (repeat (obtain ⟨e1, e⟩ := e; subst e1)); subst e; exact h))
local macro_rules | `(tactic| walk_at "injs") => `(tactic| (rename_i e o h; rcases o with o | o <;> (subst o; first | (exfalso; simp only [D.tup.injEq, List.cons.injEq, reduceCtorEq, false_and, and_false] at e; done) | (simp only [List.cons.injEq, and_true, true_and, GM.ratD_iff, GM.partD_iff, GM.partsD_iff, GM.lineD_iff, GM.linesD_iff, D.tup.injEq, D.ref.injEq, D.int.injEq, D.str.injEq, D.bl.injEq, D.vl.injEq, Int.natCast_inj, and_assoc] at e; (repeat (obtain ⟨e1, e⟩ := e; subst e1)); subst e; exact h))))
end GM

namespace GM
open PySem PySem.Spec L2 DL
open RM (sz)
local macro_rules | `(tactic| walk_at "inj") => `(tactic| (rename_i e h; simp only [List.cons.injEq, and_true, true_and, GM.ratD_iff, GM.partD_iff, GM.partsD_iff, GM.lineD_iff, GM.linesD_iff, D.tup.injEq, D.ref.injEq, D.int.injEq, D.str.injEq, D.bl.injEq, D.vl.injEq, Int.natCast_inj, and_assoc] at e; (repeat (obtain ⟨e1, e⟩ := e; subst e1)); subst e; exact h))
local macro_rules | `(tactic| walk_at "injs") => `(tactic| (rename_i e o h; rcases o with o | o <;> (subst o; first | (exfalso; simp only [D.tup.injEq, List.cons.injEq, reduceCtorEq, false_and, and_false] at e; done) | (simp only [List.cons.injEq, and_true, true_and, GM.ratD_iff, GM.partD_iff, GM.partsD_iff, GM.lineD_iff, GM.linesD_iff, D.tup.injEq, D.ref.injEq, D.int.injEq, D.str.injEq, D.bl.injEq, D.vl.injEq, Int.natCast_inj, and_assoc] at e; (repeat (obtain ⟨e1, e⟩ := e; subst e1)); subst e; exact h))))
end GM

namespace GM
open PySem PySem.Spec L2 DL
open RM (sz)
local macro_rules | `(tactic| walk_at "inj") => `(tactic| (rename_i e h; simp only [List.cons.injEq, and_true, true_and, GM.ratD_iff, GM.partD_iff, GM.partsD_iff, GM.lineD_iff, GM.linesD_iff, D.tup.injEq, D.ref.injEq, D.int.injEq, D.str.injEq, D.bl.injEq, D.vl.injEq, Int.natCast_inj, and_assoc] at e; (repeat (obtain ⟨e1, e⟩ := e; subst e1)); subst e; exact h))
local macro_rules | `(tactic| walk_at "injs") => `(tactic| (rename_i e o h; rcases o with o | o <;> (subst o; first | (exfalso; simp only [D.tup.injEq, List.cons.injEq, reduceCtorEq, false_and, and_false] at e; done) | (simp only [List.cons.injEq, and_true, true_and, GM.ratD_iff, GM.partD_iff, GM.partsD_iff, GM.lineD_iff, GM.linesD_iff, D.tup.injEq, D.ref.injEq, D.int.injEq, D.str.injEq, D.bl.injEq, D.vl.injEq, Int.natCast_inj, and_assoc] at e; (repeat (obtain ⟨e1, e⟩ := e; subst e1)); subst e; exact h))))
theorem cut_from {ds : List D} {n : Nat} : cutD ds (some (n : Int)) none = ds.drop n := by
  unfold cutD
  rw [HT.sIx_nat, HT.sIx_none]
  by_cases h : n ≤ ds.length
  · rw [Nat.min_eq_left h, List.take_of_length_le (by rw [List.length_drop]; omega)]
  · rw [Nat.min_eq_right (by omega), List.drop_eq_nil_of_le (by omega), List.drop_eq_nil_of_le (by omega), List.take_nil]
end GM

namespace GM
open PySem PySem.Spec L2 DL
open RM (sz)
local macro_rules | `(tactic| walk_at "inj") => `(tactic| (rename_i e h; simp only [List.cons.injEq, and_true, true_and, GM.ratD_iff, GM.partD_iff, GM.partsD_iff, GM.lineD_iff, GM.linesD_iff, D.tup.injEq, D.ref.injEq, D.int.injEq, D.str.injEq, D.bl.injEq, D.vl.injEq, Int.natCast_inj, and_assoc] at e; (repeat (obtain ⟨e1, e⟩ := e; subst e1)); subst e; exact h))
local macro_rules | `(tactic| walk_at "injs") => `(tactic| (rename_i e o h; rcases o with o | o <;> (subst o; first | (exfalso; simp only [D.tup.injEq, List.cons.injEq, reduceCtorEq, false_and, and_false] at e; done) | (simp only [List.cons.injEq, and_true, true_and, GM.ratD_iff, GM.partD_iff, GM.partsD_iff, GM.lineD_iff, GM.linesD_iff, D.tup.injEq, D.ref.injEq, D.int.injEq, D.str.injEq, D.bl.injEq, D.vl.injEq, Int.natCast_inj, and_assoc] at e; (repeat (obtain ⟨e1, e⟩ := e; subst e1)); subst e; exact h))))
theorem SetL_last {M : Mem} {p : Addr} {xs : List D} {x v : D} {Q : Mem → Prop} (h : M p = some (.lst (xs ++ [x]))) (r : Q (updM M p (.lst (xs ++ [v])))) : gSetL (.ref p) (.int (-1)) v M Q :=
  ⟨p, _, -1, xs.length, rfl, rfl, h, by
    unfold ixN
    rw [List.length_append, List.length_singleton, if_neg (by omega), if_pos (by omega)]
    congr 1
    omega, by rw [List.set_append_right _ _ (Nat.le_refl _), Nat.sub_self]; exact r⟩
end GM

namespace GM
open PySem PySem.Spec L2 DL
open RM (sz)
local macro_rules | `(tactic| walk_at "inj") => `(tactic| (rename_i e h; simp only [List.cons.injEq, and_true, true_and, GM.ratD_iff, GM.partD_iff, GM.partsD_iff, GM.lineD_iff, GM.linesD_iff, D.tup.injEq, D.ref.injEq, D.int.injEq, D.str.injEq, D.bl.injEq, D.vl.injEq, Int.natCast_inj, and_assoc] at e; (repeat (obtain ⟨e1, e⟩ := e; subst e1)); subst e; exact h))
local macro_rules | `(tactic| walk_at "injs") => `(tactic| (rename_i e o h; rcases o with o | o <;> (subst o; first | (exfalso; simp only [D.tup.injEq, List.cons.injEq, reduceCtorEq, false_and, and_false] at e; done) | (simp only [List.cons.injEq, and_true, true_and, GM.ratD_iff, GM.partD_iff, GM.partsD_iff, GM.lineD_iff, GM.linesD_iff, D.tup.injEq, D.ref.injEq, D.int.injEq, D.str.injEq, D.bl.injEq, D.vl.injEq, Int.natCast_inj, and_assoc] at e; (repeat (obtain ⟨e1, e⟩ := e; subst e1)); subst e; exact h))))
end GM

namespace GM
open PySem PySem.Spec L2 DL
open RM (sz)
local macro_rules | `(tactic| walk_at "inj") => `(tactic| (rename_i e h; simp only [List.cons.injEq, and_true, true_and, GM.ratD_iff, GM.partD_iff, GM.partsD_iff, GM.lineD_iff, GM.linesD_iff, D.tup.injEq, D.ref.injEq, D.int.injEq, D.str.injEq, D.bl.injEq, D.vl.injEq, Int.natCast_inj, and_assoc] at e; (repeat (obtain ⟨e1, e⟩ := e; subst e1)); subst e; exact h))
local macro_rules | `(tactic| walk_at "injs") => `(tactic| (rename_i e o h; rcases o with o | o <;> (subst o; first | (exfalso; simp only [D.tup.injEq, List.cons.injEq, reduceCtorEq, false_and, and_false] at e; done) | (simp only [List.cons.injEq, and_true, true_and, GM.ratD_iff, GM.partD_iff, GM.partsD_iff, GM.lineD_iff, GM.linesD_iff, D.tup.injEq, D.ref.injEq, D.int.injEq, D.str.injEq, D.bl.injEq, D.vl.injEq, Int.natCast_inj, and_assoc] at e; (repeat (obtain ⟨e1, e⟩ := e; subst e1)); subst e; exact h))))
end GM

namespace GM
open PySem PySem.Spec L2 DL
open RM (sz)
noncomputable abbrev Z4 := Int × Int × Int × Int
noncomputable abbrev Run := Str × Nat
noncomputable def oneZ : Z4 := (1, 0, 0, 1)
theorem ext4z {m k : Z4} (h1 : m.1 = k.1) (h2 : m.2.1 = k.2.1) (h3 : m.2.2.1 = k.2.2.1) (h4 : m.2.2.2 = k.2.2.2) : m = k := Prod.ext h1 (Prod.ext h2 (Prod.ext h3 h4))
noncomputable def AltR : List Run → Prop
  | [] => True
  | [x] => (x.1 = "gap" ∨ x.1 = "glass") ∧ 0 < x.2
  | x :: y :: r => (x.1 = "gap" ∨ x.1 = "glass") ∧ 0 < x.2 ∧ x.1 ≠ y.1 ∧ AltR (y :: r)
theorem AltR.head {x : Run} {r : List Run} (h : AltR (x :: r)) : (x.1 = "gap" ∨ x.1 = "glass") ∧ 0 < x.2 := by
  cases r with
  | nil => exact h
  | cons y r => exact ⟨h.1, h.2.1⟩
theorem AltR.tail {x : Run} {r : List Run} (h : AltR (x :: r)) : AltR r := by
  cases r with
  | nil => trivial
  | cons y r => exact h.2.2.2
theorem gap_ne : ¬ (Str.ofString "glass" = Str.ofString "gap") := by decide
noncomputable def cntR (rs : List Run) : Nat := (rs.map fun x => x.2).sum
theorem cntR_cons (x : Run) (r : List Run) : cntR (x :: r) = x.2 + cntR r := by unfold cntR; rw [List.map_cons, List.sum_cons]
noncomputable def ruD (x : Run) : D := .tup [.str x.1, .int (x.2 : Int)]
noncomputable def tabI (m : Z4) : D := tabD (m.1 : Rat) (m.2.1 : Rat) (m.2.2.1 : Rat) (m.2.2.2 : Rat)
noncomputable def fourI (m : Z4) : D := .tup [.int m.1, .int m.2.1, .int m.2.2.1, .int m.2.2.2]
noncomputable def runG (s : Int) (m : Z4) (x : Run) : Z4 := if x.1 = "gap" then (m.1 + x.2 * m.2.2.1, m.2.1 + x.2 * m.2.2.2, m.2.2.1, m.2.2.2) else (m.1, m.2.1, m.2.2.1 - s * x.2 * m.1, m.2.2.2 - s * x.2 * m.2.1)
noncomputable def rowsG (s : Int) (rs : List Run) : Z4 := rs.foldl (runG s) oneZ
noncomputable def Bz (k : Nat) (m : Z4) : Prop := m.1.natAbs < 2 ^ k ∧ m.2.1.natAbs < 2 ^ k ∧ m.2.2.1.natAbs < 2 ^ k ∧ m.2.2.2.natAbs < 2 ^ k
theorem bz_add {k : Nat} {x y z : Int} (hx : x.natAbs < 2 ^ k) (hy : y.natAbs < 2 ^ k) (hz : z.natAbs < 2 ^ 10) : (x + z * y).natAbs < 2 ^ (k + 11) := by
  have h1 := int_mul_lt hz hy
  have h2 : x.natAbs < 2 ^ (10 + k) := Nat.lt_of_lt_of_le hx (Nat.pow_le_pow_right (by decide) (by omega))
  have h3 := int_add_lt h2 h1
  rw [show k + 11 = 10 + k + 1 by omega]; exact h3
theorem runG_bz {s : Int} (hs : s = 1 ∨ s = -1) {k : Nat} {m : Z4} {x : Run} (h : Bz k m) (hx : x.2 < 1024) : Bz (k + 11) (runG s m x) := by
  obtain ⟨h1, h2, h3, h4⟩ := h
  have up : ∀ {n : Nat}, n < 2 ^ k → n < 2 ^ (k + 11) := fun h => Nat.lt_of_lt_of_le h (Nat.pow_le_pow_right (by decide) (by omega))
  have z1 : (x.2 : Int).natAbs < 2 ^ 10 := by rw [Int.natAbs_natCast]; exact hx
  have z2 : (-(s * (x.2 : Int))).natAbs < 2 ^ 10 := by
    rcases hs with rfl | rfl
    · rw [Int.one_mul, Int.natAbs_neg]; exact z1
    · rw [show -(-1 * (x.2 : Int)) = (x.2 : Int) by omega]; exact z1
  unfold runG
  split
  · exact ⟨bz_add h1 h3 z1, bz_add h2 h4 z1, up h3, up h4⟩
  · refine ⟨up h1, up h2, ?_, ?_⟩
    · show (m.2.2.1 - s * x.2 * m.1).natAbs < _
      rw [show m.2.2.1 - s * x.2 * m.1 = m.2.2.1 + -(s * x.2) * m.1 by grind]; exact bz_add h3 h1 z2
    · show (m.2.2.2 - s * x.2 * m.2.1).natAbs < _
      rw [show m.2.2.2 - s * x.2 * m.2.1 = m.2.2.2 + -(s * x.2) * m.2.1 by grind]; exact bz_add h4 h2 z2
theorem fold_bz {s : Int} (hs : s = 1 ∨ s = -1) {rs : List Run} (h : ∀ x ∈ rs, x.2 < 1024) : ∀ {k : Nat} {m : Z4}, Bz k m → Bz (k + 11 * rs.length) (rs.foldl (runG s) m) := by
  induction rs with
  | nil => intro k m hm; exact hm
  | cons x r ih =>
    intro k m hm
    have := ih (fun z hz => h z (List.mem_cons_of_mem _ hz)) (runG_bz hs hm (h x List.mem_cons_self))
    rw [List.length_cons, show k + 11 * (r.length + 1) = k + 11 + 11 * r.length by omega]
    exact this
theorem one_bz : Bz 1 oneZ := by unfold Bz oneZ; decide
theorem Bz.mono {k l : Nat} {m : Z4} (h : Bz k m) (hk : k ≤ l) : Bz l m := by
  obtain ⟨h1, h2, h3, h4⟩ := h
  have up : ∀ {n : Nat}, n < 2 ^ k → n < 2 ^ l := fun h => Nat.lt_of_lt_of_le h (Nat.pow_le_pow_right (by decide) hk)
  exact ⟨up h1, up h2, up h3, up h4⟩
noncomputable def LnR (rs : List Run) : Prop := rs.length ≤ 600 ∧ ∀ x ∈ rs, x.2 < 1024
theorem take_bzL {s : Int} (hs : s = 1 ∨ s = -1) {rs : List Run} (h : LnR rs) (i : Nat) : Bz 7000 (rowsG s (rs.take i)) := by
  refine (fold_bz hs (rs := rs.take i) (fun x hx => h.2 x (List.mem_of_mem_take hx)) one_bz).mono ?_
  have := h.1
  rw [List.length_take]
  omega
theorem rowsG_on {s : Int} {rs : List Run} {i : Nat} {x : Run} (h : rs[i]? = some x) : rowsG s (rs.take (i + 1)) = runG s (rowsG s (rs.take i)) x := by
  unfold rowsG
  rw [List.take_add_one, h]
  show List.foldl _ _ (rs.take i ++ [x]) = _
  rw [List.foldl_append]
  rfl
theorem AltR.words : ∀ {rs : List Run}, AltR rs → ∀ x ∈ rs, (x.1 = "gap" ∨ x.1 = "glass") ∧ 0 < x.2
  | [], _, x, hx => by cases hx
  | y :: r, h, x, hx => by
    rcases List.mem_cons.mp hx with rfl | hx
    · exact h.head
    · exact AltR.words h.tail x hx
theorem AltR.drop : ∀ {rs : List Run} (i : Nat), AltR rs → AltR (rs.drop i)
  | rs, 0, h => h
  | [], i + 1, h => h
  | x :: r, i + 1, h => AltR.drop i h.tail
theorem take_one {rs : List Run} {i : Nat} {x : Run} (h : rs[i]? = some x) : rs.take (i + 1) = rs.take i ++ [x] ∧ rs.drop i = x :: rs.drop (i + 1) := by
  constructor
  · rw [List.take_add_one, h]; rfl
  · obtain ⟨hl, he⟩ := List.getElem?_eq_some_iff.mp h
    rw [List.drop_eq_getElem_cons hl, he]
theorem AltR.snoc : ∀ {rs : List Run} {x : Run}, AltR rs → (x.1 = "gap" ∨ x.1 = "glass") → 0 < x.2 → (∀ y, rs.getLast? = some y → y.1 ≠ x.1) → AltR (rs ++ [x])
  | [], x, _, h1, h2, _ => ⟨h1, h2⟩
  | [y], x, h, h1, h2, h3 => ⟨h.1, h.2, h3 y rfl, h1, h2⟩
  | y :: z :: r, x, h, h1, h2, h3 => ⟨h.1, h.2.1, h.2.2.1, AltR.snoc (rs := z :: r) h.2.2.2 h1 h2 fun w hw => h3 w (by rw [List.getLast?_cons_cons]; exact hw)⟩
theorem cut_one {x : D} {xs : List D} : cutD (x :: xs) (some 1) none = xs := by
  rw [show (1 : Int) = ((1 : Nat) : Int) from rfl, cut_from]; rfl
local macro_rules | `(tactic| walk_at "inj") => `(tactic| (rename_i e h; simp only [List.cons.injEq, and_true, true_and, GM.ratD_iff, GM.partD_iff, GM.partsD_iff, GM.lineD_iff, GM.linesD_iff, D.tup.injEq, D.ref.injEq, D.int.injEq, D.str.injEq, D.bl.injEq, D.vl.injEq, Int.natCast_inj, and_assoc] at e; (repeat (obtain ⟨e1, e⟩ := e; subst e1)); subst e; exact h))
local macro_rules | `(tactic| walk_at "injs") => `(tactic| (rename_i e o h; rcases o with o | o <;> (subst o; first | (exfalso; simp only [D.tup.injEq, List.cons.injEq, reduceCtorEq, false_and, and_false] at e; done) | (simp only [List.cons.injEq, and_true, true_and, GM.ratD_iff, GM.partD_iff, GM.partsD_iff, GM.lineD_iff, GM.linesD_iff, D.tup.injEq, D.ref.injEq, D.int.injEq, D.str.injEq, D.bl.injEq, D.vl.injEq, Int.natCast_inj, and_assoc] at e; (repeat (obtain ⟨e1, e⟩ := e; subst e1)); subst e; exact h))))
noncomputable abbrev sWhE_b (x : D) (M : Mem) (R : DK) (Y : DXK) : Prop := ∃ m : Z4, x = tabI m ∧ R (.vl [.int m.1, .int m.2.1, .int m.2.2.1, .int m.2.2.2]) M
noncomputable def sWhE : DSp := fun ds M R Y => ∃ (x : D), ds = [x] ∧ sWhE_b x M R Y
theorem z_sWhE {x : D} {M : Mem} {R : DK} {Y : DXK} : sWhE [x] M R Y = (sWhE_b x M R Y) := propext ⟨fun z => by obtain ⟨_, _, _⟩ := z; walk_at "inj", fun h => ⟨x, rfl, h⟩⟩
noncomputable abbrev sRefB_b (n : Int) (M : Mem) (R : DK) (Y : DXK) : Prop := n ≤ 4000 ∧ R .non M
noncomputable def sRefB : DSp := fun ds M R Y => ∃ (n : Int), ds = [.int n] ∧ sRefB_b n M R Y
theorem z_sRefB {n : Int} {M : Mem} {R : DK} {Y : DXK} : sRefB [.int n] M R Y = (sRefB_b n M R Y) := propext ⟨fun z => by obtain ⟨_, _, _⟩ := z; walk_at "inj", fun h => ⟨n, rfl, h⟩⟩
noncomputable abbrev sTold_b (x : D) (M : Mem) (R : DK) (Y : DXK) : Prop := ∃ m : Z4, x = fourI m ∧ R (tabI m) M
noncomputable def sTold : DSp := fun ds M R Y => ∃ (x : D), ds = [x] ∧ sTold_b x M R Y
theorem z_sTold {x : D} {M : Mem} {R : DK} {Y : DXK} : sTold [x] M R Y = (sTold_b x M R Y) := propext ⟨fun z => by obtain ⟨_, _, _⟩ := z; walk_at "inj", fun h => ⟨x, rfl, h⟩⟩
noncomputable abbrev sRuns_b (p : Addr) (n : Int) (M : Mem) (R : DK) (Y : DXK) : Prop := PoolAt M p ∧ (0 ≤ n ∧ n ≤ 12) ∧ ∀ (rs : List Run) M', AltR rs → (rs.length : Int) ≤ n → (∀ x ∈ rs, x.2 ≤ 60) → PStep p M M' → R (.vl (rs.map ruD)) M'
noncomputable def sRuns : DSp := fun ds M R Y => ∃ (p : Addr) (n : Int), ds = [.ref p, .int n] ∧ sRuns_b p n M R Y
theorem z_sRuns {p : Addr} {n : Int} {M : Mem} {R : DK} {Y : DXK} : sRuns [.ref p, .int n] M R Y = (sRuns_b p n M R Y) := propext ⟨fun z => by obtain ⟨_, _, _, _⟩ := z; walk_at "inj", fun h => ⟨p, n, rfl, h⟩⟩
noncomputable abbrev sLed53_b (x : D) (s : Int) (M : Mem) (R : DK) (Y : DXK) : Prop := ∃ rs : List Run, seqD M x (rs.map ruD) ∧ ((s = 1 ∨ s = -1) ∧ LnR rs) ∧ R (fourI (rowsG s rs)) M
noncomputable def sLed53 : DSp := fun ds M R Y => ∃ (x : D) (s : Int), ds = [x, .int s] ∧ sLed53_b x s M R Y
theorem z_sLed53 {x : D} {s : Int} {M : Mem} {R : DK} {Y : DXK} : sLed53 [x, .int s] M R Y = (sLed53_b x s M R Y) := propext ⟨fun z => by obtain ⟨_, _, _, _⟩ := z; walk_at "inj", fun h => ⟨x, s, rfl, h⟩⟩
end GM

namespace GM
open PySem PySem.Spec L2 DL
noncomputable def mulM (x y : Z4) : Z4 := (x.1 * y.1 + x.2.1 * y.2.2.1, x.1 * y.2.1 + x.2.1 * y.2.2.2, x.2.2.1 * y.1 + x.2.2.2 * y.2.2.1, x.2.2.1 * y.2.1 + x.2.2.2 * y.2.2.2)
theorem mulM_assoc (x y z : Z4) : mulM (mulM x y) z = mulM x (mulM y z) := ext4z (by unfold mulM; grind) (by unfold mulM; grind) (by unfold mulM; grind) (by unfold mulM; grind)
theorem one_mulM (x : Z4) : mulM oneZ x = x := ext4z (by unfold mulM oneZ; grind) (by unfold mulM oneZ; grind) (by unfold mulM oneZ; grind) (by unfold mulM oneZ; grind)
theorem mulM_one (x : Z4) : mulM x oneZ = x := ext4z (by unfold mulM oneZ; grind) (by unfold mulM oneZ; grind) (by unfold mulM oneZ; grind) (by unfold mulM oneZ; grind)
noncomputable def gnM (l : Bool) : Z4 := if l then (1, 1, 0, 1) else (1, 0, -1, 1)
noncomputable def ivM (l : Bool) : Z4 := if l then (1, -1, 0, 1) else (1, 0, 1, 1)
theorem gn_iv (l : Bool) : mulM (gnM l) (ivM l) = oneZ := by cases l <;> rfl
noncomputable def hfM : Z4 := (0, 1, -1, 0)
noncomputable def hpM : Nat → Z4
  | 0 => oneZ
  | n + 1 => mulM hfM (hpM n)
theorem hp_comm (n : Nat) : mulM hfM (hpM n) = mulM (hpM n) hfM := by
  induction n with
  | zero => rw [hpM, mulM_one, one_mulM]
  | succ n ih => rw [hpM, mulM_assoc, ← ih]
theorem hp_add (m n : Nat) : mulM (hpM m) (hpM n) = hpM (m + n) := by
  induction m with
  | zero => rw [hpM, one_mulM, Nat.zero_add]
  | succ m ih => rw [hpM, mulM_assoc, ih, Nat.succ_add]; rfl
theorem hp4 (n : Nat) : hpM (n + 4) = hpM n := by
  rw [← hp_add]; show mulM (hpM n) oneZ = _; rw [mulM_one]
theorem hp_mod (n : Nat) : hpM n = hpM (n % 4) := by
  have : ∀ q r, hpM (r + 4 * q) = hpM r := fun q => by
    induction q with
    | zero => intro r; rfl
    | succ q ih => intro r; rw [show r + 4 * (q + 1) = (r + 4 * q) + 4 by omega, hp4, ih]
  have := this (n / 4) (n % 4)
  rw [show n % 4 + 4 * (n / 4) = n by omega] at this
  exact this
noncomputable def mtW : List Bool → Z4
  | [] => oneZ
  | l :: w => mulM (mtW w) (gnM l)
theorem mt_app (v w : List Bool) : mtW (v ++ w) = mulM (mtW w) (mtW v) := by
  induction v with
  | nil => show mtW w = mulM (mtW w) oneZ; rw [mulM_one]
  | cons l v ih => show mulM (mtW (v ++ w)) (gnM l) = mulM (mtW w) (mulM (mtW v) (gnM l)); rw [ih, mulM_assoc]
theorem hf_gn (l : Bool) : mulM hfM (gnM l) = mulM (gnM (!l)) hfM := by cases l <;> rfl
theorem hf_mt (w : List Bool) : mulM hfM (mtW w) = mulM (mtW (w.map (!·))) hfM := by
  induction w with
  | nil => rfl
  | cons l w ih =>
    show mulM hfM (mulM (mtW w) (gnM l)) = mulM (mulM (mtW (w.map (!·))) (gnM (!l))) hfM
    rw [← mulM_assoc, ih, mulM_assoc, hf_gn, mulM_assoc]
theorem not_not_map (w : List Bool) : (w.map (!·)).map (!·) = w := by
  rw [List.map_map]; conv => rhs; rw [← List.map_id w]
  exact List.map_congr_left fun x _ => by cases x <;> rfl
theorem mt_hf (w : List Bool) : mulM (mtW w) hfM = mulM hfM (mtW (w.map (!·))) := by rw [hf_mt, not_not_map]
theorem tri (l : Bool) : mulM (mulM (gnM l) (gnM (!l))) (gnM l) = hfM := by cases l <;> rfl
noncomputable def NF : List Bool → Prop
  | a :: b :: c :: r => ¬ (a ≠ b ∧ a = c) ∧ NF (b :: c :: r)
  | _ => True
theorem NF.tail {a : Bool} {w : List Bool} (h : NF (a :: w)) : NF w := by
  match w, h with
  | [], _ => trivial
  | [b], _ => trivial
  | b :: c :: r, h => exact h.2
theorem NF.swap : ∀ {w : List Bool}, NF w → NF (w.map (!·))
  | [], _ => trivial
  | [_], _ => trivial
  | [_, _], _ => trivial
  | a :: b :: c :: r, h => ⟨fun ⟨z1, z2⟩ => h.1 ⟨fun e => z1 (by rw [e]), by cases a <;> cases c <;> simp_all⟩, NF.swap (w := b :: c :: r) h.2⟩
theorem NF.pre : ∀ {v w : List Bool}, NF (v ++ w) → NF v
  | [], _, _ => trivial
  | [_], _, _ => trivial
  | [_, _], _, _ => trivial
  | a :: b :: c :: r, w, h => ⟨h.1, NF.pre (v := b :: c :: r) (w := w) h.2⟩
theorem NF.cons_or (l : Bool) {w : List Bool} (h : NF w) : NF (l :: w) ∨ ∃ v, w = (!l) :: l :: v := by
  match w, h with
  | [], _ => exact .inl trivial
  | [b], _ => exact .inl trivial
  | b :: c :: r, h =>
    by_cases z : l ≠ b ∧ l = c
    · obtain ⟨z1, rfl⟩ := z
      exact .inr ⟨r, by cases l <;> cases b <;> simp_all⟩
    · exact .inl ⟨z, h⟩
theorem NF.snoc_or (l : Bool) : ∀ {w : List Bool}, NF w → NF (w ++ [l]) ∨ ∃ v, w = v ++ [l, !l]
  | [], _ => .inl trivial
  | [_], _ => .inl trivial
  | [a, b], _ => by
    by_cases z : a ≠ b ∧ a = l
    · obtain ⟨z1, rfl⟩ := z
      exact .inr ⟨[], by cases a <;> cases b <;> simp_all⟩
    · exact .inl ⟨z, trivial⟩
  | a :: b :: c :: r, h => by
    rcases NF.snoc_or l (w := b :: c :: r) h.2 with g | ⟨v, g⟩
    · exact .inl ⟨h.1, g⟩
    · exact .inr ⟨a :: v, by rw [g]; rfl⟩
noncomputable def dotC (m : Z4) : Int := m.1 * m.2.1 + m.2.2.1 * m.2.2.2
noncomputable def sq1 (m : Z4) : Int := m.1 * m.1 + m.2.2.1 * m.2.2.1
noncomputable def sq2 (m : Z4) : Int := m.2.1 * m.2.1 + m.2.2.2 * m.2.2.2
theorem dot_hf (m : Z4) : dotC (mulM hfM m) = dotC m := by unfold dotC mulM hfM; grind
theorem dot_hp (n : Nat) (m : Z4) : dotC (mulM (hpM n) m) = dotC m := by
  induction n with
  | zero => rw [hpM, one_mulM]
  | succ n ih => rw [hpM, mulM_assoc, dot_hf, ih]
noncomputable def detM (m : Z4) : Int := m.1 * m.2.2.2 - m.2.1 * m.2.2.1
theorem det_mul (x y : Z4) : detM (mulM x y) = detM x * detM y := by unfold detM mulM; grind
theorem det_gn (l : Bool) : detM (gnM l) = 1 := by cases l <;> rfl
theorem det_mt (w : List Bool) : detM (mtW w) = 1 := by
  induction w with
  | nil => rfl
  | cons l w ih => show detM (mulM _ _) = 1; rw [det_mul, ih, det_gn]; rfl
theorem sq_pos {x y : Int} (h : x ≠ 0 ∨ y ≠ 0) : 0 < x * x + y * y := by
  have hx : 0 ≤ x * x := by rcases Int.le_total 0 x with h | h; exact Int.mul_nonneg h h; exact Int.mul_nonneg_of_nonpos_of_nonpos h h
  have hy : 0 ≤ y * y := by rcases Int.le_total 0 y with h | h; exact Int.mul_nonneg h h; exact Int.mul_nonneg_of_nonpos_of_nonpos h h
  rcases h with h | h
  · have : x * x ≠ 0 := fun e => h (by rcases Int.mul_eq_zero.mp e with e | e <;> exact e)
    omega
  · have : y * y ≠ 0 := fun e => h (by rcases Int.mul_eq_zero.mp e with e | e <;> exact e)
    omega
theorem sq1_pos {m : Z4} (h : detM m = 1) : 0 < sq1 m := sq_pos (by
  by_cases a : m.1 = 0
  · right; intro c; unfold detM at h; rw [a, c] at h; omega
  · exact .inl a)
theorem sq2_pos {m : Z4} (h : detM m = 1) : 0 < sq2 m := sq_pos (by
  by_cases a : m.2.1 = 0
  · right; intro c; unfold detM at h; rw [a, c] at h; omega
  · exact .inl a)
theorem dot_t (m : Z4) : dotC (mulM m (gnM true)) = dotC m + sq1 m ∧ sq1 (mulM m (gnM true)) = sq1 m ∧ sq2 (mulM m (gnM true)) = sq2 m + 2 * dotC m + sq1 m := by
  unfold dotC sq1 sq2 mulM gnM; simp only [if_true]; grind
theorem dot_f (m : Z4) : dotC (mulM m (gnM false)) = dotC m - sq2 m ∧ sq2 (mulM m (gnM false)) = sq2 m ∧ sq1 (mulM m (gnM false)) = sq1 m - 2 * dotC m + sq2 m := by
  unfold dotC sq1 sq2 mulM gnM; simp only [Bool.false_eq_true, if_false]; grind
noncomputable def SgW : List Bool → Int → Prop
  | [], n => n = 0
  | true :: _, n => 0 < n
  | false :: _, n => n < 0
theorem NF.sign : ∀ {w : List Bool}, NF w → SgW w (dotC (mtW w))
  | [], _ => show dotC oneZ = 0 by decide
  | [true], _ => show 0 < dotC (mulM oneZ (gnM true)) by decide
  | [false], _ => show dotC (mulM oneZ (gnM false)) < 0 by decide
  | l :: b :: r, h => by
    have hb := NF.sign (w := b :: r) h.tail
    have p1 := sq1_pos (det_mt (b :: r))
    have p2 := sq2_pos (det_mt (b :: r))
    have q1 := sq1_pos (det_mt r)
    have q2 := sq2_pos (det_mt r)
    have ht := dot_t (mtW (b :: r))
    have hf := dot_f (mtW (b :: r))
    have kt := dot_t (mtW r)
    have kf := dot_f (mtW r)
    have hr : NF r := h.tail.tail
    have hs := NF.sign (w := r) hr
    cases l <;> cases b
    · show dotC (mulM (mtW (false :: r)) (gnM false)) < 0
      have hb : dotC (mtW (false :: r)) < 0 := hb
      omega
    · show dotC (mulM (mtW (true :: r)) (gnM false)) < 0
      rw [hf.1]
      show dotC (mulM (mtW r) (gnM true)) - sq2 (mulM (mtW r) (gnM true)) < 0
      rw [kt.1, kt.2.2]
      have : 0 ≤ dotC (mtW r) := by
        match r, h, hs with
        | [], _, hs => have hs : _ = _ := hs; omega
        | true :: _, _, hs => have hs : (0 : Int) < _ := hs; omega
        | false :: _, h, _ => exact absurd ⟨by decide, rfl⟩ h.1
      omega
    · show 0 < dotC (mulM (mtW (false :: r)) (gnM true))
      rw [ht.1]
      show 0 < dotC (mulM (mtW r) (gnM false)) + sq1 (mulM (mtW r) (gnM false))
      rw [kf.1, kf.2.2]
      have : dotC (mtW r) ≤ 0 := by
        match r, h, hs with
        | [], _, hs => have hs : _ = _ := hs; omega
        | false :: _, _, hs => have hs : _ < (0 : Int) := hs; omega
        | true :: _, h, _ => exact absurd ⟨by decide, rfl⟩ h.1
      omega
    · show 0 < dotC (mulM (mtW (true :: r)) (gnM true))
      have hb : 0 < dotC (mtW (true :: r)) := hb
      omega
theorem cancelM {x y : Z4} (l : Bool) (h : mulM x (gnM l) = mulM y (gnM l)) : x = y := by
  have := congrArg (fun z => mulM z (ivM l)) h
  simp only [mulM_assoc, gn_iv, mulM_one] at this
  exact this
theorem hp_inj {h k : Nat} (e : hpM h = hpM k) : h % 4 = k % 4 := by
  rw [hp_mod h, hp_mod k] at e
  have h1 := Nat.mod_lt h (show 4 > 0 by decide)
  have k1 := Nat.mod_lt k (show 4 > 0 by decide)
  generalize h % 4 = a at *
  generalize k % 4 = b at *
  match a, b, h1, k1 with
  | 0, 0, _, _ | 1, 1, _, _ | 2, 2, _, _ | 3, 3, _, _ => rfl
  | 0, 1, _, _ | 0, 2, _, _ | 0, 3, _, _ | 1, 0, _, _ | 1, 2, _, _ | 1, 3, _, _ | 2, 0, _, _ | 2, 1, _, _ | 2, 3, _, _ | 3, 0, _, _ | 3, 1, _, _ | 3, 2, _, _ => exact absurd e (by decide)
theorem nf_uniq {h k : Nat} : ∀ {w v : List Bool}, NF w → NF v → mulM (hpM h) (mtW w) = mulM (hpM k) (mtW v) → w = v ∧ h % 4 = k % 4
  | [], [], _, _, e => ⟨rfl, hp_inj (by have e : mulM (hpM h) oneZ = mulM (hpM k) oneZ := e; rw [mulM_one, mulM_one] at e; exact e)⟩
  | [], l :: v, _, hv, e => by
    have s := hv.sign
    have d := congrArg dotC e
    rw [dot_hp, dot_hp] at d
    have z : dotC (mtW []) = 0 := rfl
    cases l
    · have s : _ < (0 : Int) := s; omega
    · have s : (0 : Int) < _ := s; omega
  | l :: w, [], hw, _, e => by
    have s := hw.sign
    have d := congrArg dotC e
    rw [dot_hp, dot_hp] at d
    have z : dotC (mtW []) = 0 := rfl
    cases l
    · have s : _ < (0 : Int) := s; omega
    · have s : (0 : Int) < _ := s; omega
  | l :: w, b :: v, hw, hv, e => by
    have s := hw.sign
    have t := hv.sign
    have d := congrArg dotC e
    rw [dot_hp, dot_hp] at d
    have lb : l = b := by
      cases l <;> cases b
      · rfl
      · have s : _ < (0 : Int) := s
        have t : (0 : Int) < _ := t
        omega
      · have t : _ < (0 : Int) := t
        have s : (0 : Int) < _ := s
        omega
      · rfl
    subst lb
    have e : mulM (hpM h) (mulM (mtW w) (gnM l)) = mulM (hpM k) (mulM (mtW v) (gnM l)) := e
    rw [← mulM_assoc, ← mulM_assoc] at e
    obtain ⟨g1, g2⟩ := nf_uniq hw.tail hv.tail (cancelM l e)
    exact ⟨by rw [g1], g2⟩
noncomputable def Cn (T : Z4) (n : Nat) : Prop := ∃ (w : List Bool) (h : Nat), NF w ∧ h < 4 ∧ T = mulM (hpM h) (mtW w) ∧ n = w.length + 3 * h
theorem Cn.uniq {T : Z4} {n k : Nat} (a : Cn T n) (b : Cn T k) : n = k := by
  obtain ⟨w, h, a1, a2, a3, rfl⟩ := a
  obtain ⟨v, j, b1, b2, b3, rfl⟩ := b
  obtain ⟨rfl, e⟩ := nf_uniq a1 b1 (a3.symm.trans b3)
  rw [Nat.mod_eq_of_lt a2, Nat.mod_eq_of_lt b2] at e
  rw [e]
theorem Cn.mk {w : List Bool} {h : Nat} (hw : NF w) (hh : h ≤ 4) : ∃ n, Cn (mulM (hpM h) (mtW w)) n ∧ n ≤ w.length + 3 * h := by
  rcases Nat.lt_or_ge h 4 with z | z
  · exact ⟨_, ⟨w, h, hw, z, rfl, rfl⟩, Nat.le_refl _⟩
  · obtain rfl : h = 4 := Nat.le_antisymm hh z
    exact ⟨_, ⟨w, 0, hw, by decide, by rw [show hpM 4 = hpM 0 from rfl], rfl⟩, by omega⟩
theorem Cn.one : Cn oneZ 0 := ⟨[], 0, trivial, by decide, rfl, rfl⟩
theorem Cn.ahead {T : Z4} {n : Nat} (a : Cn T n) (l : Bool) : ∃ k, Cn (mulM T (gnM l)) k ∧ k ≤ n + 1 := by
  obtain ⟨w, h, a1, a2, rfl, rfl⟩ := a
  have e : mulM (mulM (hpM h) (mtW w)) (gnM l) = mulM (hpM h) (mtW (l :: w)) := mulM_assoc ..
  rcases a1.cons_or l with g | ⟨v, rfl⟩
  · exact ⟨_, ⟨l :: w, h, g, a2, e, rfl⟩, by rw [List.length_cons]; omega⟩
  · have e2 : mtW (l :: (!l) :: l :: v) = mulM hfM (mtW (v.map (!·))) := by
      show mulM (mulM (mulM (mtW v) (gnM l)) (gnM (!l))) (gnM l) = _
      rw [← mt_hf, ← tri l, mulM_assoc, mulM_assoc, mulM_assoc]
    have e3 : mulM (hpM h) (mulM hfM (mtW (v.map (!·)))) = mulM (hpM (h + 1)) (mtW (v.map (!·))) := by rw [← mulM_assoc, ← hp_comm]; rfl
    obtain ⟨k, k1, k2⟩ := Cn.mk (w := v.map (!·)) (h := h + 1) a1.tail.tail.swap (by omega)
    refine ⟨k, by rw [e, e2, e3]; exact k1, ?_⟩
    rw [List.length_map] at k2
    rw [List.length_cons, List.length_cons]
    omega
noncomputable def swN (h : Nat) (l : Bool) : Bool := if h % 2 = 0 then l else !l
theorem gn_hp (h : Nat) : ∀ l, mulM (gnM l) (hpM h) = mulM (hpM h) (gnM (swN h l)) := by
  induction h with
  | zero => intro l; rw [hpM, one_mulM, mulM_one]; rfl
  | succ h ih =>
    intro l
    have e : gnM l = gnM (!(!l)) := by rw [Bool.not_not]
    rw [hpM, ← mulM_assoc, e, ← hf_gn, mulM_assoc, ih (!l), mulM_assoc]
    have : swN h (!l) = swN (h + 1) l := by
      unfold swN
      rcases Nat.mod_two_eq_zero_or_one h with z | z
      · rw [if_pos z, if_neg (by omega)]
      · rw [if_neg (by omega), if_pos (by omega), Bool.not_not]
    rw [this]
theorem Cn.behind {T : Z4} {n : Nat} (a : Cn T n) (l : Bool) : ∃ k, Cn (mulM (gnM l) T) k ∧ k ≤ n + 1 := by
  obtain ⟨w, h, a1, a2, rfl, rfl⟩ := a
  have e : mulM (gnM l) (mulM (hpM h) (mtW w)) = mulM (hpM h) (mtW (w ++ [swN h l])) := by
    rw [← mulM_assoc, gn_hp, mulM_assoc, mt_app]
    show _ = mulM _ (mulM (mulM oneZ _) _)
    rw [one_mulM]
  generalize swN h l = c at e
  rcases a1.snoc_or c with g | ⟨v, rfl⟩
  · exact ⟨_, ⟨w ++ [c], h, g, a2, e, rfl⟩, by rw [List.length_append]; show _ + 1 + _ ≤ _; omega⟩
  · have e2 : mtW (v ++ [c, !c] ++ [c]) = mulM hfM (mtW v) := by
      rw [List.append_assoc, mt_app]
      show mulM (mulM (mulM (mulM oneZ (gnM c)) (gnM (!c))) (gnM c)) _ = _
      rw [one_mulM, tri]
    have e3 : mulM (hpM h) (mulM hfM (mtW v)) = mulM (hpM (h + 1)) (mtW v) := by rw [← mulM_assoc, ← hp_comm]; rfl
    obtain ⟨k, k1, k2⟩ := Cn.mk (w := v) (h := h + 1) a1.pre (by omega)
    refine ⟨k, by rw [e, e2, e3]; exact k1, ?_⟩
    rw [List.length_append]
    show _ ≤ _ + 2 + _ + 1
    omega
theorem Cn.aheadW (u : List Bool) : ∀ {T : Z4} {n : Nat}, Cn T n → ∃ k, Cn (mulM T (mtW u)) k ∧ k ≤ n + u.length := by
  induction u with
  | nil => intro T n a; exact ⟨n, by show Cn (mulM T oneZ) n; rw [mulM_one]; exact a, Nat.le_refl _⟩
  | cons l u ih =>
    intro T n a
    obtain ⟨k, k1, k2⟩ := ih a
    obtain ⟨j, j1, j2⟩ := k1.ahead l
    exact ⟨j, by show Cn (mulM T (mulM (mtW u) (gnM l))) j; rw [← mulM_assoc]; exact j1, by rw [List.length_cons]; omega⟩
theorem Cn.behindW (u : List Bool) : ∀ {T : Z4} {n : Nat}, Cn T n → ∃ k, Cn (mulM (mtW u) T) k ∧ k ≤ n + u.length := by
  induction u with
  | nil => intro T n a; exact ⟨n, by show Cn (mulM oneZ T) n; rw [one_mulM]; exact a, Nat.le_refl _⟩
  | cons l u ih =>
    intro T n a
    obtain ⟨j, j1, j2⟩ := a.behind l
    obtain ⟨k, k1, k2⟩ := ih j1
    exact ⟨k, by show Cn (mulM (mulM (mtW u) (gnM l)) T) k; rw [mulM_assoc]; exact k1, by rw [List.length_cons]; omega⟩
theorem Cn.word (u : List Bool) : ∃ n, Cn (mtW u) n ∧ n ≤ u.length := by
  obtain ⟨k, k1, k2⟩ := Cn.one.aheadW u
  rw [one_mulM] at k1
  exact ⟨k, k1, by omega⟩
noncomputable def ngM (m : Z4) : Z4 := (-m.1, -m.2.1, -m.2.2.1, -m.2.2.2)
theorem ng_hp (m : Z4) : ngM m = mulM (hpM 2) m := ext4z (by unfold ngM mulM; show -m.1 = -1 * m.1 + 0 * _; omega) (by unfold ngM mulM; show -m.2.1 = -1 * m.2.1 + 0 * _; omega) (by unfold ngM mulM; show -m.2.2.1 = 0 * _ + -1 * m.2.2.1; omega) (by unfold ngM mulM; show -m.2.2.2 = 0 * _ + -1 * m.2.2.2; omega)
theorem Cn.neg {T : Z4} {n : Nat} (a : Cn T n) : Cn (ngM T) (n + 6) ∨ ∃ k, Cn (ngM T) k ∧ k + 6 = n := by
  obtain ⟨w, h, a1, a2, rfl, rfl⟩ := a
  have e : ngM (mulM (hpM h) (mtW w)) = mulM (hpM (2 + h)) (mtW w) := by rw [ng_hp, ← mulM_assoc, hp_add]
  rcases Nat.lt_or_ge h 2 with z | z
  · exact .inl ⟨w, 2 + h, a1, by omega, e, by omega⟩
  · refine .inr ⟨_, ⟨w, h - 2, a1, by omega, ?_, rfl⟩, by omega⟩
    rw [e, show 2 + h = h - 2 + 4 by omega, hp4]
theorem Cn.det {T : Z4} {n : Nat} (a : Cn T n) : detM T = 1 := by
  obtain ⟨w, h, a1, a2, rfl, rfl⟩ := a
  rw [det_mul, det_mt]
  match h, a2 with
  | 0, _ | 1, _ | 2, _ | 3, _ => rfl
theorem Cn.cut {u v : List Bool} (a : Cn (mtW (u ++ v)) (u.length + v.length)) : Cn (mtW u) u.length ∧ Cn (mtW v) v.length := by
  obtain ⟨n, n1, n2⟩ := Cn.word u
  obtain ⟨k, k1, k2⟩ := Cn.word v
  obtain ⟨i, i1, i2⟩ := n1.behindW v
  obtain ⟨j, j1, j2⟩ := k1.aheadW u
  rw [← mt_app] at i1 j1
  have e1 := a.uniq i1
  have e2 := a.uniq j1
  have e3 : n = u.length := by omega
  have e4 : k = v.length := by omega
  rw [e3] at n1
  rw [e4] at k1
  exact ⟨n1, k1⟩
end GM

namespace GM
open PySem PySem.Spec L2 DL
noncomputable def pwM (l : Bool) (r : Int) : Z4 := if l then (1, r, 0, 1) else (1, 0, -r, 1)
theorem pw_add (l : Bool) (r s : Int) : mulM (pwM l r) (pwM l s) = pwM l (r + s) := by cases l <;> exact ext4z (by unfold mulM pwM; simp) (by unfold mulM pwM; simp <;> omega) (by unfold mulM pwM; simp <;> omega) (by unfold mulM pwM; simp)
theorem pw_zero (l : Bool) : pwM l 0 = oneZ := by cases l <;> rfl
theorem pw_one (l : Bool) : pwM l 1 = gnM l := by cases l <;> rfl
theorem hf_pw (l : Bool) (r : Int) : mulM hfM (pwM l r) = mulM (pwM (!l) r) hfM := by cases l <;> exact ext4z (by unfold mulM pwM hfM; simp) (by unfold mulM pwM hfM; simp) (by unfold mulM pwM hfM; simp) (by unfold mulM pwM hfM; simp)
noncomputable def arM : Bool → List Int → Z4
  | _, [] => oneZ
  | l, r :: rs => mulM (arM (!l) rs) (pwM l r)
theorem hf_ar (rs : List Int) : ∀ l, mulM hfM (arM l rs) = mulM (arM (!l) rs) hfM := by
  induction rs with
  | nil => intro l; rfl
  | cons r rs ih => intro l; rw [arM, arM, ← mulM_assoc, ih, mulM_assoc, hf_pw, mulM_assoc]
noncomputable def hpZ (h : Int) : Z4 := hpM (h % 4).toNat
theorem hpZ_add (h k : Int) : mulM (hpZ h) (hpZ k) = hpZ (h + k) := by
  unfold hpZ
  rw [hp_add, hp_mod]
  congr 1
  omega
theorem hpZ_one : hpZ 1 = hfM := by show mulM hfM oneZ = hfM; exact mulM_one _
theorem hpZ_nat (n : Nat) : hpZ (n : Int) = hpM n := by
  unfold hpZ; rw [hp_mod n]; congr 1
noncomputable def swZ (h : Int) (l : Bool) : Bool := if h % 2 = 0 then l else !l
theorem swZ_add (h k : Int) (l : Bool) : swZ h (swZ k l) = swZ (h + k) l := by
  unfold swZ
  split <;> split <;> split <;> first | rfl | (exfalso; omega) | (rw [Bool.not_not])
theorem swZ_one (l : Bool) : (!l) = swZ 1 l := rfl
theorem swZ_even {h : Int} (e : h % 2 = 0) (l : Bool) : swZ h l = l := if_pos e
theorem hpM_ar (n : Nat) : ∀ (l : Bool) (rs : List Int), mulM (hpM n) (arM l rs) = mulM (arM (swZ n l) rs) (hpM n) := by
  induction n with
  | zero => intro l rs; rw [hpM, one_mulM, mulM_one]; rfl
  | succ n ih =>
    intro l rs
    rw [hpM, mulM_assoc, ih, ← mulM_assoc, hf_ar, mulM_assoc]
    rw [swZ_one, swZ_add, show (1 : Int) + (n : Int) = ((n + 1 : Nat) : Int) by omega]
theorem hpZ_ar (h : Int) (l : Bool) (rs : List Int) : mulM (hpZ h) (arM l rs) = mulM (arM (swZ h l) rs) (hpZ h) := by
  unfold hpZ
  rw [hpM_ar]
  have : swZ (((h % 4).toNat : Nat) : Int) l = swZ h l := by unfold swZ; split <;> split <;> first | rfl | (exfalso; omega)
  rw [this]
theorem ar_hpZ (h : Int) (l : Bool) (rs : List Int) : mulM (arM l rs) (hpZ h) = mulM (hpZ h) (arM (swZ h l) rs) := by
  rw [hpZ_ar, swZ_add, swZ_even (by omega)]
noncomputable def anew : List Int → List Int
  | [] => []
  | r :: rest => if r = 0 then rest else 1 :: (List.replicate (-r - 1).toNat 2 ++ ((rest.headD 0 + 1) :: rest.tail))
theorem anew_cons (r : Int) (rest : List Int) : anew (r :: rest) = if r = 0 then rest else 1 :: (List.replicate (-r - 1).toNat 2 ++ ((rest.headD 0 + 1) :: rest.tail)) := rfl
theorem neg_one (l : Bool) : mulM hfM (pwM l (-1)) = mulM (pwM l 1) (pwM (!l) 1) := by cases l <;> rfl
theorem anew_neg (n : Nat) : ∀ (l : Bool) (x : Int) (t : List Int), mulM (hpM (n + 1)) (arM l (-((n : Int) + 1) :: x :: t)) = arM (!l) (1 :: (List.replicate n 2 ++ ((x + 1) :: t))) := by
  have one : ∀ (l : Bool) (x : Int) (t : List Int), mulM hfM (arM l (-1 :: x :: t)) = arM (!l) (1 :: (x + 1) :: t) := fun l x t => by
    rw [arM, arM, arM, arM, ← mulM_assoc, ← mulM_assoc, hf_ar]
    simp only [Bool.not_not]
    rw [mulM_assoc, mulM_assoc, ← mulM_assoc hfM, hf_pw]
    simp only [Bool.not_not]
    rw [mulM_assoc, neg_one, ← mulM_assoc (pwM l x), pw_add, mulM_assoc]
  induction n with
  | zero => intro l x t; show mulM (mulM hfM oneZ) _ = _; rw [mulM_one]; exact one l x t
  | succ n ih =>
    intro l x t
    have h := ih l 1 ((x + 1) :: t)
    have e1 : arM l (-((n + 1 : Nat) + 1 : Int) :: x :: t) = mulM (mulM (arM (!l) (x :: t)) (pwM l (-1))) (pwM l (-((n : Int) + 1))) := by
      rw [mulM_assoc, pw_add, show -1 + -((n : Int) + 1) = -(((n + 1 : Nat) : Int) + 1) by omega]; rfl
    have e2 : mulM hfM (mulM (arM (!l) (x :: t)) (pwM l (-1))) = arM (!l) (1 :: (x + 1) :: t) := one l x t
    rw [e1]
    show mulM (mulM hfM (hpM (n + 1))) _ = _
    rw [hp_comm, mulM_assoc, ← mulM_assoc hfM, e2]
    show mulM (hpM (n + 1)) (arM l (-((n : Int) + 1) :: 1 :: (x + 1) :: t)) = _
    rw [h, List.replicate_succ']
    simp
theorem anew_step {r : Int} (hr : r ≤ 0) (h : Int) (l : Bool) (rest : List Int) : mulM (hpZ h) (arM l (r :: rest)) = mulM (hpZ (h + r)) (arM (!l) (anew (r :: rest))) := by
  rw [anew_cons]
  by_cases z : r = 0
  · subst z
    rw [if_pos rfl, Int.add_zero, arM, pw_zero, mulM_one]
  · rw [if_neg z]
    obtain ⟨n, hn⟩ : ∃ n : Nat, r = -((n : Int) + 1) := ⟨(-r - 1).toNat, by omega⟩
    have hn2 : (-r - 1).toNat = n := by omega
    rw [hn2]
    have key : mulM (hpM (n + 1)) (arM l (r :: rest)) = arM (!l) (1 :: (List.replicate n 2 ++ ((rest.headD 0 + 1) :: rest.tail))) := by
      cases rest with
      | nil =>
        have := anew_neg n l 0 []
        rw [← hn] at this
        have e : arM l [r, 0] = arM l [r] := by rw [arM, arM, arM, arM, pw_zero, mulM_one, arM]
        rw [e] at this
        exact this
      | cons x t => rw [hn]; exact anew_neg n l x t
    rw [← key, ← mulM_assoc]
    have : mulM (hpZ (h + r)) (hpM (n + 1)) = hpZ h := by rw [← hpZ_nat, hpZ_add]; congr 1; omega
    rw [this]
noncomputable def tauM (m : Z4) : Z4 := (m.2.2.2, m.2.1, m.2.2.1, m.1)
theorem tau_mul (x y : Z4) : tauM (mulM x y) = mulM (tauM y) (tauM x) := ext4z (by unfold mulM tauM; grind) (by unfold mulM tauM; grind) (by unfold mulM tauM; grind) (by unfold mulM tauM; grind)
theorem tau_tau (x : Z4) : tauM (tauM x) = x := rfl
theorem tau_pw (l : Bool) (r : Int) : tauM (pwM l r) = pwM l r := by cases l <;> rfl
theorem tau_hpM (n : Nat) : tauM (hpM n) = hpM n := by
  induction n with
  | zero => rfl
  | succ n ih => rw [hpM, tau_mul, ih, hp_comm]; rfl
theorem tau_hpZ (h : Int) : tauM (hpZ h) = hpZ h := tau_hpM _
theorem ar_snoc (rs : List Int) (r : Int) : ∀ l, arM l (rs ++ [r]) = mulM (pwM (swZ rs.length l) r) (arM l rs) := by
  induction rs with
  | nil => intro l; show mulM oneZ (pwM l r) = mulM (pwM l r) oneZ; rw [one_mulM, mulM_one]
  | cons x rs ih =>
    intro l
    rw [List.cons_append, arM, ih, arM, mulM_assoc, swZ_one, swZ_add, List.length_cons, show ((rs.length + 1 : Nat) : Int) = (rs.length : Int) + 1 by omega]
theorem tau_ar (rs : List Int) : ∀ l, tauM (arM l rs) = arM (swZ (rs.length + 1) l) rs.reverse := by
  induction rs with
  | nil => intro l; rfl
  | cons r rs ih =>
    intro l
    rw [arM, tau_mul, ih, tau_pw, List.reverse_cons, ar_snoc, List.length_reverse, List.length_cons, swZ_add, swZ_one, swZ_add, swZ_even (h := (rs.length : Int) + (((rs.length + 1 : Nat) : Int) + 1)) (by omega)]
    rfl
theorem anew_len {r : Int} (hr : r ≤ 0) {rest : List Int} (hne : rest ≠ []) : ((anew (r :: rest)).length : Int) = ((r :: rest).length : Int) - r - 1 := by
  rw [anew_cons]
  cases rest with
  | nil => exact absurd rfl hne
  | cons x t =>
    split
    · simp only [List.length_cons]; omega
    · simp only [List.length_cons, List.length_append, List.length_replicate, List.headD_cons, List.tail_cons]; omega
theorem end_step {r : Int} (hr : r ≤ 0) (h : Int) (l : Bool) {rs : List Int} {rest : List Int} (e : rs.reverse = r :: rest) (hne : rest ≠ []) :
    mulM (hpZ h) (arM l rs) = mulM (hpZ (h + r)) (arM l (anew rs.reverse).reverse) := by
  have e1 : tauM (mulM (hpZ h) (arM l rs)) = tauM (mulM (hpZ (h + r)) (arM l (anew rs.reverse).reverse)) := by
    rw [tau_mul, tau_hpZ, tau_ar, ar_hpZ, tau_mul, tau_hpZ, tau_ar, List.reverse_reverse, ar_hpZ, e, anew_step hr]
    have hl : (rs.length : Int) = ((r :: rest).length : Int) := by rw [← e, List.length_reverse]
    have hk := anew_len hr hne
    rw [List.length_reverse, hl, hk]
    simp only [swZ_add, swZ_one]
    congr 2
    unfold swZ; split <;> split <;> first | rfl | (exfalso; omega)
  have := congrArg tauM e1
  rw [tau_tau, tau_tau] at this
  exact this
noncomputable def Inn (rs : List Int) : Prop := ∀ x ∈ rs.tail.dropLast, 2 ≤ x
theorem Inn.rest {r : Int} {rest : List Int} (h : Inn (r :: rest)) : Inn rest := fun x hx => h x (by
  show x ∈ rest.dropLast
  cases rest with
  | nil => cases hx
  | cons y t =>
    cases t with
    | nil => cases hx
    | cons z t => rw [List.dropLast_cons_of_ne_nil (by simp)]; exact List.mem_cons_of_mem _ hx)
theorem Inn.anew {r : Int} {rest : List Int} (h : Inn (r :: rest)) (hr : r ≤ 0) : Inn (GM.anew (r :: rest)) := by
  rw [anew_cons]
  split
  · exact h.rest
  · intro x hx
    have hx : x ∈ (List.replicate (-r - 1).toNat 2 ++ ((rest.headD 0 + 1) :: rest.tail)).dropLast := hx
    have h : ∀ x ∈ rest.dropLast, 2 ≤ x := h
    rw [List.dropLast_append_of_ne_nil (by simp)] at hx
    rcases List.mem_append.mp hx with hx | hx
    · rw [(List.mem_replicate.mp hx).2]; omega
    · cases rest with
      | nil => cases hx
      | cons y t =>
        cases t with
        | nil => cases hx
        | cons z t =>
          rw [List.headD_cons, List.tail_cons, List.dropLast_cons_of_ne_nil (by simp)] at hx
          rw [List.dropLast_cons_of_ne_nil (by simp)] at h
          rcases List.mem_cons.mp hx with rfl | hx
          · have := h y List.mem_cons_self; omega
          · exact h x (List.mem_cons_of_mem _ hx)
theorem Inn.rev {rs : List Int} (h : Inn rs) : Inn rs.reverse := fun x hx => h x (by
  rw [List.tail_reverse, List.dropLast_reverse] at hx
  rw [List.mem_reverse] at hx
  cases rs with
  | nil => cases hx
  | cons a t =>
    cases t with
    | nil => cases hx
    | cons b t => rw [List.dropLast_cons_of_ne_nil (by simp)] at hx; exact hx)
noncomputable def sAb (rs : List Int) : Nat := (rs.map Int.natAbs).sum
theorem sAb_cons (r : Int) (rs : List Int) : sAb (r :: rs) = r.natAbs + sAb rs := by unfold sAb; rw [List.map_cons, List.sum_cons]
theorem sAb_app (rs ts : List Int) : sAb (rs ++ ts) = sAb rs + sAb ts := by unfold sAb; rw [List.map_append, List.sum_append]
theorem sAb_rep (n : Nat) : sAb (List.replicate n 2) = 2 * n := by
  induction n with
  | zero => rfl
  | succ n ih => rw [List.replicate_succ, sAb_cons, ih]; show 2 + _ = _; omega
theorem sAb_rev (rs : List Int) : sAb rs.reverse = sAb rs := by
  induction rs with
  | nil => rfl
  | cons r rs ih => rw [List.reverse_cons, sAb_app, ih, sAb_cons, sAb_cons]; show _ + (_ + 0) = _; omega
theorem sAb_anew {r : Int} (hr : r ≤ 0) (rest : List Int) : sAb (r :: rest) ≤ sAb (anew (r :: rest)) + 1 ∧ (0 ≤ rest.headD 0 → sAb (r :: rest) ≤ sAb (anew (r :: rest))) ∧ sAb (anew (r :: rest)) ≤ 2 * r.natAbs + 1 + sAb rest := by
  rw [anew_cons]
  split
  · rename_i z; subst z; rw [sAb_cons]; refine ⟨?_, fun _ => ?_, ?_⟩ <;> simp
  · rw [sAb_cons, sAb_cons, sAb_app, sAb_rep, sAb_cons]
    cases rest with
    | nil => show _ ∧ (_ → _) ∧ _; simp only [List.headD_nil, List.tail_nil]; show _ + 0 ≤ _ + (_ + (_ + 0)) + 1 ∧ (_ → _ + 0 ≤ _ + (_ + (_ + 0))) ∧ _ + (_ + (_ + 0)) ≤ _ + 0; omega
    | cons x t => rw [sAb_cons]; simp only [List.headD_cons, List.tail_cons]; omega
noncomputable def PosR (rs : List Int) : Prop := (∀ x ∈ rs, 1 ≤ x) ∧ Inn rs
noncomputable def HdP (rs : List Int) : Prop := ∀ x, rs.head? = some x → 0 < x
theorem anew_hd {r : Int} (hr : r < 0) (rest : List Int) : HdP (anew (r :: rest)) := by
  rw [anew_cons]; rw [if_neg (by omega)]; intro x hx
  have : x = 1 := (Option.some.inj hx).symm
  omega
theorem begin_ex (gs : List Int) (hi : Inn gs) (l : Bool) (h : Int) : ∃ rs l' h', HdP rs ∧ Inn rs ∧ mulM (hpZ h) (arM l gs) = mulM (hpZ h') (arM l' rs) ∧ sAb gs ≤ sAb rs + 1 := by
  have neg : ∀ (r : Int) (rest : List Int), r < 0 → Inn (r :: rest) → ∀ l h, ∃ rs l' h', HdP rs ∧ Inn rs ∧ mulM (hpZ h) (arM l (r :: rest)) = mulM (hpZ h') (arM l' rs) ∧ sAb (r :: rest) ≤ sAb rs + 1 := fun r rest hr hi l h =>
    ⟨_, _, _, anew_hd hr rest, hi.anew (by omega), anew_step (by omega) h l rest, (sAb_anew (by omega) rest).1⟩
  cases gs with
  | nil => exact ⟨[], l, h, fun _ e => (by cases e), hi, rfl, by omega⟩
  | cons r rest =>
    rcases Int.lt_trichotomy r 0 with z | rfl | z
    · exact neg r rest z hi l h
    · have st := anew_step (Int.le_refl 0) h l rest
      have ea : anew (0 :: rest) = rest := by rw [anew_cons, if_pos rfl]
      rw [ea, Int.add_zero] at st
      rw [st, sAb_cons]
      show ∃ rs l' h', HdP rs ∧ Inn rs ∧ _ ∧ 0 + sAb rest ≤ _
      rw [Nat.zero_add]
      cases rest with
      | nil => exact ⟨[], l, h, fun _ e => (by cases e), hi.rest, rfl, by omega⟩
      | cons x t =>
        rcases Int.lt_trichotomy x 0 with w | rfl | w
        · exact neg x t w hi.rest _ _
        · cases t with
          | nil => exact ⟨[], l, h, fun _ e => (by cases e), fun _ hx => (by cases hx), by rw [arM, arM, pw_zero, mulM_one]; rfl, by decide⟩
          | cons y t => exact absurd (hi 0 (by show 0 ∈ ((0 : Int) :: y :: t).dropLast; rw [List.dropLast_cons_of_ne_nil (by simp)]; exact List.mem_cons_self)) (by omega)
        · exact ⟨x :: t, _, _, fun y e => by rw [← Option.some.inj e]; exact w, hi.rest, rfl, by omega⟩
    · exact ⟨r :: rest, l, h, fun y e => by rw [← Option.some.inj e]; exact z, hi, rfl, by omega⟩
theorem pos_of {rs : List Int} (h1 : HdP rs) (h2 : Inn rs) (h3 : HdP rs.reverse) : PosR rs := by
  refine ⟨fun x hx => ?_, h2⟩
  cases rs with
  | nil => cases hx
  | cons r rest =>
    rcases List.mem_cons.mp hx with rfl | hx
    · exact h1 x rfl
    · by_cases hn : rest = []
      · rw [hn] at hx; cases hx
      · have e := List.dropLast_concat_getLast hn
        rw [← e] at hx
        rcases List.mem_append.mp hx with hx | hx
        · have := h2 x hx; omega
        · rw [List.mem_singleton.mp hx]
          exact h3 _ (by rw [List.head?_reverse, List.getLast?_cons, List.getLast?_eq_some_getLast hn]; rfl)
theorem HdP.of_cons {x : Int} {t : List Int} (h : 0 < x) : HdP (x :: t) := fun y e => by rw [← Option.some.inj e]; exact h
theorem end_pos {rs : List Int} {r : Int} {rest : List Int} (h1 : HdP rs) (h2 : Inn rs) (hr : r ≤ 0) (e : rs.reverse = r :: rest) : rest ≠ [] ∧ PosR (anew rs.reverse).reverse := by
  have hne : rest ≠ [] := fun z => by
    subst z
    have : rs = [r] := by rw [← List.reverse_reverse rs, e]; rfl
    have := h1 r (by rw [this]; rfl)
    omega
  refine ⟨hne, ?_⟩
  have i2 := h2.rev
  rw [e] at i2 ⊢
  have i3 : Inn (anew (r :: rest)) := i2.anew hr
  -- the other end: the first run of old, perhaps one more
  have hl : ∃ y, rest.getLast? = some y ∧ 0 < y := by
    have q : rs.head? = rest.getLast? := by
      have := congrArg List.reverse e
      rw [List.reverse_reverse, List.reverse_cons] at this
      rw [this, List.head?_append, List.head?_reverse]
      cases z : rest.getLast? with
      | none => exact absurd (List.getLast?_eq_none_iff.mp z) hne
      | some y => rfl
    cases z : rest.getLast? with
    | none => exact absurd (List.getLast?_eq_none_iff.mp z) hne
    | some y => exact ⟨y, rfl, h1 y (by rw [q, z])⟩
  obtain ⟨y, hy, y0⟩ := hl
  refine pos_of ?_ i3.rev ?_
  · intro x hx
    rw [List.head?_reverse] at hx
    rw [anew_cons] at hx
    split at hx
    · rw [hy] at hx; rw [← Option.some.inj hx]; exact y0
    · cases rest with
      | nil => exact absurd rfl hne
      | cons u t =>
        have e1 : (1 :: (List.replicate (-r - 1).toNat 2 ++ (((u :: t).headD 0 + 1) :: (u :: t).tail))).getLast? = ((u + 1) :: t).getLast? := by
          rw [List.headD_cons, List.tail_cons, ← List.cons_append, List.getLast?_append]
          cases q : ((u + 1) :: t).getLast? with
          | none => exact absurd (List.getLast?_eq_none_iff.mp q) (by simp)
          | some v => rfl
        rw [e1] at hx
        cases t with
        | nil =>
          have h1 : x = u + 1 := (Option.some.inj hx).symm
          have h2 : u = y := Option.some.inj hy
          omega
        | cons v t =>
          rw [List.getLast?_cons_cons] at hx hy
          rw [hx] at hy
          rw [Option.some.inj hy]; exact y0
  · rw [List.reverse_reverse]
    by_cases z : r = 0
    · have ea : anew (r :: rest) = rest := by rw [anew_cons, if_pos z]
      rw [ea]
      cases rest with
      | nil => exact absurd rfl hne
      | cons u t =>
        refine HdP.of_cons ?_
        cases t with
        | nil => have : u = y := Option.some.inj hy; omega
        | cons v t =>
          have := i2 u (by show u ∈ (u :: v :: t).dropLast; rw [List.dropLast_cons_of_ne_nil (by simp)]; exact List.mem_cons_self)
          omega
    · exact anew_hd (by omega) rest
theorem canon_ex (gs : List Int) (hi : Inn gs) (l : Bool) (h : Int) : ∃ rs l' h', PosR rs ∧ mulM (hpZ h) (arM l gs) = mulM (hpZ h') (arM l' rs) ∧ sAb gs ≤ sAb rs + 1 := by
  obtain ⟨rs, l1, h1, a1, a2, a3, a4⟩ := begin_ex gs hi l h
  cases e : rs.reverse with
  | nil => exact ⟨rs, l1, h1, pos_of a1 a2 (by rw [e]; exact fun _ z => by cases z), a3, a4⟩
  | cons r rest =>
    by_cases hr : r ≤ 0
    · obtain ⟨b1, b2⟩ := end_pos a1 a2 hr e
      refine ⟨_, l1, _, b2, a3.trans (end_step hr h1 l1 e b1), ?_⟩
      have hh : 0 ≤ rest.headD 0 := by
        cases rest with
        | nil => exact absurd rfl b1
        | cons u t =>
          show 0 ≤ u
          cases t with
          | nil =>
            have : rs = [u, r] := by rw [← List.reverse_reverse rs, e]; rfl
            have := a1 u (by rw [this]; rfl)
            omega
          | cons v t =>
            have i2 := a2.rev
            rw [e] at i2
            have := i2 u (by show u ∈ (u :: v :: t).dropLast; rw [List.dropLast_cons_of_ne_nil (by simp)]; exact List.mem_cons_self)
            omega
      have q := (sAb_anew hr rest).2.1 hh
      rw [sAb_rev, e]
      have : sAb rs = sAb (r :: rest) := by rw [← e, sAb_rev]
      omega
    · exact ⟨rs, l1, h1, pos_of a1 a2 (by rw [e]; exact HdP.of_cons (by omega)), a3, a4⟩
noncomputable def expL : Bool → List Int → List Bool
  | _, [] => []
  | l, r :: rs => List.replicate r.toNat l ++ expL (!l) rs
noncomputable def Hd2 (v : List Bool) (c : Bool) : Prop := v = [] ∨ v = [c] ∨ ∃ t, v = c :: c :: t
theorem NF.rep {v : List Bool} {l : Bool} (h : NF v) (h2 : Hd2 v (!l)) (n : Nat) : NF (List.replicate (n + 1) l ++ v) := by
  induction n with
  | zero =>
    show NF (l :: v)
    rcases h2 with rfl | rfl | ⟨t, rfl⟩
    · trivial
    · trivial
    · exact ⟨fun z => by cases l <;> simp at z, h⟩
  | succ n ih =>
    rw [List.replicate_succ, List.cons_append]
    rw [List.replicate_succ, List.cons_append] at ih ⊢
    cases q : List.replicate n l ++ v with
    | nil => trivial
    | cons c t => rw [q] at ih; exact ⟨fun z => z.1 rfl, ih⟩
theorem PosR.rest {r : Int} {rs : List Int} (h : PosR (r :: rs)) : PosR rs := ⟨fun x hx => h.1 x (List.mem_cons_of_mem _ hx), h.2.rest⟩
theorem PosR.nf : ∀ {rs : List Int} (l : Bool), PosR rs → NF (expL l rs)
  | [], _, _ => trivial
  | r :: rs, l, h => by
    have hr := h.1 r List.mem_cons_self
    obtain ⟨n, hn⟩ : ∃ n : Nat, r.toNat = n + 1 := ⟨r.toNat - 1, by omega⟩
    rw [expL, hn]
    refine NF.rep (PosR.nf (!l) h.rest) ?_ n
    cases rs with
    | nil => exact .inl rfl
    | cons m t =>
      have hm := h.1 m (List.mem_cons_of_mem _ List.mem_cons_self)
      cases t with
      | nil =>
        rw [expL, expL, List.append_nil]
        obtain ⟨k, hk⟩ : ∃ k : Nat, m.toNat = k + 1 := ⟨m.toNat - 1, by omega⟩
        rw [hk]
        cases k with
        | zero => exact .inr (.inl rfl)
        | succ k => exact .inr (.inr ⟨_, by rw [List.replicate_succ, List.replicate_succ]⟩)
      | cons m2 t =>
        have hm2 := h.2 m (by show m ∈ (m :: m2 :: t).dropLast; rw [List.dropLast_cons_of_ne_nil (by simp)]; exact List.mem_cons_self)
        obtain ⟨k, hk⟩ : ∃ k : Nat, m.toNat = k + 2 := ⟨m.toNat - 2, by omega⟩
        rw [expL, hk]
        exact .inr (.inr ⟨_, by rw [List.replicate_succ, List.replicate_succ, List.cons_append, List.cons_append]⟩)
theorem mt_rep (n : Nat) (l : Bool) : mtW (List.replicate n l) = pwM l n := by
  induction n with
  | zero => exact (pw_zero l).symm
  | succ n ih => rw [List.replicate_succ, mtW, ih, ← pw_one, pw_add]; rfl
theorem mt_exp : ∀ (rs : List Int) (l : Bool), (∀ x ∈ rs, 1 ≤ x) → mtW (expL l rs) = arM l rs
  | [], _, _ => rfl
  | r :: rs, l, h => by
    have hr := h r List.mem_cons_self
    rw [expL, mt_app, mt_rep, mt_exp rs (!l) fun x hx => h x (List.mem_cons_of_mem _ hx), arM, Int.toNat_of_nonneg (by omega)]
theorem exp_len : ∀ (rs : List Int) (l : Bool), (∀ x ∈ rs, 1 ≤ x) → (expL l rs).length = sAb rs
  | [], _, _ => rfl
  | r :: rs, l, h => by
    have hr := h r List.mem_cons_self
    rw [expL, List.length_append, List.length_replicate, exp_len rs (!l) fun x hx => h x (List.mem_cons_of_mem _ hx), sAb_cons]
    omega
theorem PosR.cn {rs : List Int} (h : PosR rs) (l : Bool) (k : Int) : Cn (mulM (hpZ k) (arM l rs)) (sAb rs + 3 * (k % 4).toNat) :=
  ⟨expL l rs, (k % 4).toNat, h.nf l, by omega, by rw [mt_exp rs l h.1]; rfl, by rw [exp_len rs l h.1]⟩
theorem gaps_le {gs : List Int} (hi : Inn gs) {l : Bool} {h : Int} {n : Nat} (c : Cn (mulM (hpZ h) (arM l gs)) n) : sAb gs ≤ n + 1 := by
  obtain ⟨rs, l', h', p, e, s⟩ := canon_ex gs hi l h
  rw [e] at c
  have := c.uniq (p.cn l' h')
  omega
end GM

namespace GM
open PySem PySem.Spec L2 DL
open RM (sz)
noncomputable def oftT (T : Z4) : Int := -((-T.2.2.2).fdiv T.2.2.1)
noncomputable def stpT (T : Z4) : Z4 := (T.2.1 - oftT T * T.1, -T.1, T.2.2.2 - oftT T * T.2.2.1, -T.2.2.1)
noncomputable def gOf : Nat → Z4 → List Int
  | 0, T => [T.2.1 * T.1]
  | k + 1, T => if T.2.2.1 = 0 then [T.2.1 * T.1] else oftT T :: gOf k (stpT T)
noncomputable def sgOf : Nat → Z4 → Int
  | 0, T => T.1
  | k + 1, T => if T.2.2.1 = 0 then T.1 else sgOf k (stpT T)
theorem gOf_nil {k : Nat} {T : Z4} (h : T.2.2.1 = 0) : gOf k T = [T.2.1 * T.1] ∧ sgOf k T = T.1 := by
  cases k with
  | zero => exact ⟨rfl, rfl⟩
  | succ k => exact ⟨by rw [gOf, if_pos h], by rw [sgOf, if_pos h]⟩
noncomputable def StT (T : Z4) : Prop := T.2.2.1 = 0 ∨ (T.2.2.1 < 0 ∧ T.2.2.2 < T.2.2.1) ∨ (0 < T.2.2.1 ∧ T.2.2.1 < T.2.2.2)
theorem oft_pos {T : Z4} (h : 0 < T.2.2.1) : -T.2.2.1 < T.2.2.2 - oftT T * T.2.2.1 ∧ T.2.2.2 - oftT T * T.2.2.1 ≤ 0 := by
  unfold oftT
  have e := Int.mul_fdiv_add_fmod (-T.2.2.2) T.2.2.1
  have l := Int.fmod_nonneg_of_pos (-T.2.2.2) h
  have u := Int.fmod_lt_of_pos (-T.2.2.2) h
  rw [Int.mul_comm] at e
  rw [Int.neg_mul]
  omega
theorem fd_neg (a b : Int) : (-a).fdiv (-b) = a.fdiv b := by rw [Int.neg_fdiv_neg]
theorem oft_neg {T : Z4} (h : T.2.2.1 < 0) : 0 ≤ T.2.2.2 - oftT T * T.2.2.1 ∧ T.2.2.2 - oftT T * T.2.2.1 < -T.2.2.1 := by
  unfold oftT
  have h' : 0 < -T.2.2.1 := by omega
  have f : (-T.2.2.2).fdiv T.2.2.1 = T.2.2.2.fdiv (-T.2.2.1) := by
    have := fd_neg (-T.2.2.2) T.2.2.1
    rw [Int.neg_neg] at this
    exact this.symm
  have e := Int.mul_fdiv_add_fmod T.2.2.2 (-T.2.2.1)
  have l := Int.fmod_nonneg_of_pos T.2.2.2 h'
  have u := Int.fmod_lt_of_pos T.2.2.2 h'
  rw [f]
  rw [Int.neg_mul] at e ⊢
  rw [Int.mul_comm] at e
  omega
theorem stp_st {T : Z4} (h : T.2.2.1 ≠ 0) : StT (stpT T) ∧ (stpT T).2.2.1.natAbs < T.2.2.1.natAbs := by
  have key : ∀ x y : Int, (stpT T).2.2.1 = x → (stpT T).2.2.2 = y → (x = 0 ∨ (x < 0 ∧ y < x) ∨ (0 < x ∧ x < y)) ∧ x.natAbs < T.2.2.1.natAbs → StT (stpT T) ∧ (stpT T).2.2.1.natAbs < T.2.2.1.natAbs := by
    intro x y e1 e2 k
    unfold StT
    rw [e1, e2]
    exact k
  refine key (T.2.2.2 - oftT T * T.2.2.1) (-T.2.2.1) rfl rfl ?_
  rcases Int.lt_or_gt_of_ne h with z | z
  · have := oft_neg z
    omega
  · have := oft_pos z
    omega
theorem st_two {T : Z4} (h : StT T) (h0 : T.2.2.1 ≠ 0) : 2 ≤ oftT T := by
  rcases h with z | ⟨z1, z2⟩ | ⟨z1, z2⟩
  · exact absurd z h0
  · have := oft_neg z1
    apply Int.not_lt.mp
    intro q
    have := Int.mul_le_mul_of_nonpos_right (show oftT T ≤ 1 by omega) (show T.2.2.1 ≤ 0 by omega)
    omega
  · have := oft_pos z1
    apply Int.not_lt.mp
    intro q
    have := Int.mul_le_mul_of_nonneg_right (show oftT T ≤ 1 by omega) (show 0 ≤ T.2.2.1 by omega)
    omega
theorem stp_det {T : Z4} : detM (stpT T) = detM T := by unfold detM stpT; grind
theorem stp_mul (T : Z4) : T = mulM (stpT T) (mulM hfM (pwM true (oftT T))) := by
  unfold stpT
  generalize oftT T = n
  exact ext4z (by unfold mulM hfM pwM; simp) (by unfold mulM hfM pwM; simp; grind) (by unfold mulM hfM pwM; simp) (by unfold mulM hfM pwM; simp; grind)
theorem gOf_ne (k : Nat) (T : Z4) : gOf k T ≠ [] := by
  cases k with
  | zero => simp [gOf]
  | succ k => rw [gOf]; split <;> simp
theorem unit_of {a d : Int} (h : a * d = 1) : a = 1 ∧ d = 1 ∨ a = -1 ∧ d = -1 := by
  have n : a.natAbs = 1 := Nat.dvd_one.mp ⟨d.natAbs, by rw [← Int.natAbs_mul, h]; rfl⟩
  rcases (show a = 1 ∨ a = -1 by omega) with e | e
  · left; subst e; omega
  · right; subst e; omega
theorem gOf_eq : ∀ (k : Nat) {T : Z4}, detM T = 1 → T.2.2.1.natAbs ≤ k → (sgOf k T = 1 ∨ sgOf k T = -1) ∧ T = mulM (hpZ (((gOf k T).length : Int) - sgOf k T)) (arM true (gOf k T)) := by
  have base : ∀ {T : Z4}, detM T = 1 → T.2.2.1 = 0 → (T.1 = 1 ∨ T.1 = -1) ∧ T = mulM (hpZ (1 - T.1)) (arM true [T.2.1 * T.1]) := by
    intro T h0 h
    obtain ⟨a, b, c, d⟩ := T
    have h : c = 0 := h
    subst h
    have h0 : a * d - b * 0 = 1 := h0
    have h0 : a * d = 1 := by omega
    rcases unit_of h0 with ⟨rfl, rfl⟩ | ⟨rfl, rfl⟩
    · refine ⟨.inl rfl, ?_⟩
      show _ = mulM (hpZ 0) (mulM oneZ (pwM true (b * 1)))
      rw [one_mulM, show hpZ 0 = oneZ from rfl, one_mulM, Int.mul_one]
      rfl
    · refine ⟨.inr rfl, ?_⟩
      show _ = mulM (hpZ 2) (mulM oneZ (pwM true (b * -1)))
      rw [one_mulM, show hpZ 2 = hpM 2 from rfl, ← ng_hp]
      exact ext4z rfl (by show b = -(b * -1); omega) rfl rfl
  intro k
  induction k with
  | zero => intro T h0 h; exact base h0 (by omega)
  | succ k ih =>
    intro T h0 h
    by_cases z : T.2.2.1 = 0
    · have e := gOf_nil (k := k + 1) z
      rw [e.1, e.2]
      exact base h0 z
    · have s := (stp_st z).2
      obtain ⟨i1, i2⟩ := ih (T := stpT T) (by rw [stp_det]; exact h0) (by omega)
      have e1 : gOf (k + 1) T = oftT T :: gOf k (stpT T) := by rw [gOf, if_neg z]
      have e2 : sgOf (k + 1) T = sgOf k (stpT T) := by rw [sgOf, if_neg z]
      rw [e1, e2]
      refine ⟨i1, ?_⟩
      conv => lhs; rw [stp_mul T, i2]
      rw [arM, mulM_assoc, ← mulM_assoc (arM true _), ← hpZ_one, ar_hpZ, mulM_assoc, ← mulM_assoc, hpZ_add, List.length_cons]
      have e3 : (gOf k (stpT T)).length - sgOf k (stpT T) + 1 = (((gOf k (stpT T)).length + 1 : Nat) : Int) - sgOf k (stpT T) := by omega
      rw [e3]
      rfl
theorem gOf_inn : ∀ (k : Nat) {T : Z4}, T.2.2.1.natAbs ≤ k → StT T → ∀ x ∈ (gOf k T).dropLast, 2 ≤ x := by
  intro k
  induction k with
  | zero => intro T _ _ x hx; cases hx
  | succ k ih =>
    intro T h st x hx
    rw [gOf] at hx
    split at hx
    · cases hx
    · rename_i z
      rw [List.dropLast_cons_of_ne_nil (gOf_ne _ _)] at hx
      rcases List.mem_cons.mp hx with rfl | hx
      · exact st_two st z
      · exact ih (by have := (stp_st z).2; omega) (stp_st z).1 x hx
noncomputable def gsT (T : Z4) : List Int := gOf T.2.2.1.natAbs T
noncomputable def sgT (T : Z4) : Int := sgOf T.2.2.1.natAbs T
theorem gsT_inn (T : Z4) : Inn (gsT T) := by
  intro x hx
  unfold gsT at hx
  cases e : T.2.2.1.natAbs with
  | zero => rw [e] at hx; cases hx
  | succ k =>
    rw [e, gOf] at hx
    split at hx
    · cases hx
    · rename_i z
      exact gOf_inn k (by have := (stp_st z).2; omega) (stp_st z).1 x hx
theorem gsT_ne (T : Z4) : gsT T ≠ [] := gOf_ne _ _
theorem st_small {T : Z4} (h : detM T = 1) (st : StT T) : T.1.natAbs ≤ max T.2.1.natAbs 1 := by
  obtain ⟨a, b, c, d⟩ := T
  have h : a * d - b * c = 1 := h
  show a.natAbs ≤ max b.natAbs 1
  have st : c = 0 ∨ (c < 0 ∧ d < c) ∨ (0 < c ∧ c < d) := st
  have e : (a * d).natAbs ≤ (b * c).natAbs + 1 := by omega
  rw [Int.natAbs_mul, Int.natAbs_mul] at e
  apply Nat.not_lt.mp
  intro q
  by_cases c0 : c = 0
  · subst c0
    rcases unit_of (show a * d = 1 by omega) with ⟨rfl, _⟩ | ⟨rfl, _⟩ <;> (simp at q)
  · have hd : c.natAbs + 1 ≤ d.natAbs := by omega
    have q1 : b.natAbs + 1 ≤ a.natAbs := by omega
    have q2 : 2 ≤ a.natAbs := by omega
    have p1 := Nat.mul_le_mul q1 hd
    have : (b.natAbs + 1) * (c.natAbs + 1) = b.natAbs * c.natAbs + b.natAbs + c.natAbs + 1 := by grind
    have : 0 < c.natAbs := by omega
    by_cases b0 : b.natAbs = 0
    · rw [b0] at e p1
      have p2 := Nat.mul_le_mul q2 hd
      omega
    · omega
theorem stp_bz {k : Nat} {T : Z4} (hk : 0 < k) (h : detM T = 1) (b : Bz k T) (h0 : T.2.2.1 ≠ 0) : Bz k (stpT T) := by
  obtain ⟨s1, s2⟩ := stp_st h0
  have sm := st_small (T := stpT T) (by rw [stp_det]; exact h) s1
  obtain ⟨b1, b2, b3, b4⟩ := b
  have p : 1 < 2 ^ k := Nat.one_lt_two_pow (by omega)
  have e1 : (stpT T).2.1.natAbs = T.1.natAbs := by show (-T.1).natAbs = _; omega
  have e2 : (stpT T).2.2.2.natAbs = T.2.2.1.natAbs := by show (-T.2.2.1).natAbs = _; omega
  exact ⟨by omega, by omega, by omega, by omega⟩
theorem oft_small {k : Nat} {T : Z4} (b : Bz k T) (h0 : T.2.2.1 ≠ 0) : (oftT T).natAbs < 2 ^ (k + 1) := by
  have hb := b.2.2.2
  have hp : 2 ^ (k + 1) = 2 ^ k + 2 ^ k := by rw [Nat.pow_succ]; omega
  have h1 : 1 ≤ T.2.2.1.natAbs := by omega
  have key : (oftT T * T.2.2.1).natAbs ≤ T.2.2.2.natAbs + T.2.2.1.natAbs := by
    rcases Int.lt_or_gt_of_ne h0 with z | z
    · have := oft_neg z; omega
    · have := oft_pos z; omega
  rw [Int.natAbs_mul] at key
  rw [hp]
  apply Nat.not_le.mp
  intro q
  have h2 : 2 ^ k * 1 ≤ 2 ^ k * T.2.2.1.natAbs := Nat.mul_le_mul_left _ h1
  have h3 := Nat.mul_le_mul_right T.2.2.1.natAbs q
  have h4 : (2 ^ k + 2 ^ k) * T.2.2.1.natAbs = 2 ^ k * T.2.2.1.natAbs + 2 ^ k * T.2.2.1.natAbs := Nat.add_mul ..
  have h5 : T.2.2.1.natAbs ≤ 2 ^ k * T.2.2.1.natAbs := Nat.le_mul_of_pos_left _ (Nat.two_pow_pos k)
  omega
noncomputable def jnS (acc : List Run) (x : Run) : List Run := match acc.getLast? with
  | some y => if y.1 = x.1 then acc.dropLast ++ [(x.1, y.2 + x.2)] else acc ++ [x]
  | none => acc ++ [x]
noncomputable def joinR (rs : List Run) : List Run := rs.foldl jnS []
noncomputable def isG (x : Run) : Bool := decide (x.1 = Str.ofString "gap")
noncomputable def expR (rs : List Run) : List Bool := rs.flatMap fun x => List.replicate x.2 (isG x)
theorem expR_app (rs ts : List Run) : expR (rs ++ ts) = expR rs ++ expR ts := List.flatMap_append
theorem expR_one (x : Run) : expR [x] = List.replicate x.2 (isG x) := by unfold expR; simp
theorem snoc_of {α : Type} {l : List α} {y : α} (h : l.getLast? = some y) : l = l.dropLast ++ [y] := by
  cases l with
  | nil => cases h
  | cons a t =>
    have := List.dropLast_concat_getLast (l := a :: t) (by simp)
    rw [List.getLast?_eq_some_getLast (by simp)] at h
    rw [Option.some.inj h] at this
    exact this.symm
theorem jnS_exp (acc : List Run) (x : Run) : expR (jnS acc x) = expR (acc ++ [x]) := by
  unfold jnS
  split
  · rename_i y h
    split
    · rename_i e
      conv => rhs; rw [snoc_of h]
      rw [expR_app, expR_app, expR_app, expR_one, expR_one, expR_one, List.append_assoc]
      congr 1
      have : isG (x.1, y.2 + x.2) = isG x := rfl
      have h2 : isG y = isG x := by unfold isG; rw [e]
      rw [this, h2, List.replicate_append_replicate]
    · rfl
  · rfl
noncomputable def OkR (x : Run) : Prop := (x.1 = "gap" ∨ x.1 = "glass") ∧ 0 < x.2
theorem AltR.last2 : ∀ {rs : List Run} {x y : Run}, AltR (rs ++ [x]) → (y.1 = x.1) → 0 < y.2 → AltR (rs ++ [y])
  | [], x, y, h, e, p => ⟨by rw [e]; exact h.1, p⟩
  | [z], x, y, h, e, p => ⟨h.1, h.2.1, by rw [e]; exact h.2.2.1, by rw [e]; exact h.2.2.2.1, p⟩
  | z :: u :: r, x, y, h, e, p => ⟨h.1, h.2.1, h.2.2.1, AltR.last2 (rs := u :: r) h.2.2.2 e p⟩
theorem jnS_alt {acc : List Run} {x : Run} (h : AltR acc) (hx : OkR x) : AltR (jnS acc x) := by
  unfold jnS
  split
  · rename_i y hy
    have e := snoc_of hy
    split
    · rename_i q
      rw [e] at h
      have y0 : 0 < y.2 := by
        have := h.words y (List.mem_append_right _ List.mem_cons_self)
        exact this.2
      exact h.last2 (x := y) q.symm (by show 0 < y.2 + x.2; omega)
    · rename_i q
      exact h.snoc hx.1 hx.2 fun z hz => by rw [hy] at hz; rw [← Option.some.inj hz]; exact q
  · rename_i hy
    have : acc = [] := List.getLast?_eq_none_iff.mp hy
    subst this
    exact hx
theorem jnS_len (acc : List Run) (x : Run) : (jnS acc x).length ≤ acc.length + 1 := by
  unfold jnS
  split
  · split
    · simp
    · simp
  · simp
theorem fold_jn (rs : List Run) : ∀ {acc : List Run}, AltR acc → (∀ x ∈ rs, OkR x) → AltR (rs.foldl jnS acc) ∧ expR (rs.foldl jnS acc) = expR (acc ++ rs) := by
  induction rs with
  | nil => intro acc h _; exact ⟨h, by rw [List.append_nil]; rfl⟩
  | cons x r ih =>
    intro acc h hx
    obtain ⟨i1, i2⟩ := ih (jnS_alt h (hx x List.mem_cons_self)) fun z hz => hx z (List.mem_cons_of_mem _ hz)
    refine ⟨i1, i2.trans ?_⟩
    rw [expR_app, jnS_exp, ← expR_app, List.append_assoc]; rfl
theorem joinR_ok {rs : List Run} (h : ∀ x ∈ rs, OkR x) : AltR (joinR rs) ∧ expR (joinR rs) = expR rs := fold_jn rs (acc := []) trivial h
theorem jn_take {rs : List Run} {i : Nat} {x : Run} (h : rs[i]? = some x) : joinR (rs.take (i + 1)) = jnS (joinR (rs.take i)) x := by
  unfold joinR
  rw [List.take_add_one, h]
  show List.foldl _ _ (rs.take i ++ [x]) = _
  rw [List.foldl_append]; rfl
theorem jn_len (rs : List Run) : ∀ acc : List Run, (rs.foldl jnS acc).length ≤ acc.length + rs.length := by
  induction rs with
  | nil => intro acc; exact Nat.le_refl _
  | cons x r ih =>
    intro acc
    have := ih (jnS acc x)
    have := jnS_len acc x
    rw [List.length_cons]
    show (r.foldl jnS (jnS acc x)).length ≤ _
    omega
theorem runG_mul {x : Run} (h : x.1 = "gap" ∨ x.1 = "glass") (m : Z4) : runG 1 m x = mulM (pwM (isG x) x.2) m := by
  unfold runG isG
  by_cases g : x.1 = Str.ofString "gap"
  · rw [if_pos g, decide_eq_true g]
    exact ext4z (by unfold mulM pwM; simp) (by unfold mulM pwM; simp) (by unfold mulM pwM; simp) (by unfold mulM pwM; simp)
  · rw [if_neg g, decide_eq_false g]
    exact ext4z (by unfold mulM pwM; simp) (by unfold mulM pwM; simp) (by unfold mulM pwM; simp; grind) (by unfold mulM pwM; simp; grind)
theorem rowsG_mt (rs : List Run) (h : ∀ x ∈ rs, x.1 = "gap" ∨ x.1 = "glass") : rowsG 1 rs = mtW (expR rs) := by
  have key : ∀ (rs : List Run), (∀ x ∈ rs, x.1 = "gap" ∨ x.1 = "glass") → ∀ m : Z4, rs.foldl (runG 1) m = mulM (mtW (expR rs)) m := by
    intro rs
    induction rs with
    | nil => intro _ m; show m = mulM oneZ m; rw [one_mulM]
    | cons x r ih =>
      intro h m
      show r.foldl (runG 1) (runG 1 m x) = _
      rw [ih (fun z hz => h z (List.mem_cons_of_mem _ hz)), runG_mul (h x List.mem_cons_self), ← mulM_assoc, ← mt_rep, ← mt_app]
      have : expR (x :: r) = List.replicate x.2 (isG x) ++ expR r := by rw [← expR_one, ← expR_app]; rfl
      rw [this]
  exact (key rs h oneZ).trans (mulM_one _)
theorem expR_len (rs : List Run) : (expR rs).length = cntR rs := by
  induction rs with
  | nil => rfl
  | cons x r ih =>
    have : expR (x :: r) = List.replicate x.2 (isG x) ++ expR r := by rw [← expR_one, ← expR_app]; rfl
    rw [this, List.length_append, List.length_replicate, ih, cntR_cons]
noncomputable def wdN (n : Nat) : Str := if n % 2 = 0 then "gap" else "glass"
noncomputable def rowR : Nat → List Int → List Run
  | _, [] => []
  | f, r :: rs => (wdN f, r.toNat) :: rowR (f + 1) rs
theorem rowR_len (rs : List Int) : ∀ f, (rowR f rs).length = rs.length := by
  induction rs with
  | nil => intro f; rfl
  | cons r rs ih => intro f; rw [rowR, List.length_cons, List.length_cons, ih]
theorem rowR_get (rs : List Int) : ∀ (f i : Nat), (rowR f rs)[i]? = (rs[i]?).map fun r => (wdN (f + i), r.toNat) := by
  induction rs with
  | nil => intro f i; rfl
  | cons r rs ih =>
    intro f i
    cases i with
    | zero => rfl
    | succ i => rw [rowR, List.getElem?_cons_succ, List.getElem?_cons_succ, ih, show f + 1 + i = f + (i + 1) by omega]
theorem wd_ok (n : Nat) : wdN n = "gap" ∨ wdN n = "glass" := by unfold wdN; split <;> simp
noncomputable def parN (f : Nat) : Bool := decide (f % 2 = 0)
theorem rowR_exp (rs : List Int) : ∀ f, expR (rowR f rs) = expL (parN f) rs := by
  induction rs with
  | nil => intro f; rfl
  | cons r rs ih =>
    intro f
    have e : expR (rowR f (r :: rs)) = expR [(wdN f, r.toNat)] ++ expR (rowR (f + 1) rs) := by rw [← expR_app]; rfl
    have p : (!parN f) = parN (f + 1) := by unfold parN; rw [← decide_not]; congr 1; exact propext ⟨fun h => by omega, fun h => by omega⟩
    have q : isG (wdN f, r.toNat) = parN f := by
      unfold isG wdN parN
      by_cases z : f % 2 = 0
      · rw [if_pos z, decide_eq_true z]; rfl
      · rw [if_neg z, decide_eq_false z]; exact decide_eq_false gap_ne
    rw [e, expR_one, ih, expL, p, q]
noncomputable def halfR : List Run := [("gap", 1), ("glass", 1), ("gap", 1)]
noncomputable def hlvR (h : Nat) : List Run := (List.replicate h halfR).flatten
theorem hlv_mt (h : Nat) : mtW (expR (hlvR h)) = hpM h := by
  induction h with
  | zero => rfl
  | succ h ih =>
    have e : hlvR (h + 1) = halfR ++ hlvR h := by unfold hlvR; rw [List.replicate_succ, List.flatten_cons]
    rw [e, expR_app, mt_app, ih, hpM, hp_comm]
    rfl
theorem hlv_len (h : Nat) : (expR (hlvR h)).length = 3 * h := by
  induction h with
  | zero => rfl
  | succ h ih =>
    have e : hlvR (h + 1) = halfR ++ hlvR h := by unfold hlvR; rw [List.replicate_succ, List.flatten_cons]
    rw [e, expR_app, List.length_append, ih]
    show 3 + 3 * h = _
    omega
theorem told_ok {T : Z4} {rs : List Int} {h : Int} {f : Nat} (p : PosR rs) (e : T = mulM (hpZ h) (arM (parN f) rs)) :
    AltR (joinR (rowR f rs ++ hlvR (h % 4).toNat)) ∧ rowsG 1 (joinR (rowR f rs ++ hlvR (h % 4).toNat)) = T ∧ cntR (joinR (rowR f rs ++ hlvR (h % 4).toNat)) = sAb rs + 3 * (h % 4).toNat := by
  have ok : ∀ x ∈ rowR f rs ++ hlvR (h % 4).toNat, OkR x := by
    intro x hx
    rcases List.mem_append.mp hx with hx | hx
    · obtain ⟨i, hi⟩ := List.getElem?_of_mem hx
      rw [rowR_get] at hi
      cases q : rs[i]? with
      | none => rw [q] at hi; cases hi
      | some r =>
        rw [q] at hi
        have : (wdN (f + i), r.toNat) = x := Option.some.inj hi
        subst this
        have := p.1 r (List.mem_of_getElem? q)
        exact ⟨wd_ok _, by show 0 < r.toNat; omega⟩
    · unfold hlvR at hx
      obtain ⟨l, hl, hx⟩ := List.mem_flatten.mp hx
      rw [(List.mem_replicate.mp hl).2] at hx
      unfold halfR at hx
      simp only [List.mem_cons, List.not_mem_nil, or_false] at hx
      rcases hx with rfl | rfl | rfl
      · exact ⟨.inl rfl, Nat.one_pos⟩
      · exact ⟨.inr rfl, Nat.one_pos⟩
      · exact ⟨.inl rfl, Nat.one_pos⟩
  obtain ⟨j1, j2⟩ := joinR_ok ok
  refine ⟨j1, ?_, ?_⟩
  · rw [rowsG_mt _ (fun x hx => (j1.words x hx).1), j2, expR_app, mt_app, hlv_mt, rowR_exp, mt_exp rs _ p.1, e]
    rfl
  · rw [← expR_len, j2, expR_app, List.length_append, hlv_len, rowR_exp, exp_len rs _ p.1]
theorem jn_words (rs : List Run) : ∀ acc : List Run, (∀ x ∈ acc, x.1 = "gap" ∨ x.1 = "glass") → (∀ x ∈ rs, x.1 = "gap" ∨ x.1 = "glass") → ∀ x ∈ rs.foldl jnS acc, x.1 = "gap" ∨ x.1 = "glass" := by
  induction rs with
  | nil => intro acc h _; exact h
  | cons y r ih =>
    intro acc h hr
    refine ih (jnS acc y) (fun x hx => ?_) fun x hx => hr x (List.mem_cons_of_mem _ hx)
    have hy := hr y List.mem_cons_self
    unfold jnS at hx
    split at hx
    · split at hx
      · rcases List.mem_append.mp hx with hx | hx
        · exact h x (List.dropLast_subset _ hx)
        · rw [List.mem_singleton.mp hx]; exact hy
      · rcases List.mem_append.mp hx with hx | hx
        · exact h x hx
        · rw [List.mem_singleton.mp hx]; exact hy
    · rcases List.mem_append.mp hx with hx | hx
      · exact h x hx
      · rw [List.mem_singleton.mp hx]; exact hy
noncomputable def msB : List Int → Nat
  | [] => 0
  | r :: t => if r ≤ 0 then t.length + 2 else 0
theorem msB_anew {r : Int} {t : List Int} (hr : r ≤ 0) : msB (anew (r :: t)) < msB (r :: t) := by
  have e : msB (r :: t) = t.length + 2 := if_pos hr
  rw [e, anew_cons]
  split
  · cases t with
    | nil => decide
    | cons x u => show (if x ≤ 0 then u.length + 2 else 0) < (u.length + 1) + 2; split <;> omega
  · have z : ∀ u : List Int, msB (1 :: u) = 0 := fun u => rfl
    rw [z]; omega
theorem parN_succ (f : Nat) : parN (f + 1) = !parN f := by unfold parN; rw [← decide_not]; congr 1; exact propext ⟨fun h => by omega, fun h => by omega⟩
noncomputable def prI (z : Nat × Int) : D := .tup [.int (z.1 : Int), .int z.2]
theorem enum_prI (rs : List Int) : enumD (rs.map D.int) = (rs.mapIdx fun i r => (i, r)).map prI := by
  unfold enumD
  apply List.ext_getElem?
  intro i
  simp only [List.getElem?_mapIdx, List.getElem?_map, Option.map_map]
  cases rs[i]? <;> rfl
theorem row_prI {rs : List Int} (h : ∀ x ∈ rs, 1 ≤ x) (f : Nat) : (rs.mapIdx fun i r => (i, r)).map (fun z => D.tup [.str (wdN (f + z.1)), .int z.2]) = (rowR f rs).map ruD := by
  apply List.ext_getElem?
  intro i
  simp only [List.getElem?_mapIdx, List.getElem?_map, rowR_get, Option.map_map]
  cases e : rs[i]? with
  | none => rfl
  | some r =>
    have := h r (List.mem_of_getElem? e)
    show some (D.tup [D.str (wdN (f + i)), D.int r]) = some (D.tup [D.str (wdN (f + i)), D.int ((r.toNat : Nat) : Int)])
    rw [Int.toNat_of_nonneg (by omega)]
theorem wd_at (n : Nat) : atI [D.str "gap", D.str "glass"] ((n : Int) % 2) = some (D.str (wdN n)) := by
  unfold wdN
  rcases Nat.mod_two_eq_zero_or_one n with z | z
  · rw [if_pos z, show (n : Int) % 2 = 0 by omega]; rfl
  · rw [if_neg (by omega), show (n : Int) % 2 = 1 by omega]; rfl
theorem hlv_D (k : Nat) : (List.replicate k (halfR.map ruD)).flatten = (hlvR k).map ruD := by
  unfold hlvR
  induction k with
  | zero => rfl
  | succ k ih => rw [List.replicate_succ, List.flatten_cons, ih, List.replicate_succ, List.flatten_cons, List.map_append]
theorem hlvR_len (k : Nat) : (hlvR k).length = 3 * k := by
  unfold hlvR
  induction k with
  | zero => rfl
  | succ k ih => rw [List.replicate_succ, List.flatten_cons, List.length_append, ih]; show 3 + 3 * k = _; omega
theorem hlv_words {k : Nat} {x : Run} (h : x ∈ hlvR k) : x.1 = "gap" ∨ x.1 = "glass" := by
  unfold hlvR at h
  obtain ⟨l, hl, hx⟩ := List.mem_flatten.mp h
  rw [(List.mem_replicate.mp hl).2] at hx
  unfold halfR at hx
  simp only [List.mem_cons, List.not_mem_nil, or_false] at hx
  rcases hx with rfl | rfl | rfl
  · exact .inl rfl
  · exact .inr rfl
  · exact .inl rfl
theorem row_words {f : Nat} {rs : List Int} {x : Run} (h : x ∈ rowR f rs) : x.1 = "gap" ∨ x.1 = "glass" := by
  obtain ⟨i, hi⟩ := List.getElem?_of_mem h
  rw [rowR_get] at hi
  cases q : rs[i]? with
  | none => rw [q] at hi; cases hi
  | some r => rw [q] at hi; rw [← Option.some.inj hi]; exact wd_ok _
theorem PosR.hd {rs : List Int} (h : PosR rs) : HdP rs := fun x hx => by
  have := h.1 x (List.mem_of_mem_head? hx); omega
theorem PosR.hdr {rs : List Int} (h : PosR rs) : HdP rs.reverse := fun x hx => by
  have := h.1 x (List.mem_reverse.mp (List.mem_of_mem_head? hx)); omega
theorem sum_sAb (l : List Int) : l.sum ≤ (sAb l : Int) := by
  induction l with
  | nil => exact Int.le_refl _
  | cons a r ih => rw [List.sum_cons, sAb_cons]; omega
theorem sAb_take (l : List Int) (i : Nat) : sAb (l.take i) ≤ sAb l := by
  have := sAb_app (l.take i) (l.drop i)
  rw [List.take_append_drop] at this
  omega
theorem sAb_tail (l : List Int) : sAb l.tail ≤ sAb l := by
  cases l with
  | nil => exact Nat.le_refl _
  | cons a r => rw [List.tail_cons, sAb_cons]; omega
theorem len_sAb : ∀ {l : List Int}, Inn l → l.length ≤ sAb l + 2
  | [], _ => by decide
  | [a], _ => by simp
  | a :: b :: r, h => by
    have key : ∀ (l : List Int), (∀ x ∈ l.dropLast, 2 ≤ x) → l.length ≤ sAb l + 1 := by
      intro l
      induction l with
      | nil => intro _; decide
      | cons x t ih =>
        intro hx
        cases t with
        | nil => simp
        | cons y u =>
          rw [List.dropLast_cons_of_ne_nil (by simp)] at hx
          have := ih fun z hz => hx z (List.mem_cons_of_mem _ hz)
          have := hx x List.mem_cons_self
          rw [sAb_cons, List.length_cons]
          omega
    have := key (b :: r) h
    rw [sAb_cons, List.length_cons]
    omega
theorem mem_sAb {x : Int} : ∀ {l : List Int}, x ∈ l → x.natAbs ≤ sAb l
  | [], h => by cases h
  | a :: r, h => by
    rw [sAb_cons]
    rcases List.mem_cons.mp h with rfl | h
    · omega
    · have := mem_sAb h; omega
theorem sum_pos_sAb : ∀ {l : List Int}, (∀ x ∈ l, 1 ≤ x) → l.sum = (sAb l : Int)
  | [], _ => rfl
  | a :: r, h => by
    have := sum_pos_sAb (l := r) fun x hx => h x (List.mem_cons_of_mem _ hx)
    have := h a List.mem_cons_self
    rw [List.sum_cons, sAb_cons]
    omega
theorem cut_tl {x : D} {xs : List D} : DL.cutD (x :: xs) (some 1) none = xs := cut_one
theorem flat_rep (n : Nat) (d : D) : (List.replicate n [d]).flatten = List.replicate n d := by
  induction n with
  | zero => rfl
  | succ n ih => rw [List.replicate_succ, List.flatten_cons, ih, List.replicate_succ]; rfl
local macro_rules | `(tactic| walk_at "inj") => `(tactic| (rename_i e h; simp only [List.cons.injEq, and_true, true_and, GM.ratD_iff, GM.partD_iff, GM.partsD_iff, GM.lineD_iff, GM.linesD_iff, D.tup.injEq, D.ref.injEq, D.int.injEq, D.str.injEq, D.bl.injEq, D.vl.injEq, Int.natCast_inj, and_assoc] at e; (repeat (obtain ⟨e1, e⟩ := e; subst e1)); subst e; exact h))
local macro_rules | `(tactic| walk_at "injs") => `(tactic| (rename_i e o h; rcases o with o | o <;> (subst o; first | (exfalso; simp only [D.tup.injEq, List.cons.injEq, reduceCtorEq, false_and, and_false] at e; done) | (simp only [List.cons.injEq, and_true, true_and, GM.ratD_iff, GM.partD_iff, GM.partsD_iff, GM.lineD_iff, GM.linesD_iff, D.tup.injEq, D.ref.injEq, D.int.injEq, D.str.injEq, D.bl.injEq, D.vl.injEq, Int.natCast_inj, and_assoc] at e; (repeat (obtain ⟨e1, e⟩ := e; subst e1)); subst e; exact h))))
noncomputable abbrev sGbh_b (x : D) (M : Mem) (R : DK) (Y : DXK) : Prop := ∃ T : Z4, x = tabI T ∧ (detM T = 1 ∧ Bz 2000 T ∧ sAb (gsT T) ≤ 4000) ∧ R (.tup [.vl ((gsT T).map D.int), .int (sgT T)]) M
noncomputable def sGbh : DSp := fun ds M R Y => ∃ (x : D), ds = [x] ∧ sGbh_b x M R Y
theorem z_sGbh {x : D} {M : Mem} {R : DK} {Y : DXK} : sGbh [x] M R Y = (sGbh_b x M R Y) := propext ⟨fun z => by obtain ⟨_, _, _⟩ := z; walk_at "inj", fun h => ⟨x, rfl, h⟩⟩
noncomputable abbrev sAnew_b (x : D) (M : Mem) (R : DK) (Y : DXK) : Prop := ∃ (r : Int) (rest : List Int), x = .vl ((r :: rest).map D.int) ∧ (r ≤ 0 ∧ sAb (r :: rest) ≤ 100000 ∧ rest.length ≤ 100000) ∧ R (.vl ((anew (r :: rest)).map D.int)) M
noncomputable def sAnew : DSp := fun ds M R Y => ∃ (x : D), ds = [x] ∧ sAnew_b x M R Y
theorem z_sAnew {x : D} {M : Mem} {R : DK} {Y : DXK} : sAnew [x] M R Y = (sAnew_b x M R Y) := propext ⟨fun z => by obtain ⟨_, _, _⟩ := z; walk_at "inj", fun h => ⟨x, rfl, h⟩⟩
noncomputable abbrev sAbout_b (x : D) (M : Mem) (R : DK) (Y : DXK) : Prop := ∃ xs : List D, x = .vl xs ∧ R (.vl xs.reverse) M
noncomputable def sAbout : DSp := fun ds M R Y => ∃ (x : D), ds = [x] ∧ sAbout_b x M R Y
theorem z_sAbout {x : D} {M : Mem} {R : DK} {Y : DXK} : sAbout [x] M R Y = (sAbout_b x M R Y) := propext ⟨fun z => by obtain ⟨_, _, _⟩ := z; walk_at "inj", fun h => ⟨x, rfl, h⟩⟩
noncomputable abbrev sJnd_b (x : D) (M : Mem) (R : DK) (Y : DXK) : Prop := ∃ rs : List Run, x = .vl (rs.map ruD) ∧ (rs.length < 100000 ∧ ∀ x ∈ rs, x.1 = "gap" ∨ x.1 = "glass") ∧ R (.vl ((joinR rs).map ruD)) M
noncomputable def sJnd : DSp := fun ds M R Y => ∃ (x : D), ds = [x] ∧ sJnd_b x M R Y
theorem z_sJnd {x : D} {M : Mem} {R : DK} {Y : DXK} : sJnd [x] M R Y = (sJnd_b x M R Y) := propext ⟨fun z => by obtain ⟨_, _, _⟩ := z; walk_at "inj", fun h => ⟨x, rfl, h⟩⟩
noncomputable abbrev sFew_b (x : D) (M : Mem) (R : DK) (Y : DXK) : Prop := ∃ (T : Z4) (n : Nat), x = tabI T ∧ (Cn T n ∧ n ≤ 3900 ∧ Bz 2000 T) ∧ ∀ rs, AltR rs → rowsG 1 rs = T → cntR rs = n → R (.tup [.int (n : Int), .vl (rs.map ruD)]) M
noncomputable def sFew : DSp := fun ds M R Y => ∃ (x : D), ds = [x] ∧ sFew_b x M R Y
theorem z_sFew {x : D} {M : Mem} {R : DK} {Y : DXK} : sFew [x] M R Y = (sFew_b x M R Y) := propext ⟨fun z => by obtain ⟨_, _, _⟩ := z; walk_at "inj", fun h => ⟨x, rfl, h⟩⟩
theorem gn_bz {k : Nat} {m : Z4} (l : Bool) (h : Bz k m) : Bz (k + 1) (mulM m (gnM l)) := by
  obtain ⟨h1, h2, h3, h4⟩ := h
  have p : 2 ^ (k + 1) = 2 ^ k + 2 ^ k := by rw [Nat.pow_succ]; omega
  unfold Bz mulM gnM
  cases l <;> simp only [if_true, if_false, Bool.false_eq_true] <;> rw [p] <;> refine ⟨?_, ?_, ?_, ?_⟩ <;> simp <;> omega
theorem mt_bz (w : List Bool) : Bz (w.length + 1) (mtW w) := by
  induction w with
  | nil => exact one_bz
  | cons l w ih => exact gn_bz l ih
theorem hp_bz {k : Nat} {m : Z4} (h : Bz k m) (n : Nat) : Bz k (mulM (hpM n) m) := by
  induction n with
  | zero => rw [hpM, one_mulM]; exact h
  | succ n ih =>
    rw [hpM, mulM_assoc]
    generalize mulM (hpM n) m = q at *
    obtain ⟨h1, h2, h3, h4⟩ := ih
    unfold Bz mulM hfM
    refine ⟨?_, ?_, ?_, ?_⟩ <;> simp <;> omega
theorem Cn.bz {T : Z4} {n k : Nat} (h : Cn T n) (hk : n < k) : Bz k T := by
  obtain ⟨w, j, _, _, rfl, rfl⟩ := h
  exact (hp_bz (mt_bz w) j).mono (by omega)
noncomputable def w11 (l : Bool) : List Bool := [l, !l, l, l, !l, l, l, !l, l, l, !l]
noncomputable def ivW (l : Bool) : List Bool := if mtW (w11 l) = pwM l (-1) then w11 l else w11 (!l)
theorem ivW_mt (l : Bool) : mtW (ivW l) = pwM l (-1) ∧ (ivW l).length = 11 := by cases l <;> decide
theorem Cn.pw {T : Z4} {n : Nat} (h : Cn T n) (l : Bool) (r : Int) : ∃ k, Cn (mulM (pwM l r) T) k ∧ k ≤ n + 11 * r.natAbs := by
  by_cases z : 0 ≤ r
  · obtain ⟨k, k1, k2⟩ := h.behindW (List.replicate r.toNat l)
    rw [mt_rep, Int.toNat_of_nonneg z, List.length_replicate] at *
    exact ⟨k, k1, by omega⟩
  · have key : ∀ j : Nat, mtW ((List.replicate j (ivW l)).flatten) = pwM l (-(j : Int)) ∧ ((List.replicate j (ivW l)).flatten).length = 11 * j := by
      intro j
      induction j with
      | zero => exact ⟨(pw_zero l).symm, rfl⟩
      | succ j ih =>
        rw [List.replicate_succ, List.flatten_cons, mt_app, ih.1, (ivW_mt l).1, pw_add, List.length_append, ih.2, (ivW_mt l).2]
        exact ⟨by congr 1; omega, by omega⟩
    obtain ⟨k, k1, k2⟩ := h.behindW ((List.replicate r.natAbs (ivW l)).flatten)
    rw [(key r.natAbs).1] at k1
    rw [(key r.natAbs).2] at k2
    rw [show -((r.natAbs : Nat) : Int) = r by omega] at k1
    exact ⟨k, k1, by omega⟩
theorem Cn.hp {T : Z4} {n : Nat} (h : Cn T n) (j : Nat) : ∃ k, Cn (mulM (hpM j) T) k ∧ k ≤ n + 3 * j := by
  obtain ⟨k, k1, k2⟩ := h.behindW (expR (hlvR j))
  rw [hlv_mt] at k1
  rw [hlv_len] at k2
  exact ⟨k, k1, k2⟩
theorem AltR.zero {rs : List Run} (h : AltR rs) (h0 : cntR rs = 0) : rs = [] := by
  cases rs with
  | nil => rfl
  | cons x r => have := h.head.2; rw [cntR_cons] at h0; omega
theorem cntR_le {ts : List Run} {k : Nat} (h : ∀ x ∈ ts, x.2 ≤ k) : cntR ts ≤ k * ts.length := by
  induction ts with
  | nil => exact Nat.zero_le _
  | cons x r ih =>
    have := ih fun z hz => h z (List.mem_cons_of_mem _ hz)
    have := h x List.mem_cons_self
    rw [cntR_cons, List.length_cons, Nat.mul_succ]
    omega
theorem Cn.rows {ts : List Run} (h : ∀ x ∈ ts, x.1 = "gap" ∨ x.1 = "glass") : ∃ n, Cn (rowsG 1 ts) n ∧ n ≤ cntR ts := by
  obtain ⟨n, n1, n2⟩ := Cn.word (expR ts)
  rw [← rowsG_mt ts h] at n1
  rw [expR_len] at n2
  exact ⟨n, n1, n2⟩
end GM

namespace GM
open PySem PySem.Spec L2 DL
open RM (sz)
noncomputable def nvM (m : Z4) : Z4 := (m.2.2.2, -m.2.1, -m.2.2.1, m.1)
theorem nv_mul (x y : Z4) : nvM (mulM x y) = mulM (nvM y) (nvM x) := ext4z (by unfold nvM mulM; grind) (by unfold nvM mulM; grind) (by unfold nvM mulM; grind) (by unfold nvM mulM; grind)
theorem nv_gn (l : Bool) : nvM (gnM l) = mulM (mulM (gnM (!l)) (gnM l)) (hpM 3) := by cases l <;> decide
theorem nv_hp (h : Nat) : nvM (hpM h) = hpM (3 * h) := by
  induction h with
  | zero => rfl
  | succ h ih =>
    rw [hpM, nv_mul, ih, show nvM hfM = hpM 3 from rfl, hp_add, show 3 * h + 3 = 3 * (h + 1) by omega]
theorem hp_mt (h : Nat) : ∀ w : List Bool, ∃ v : List Bool, v.length = w.length ∧ mulM (hpM h) (mtW w) = mulM (mtW v) (hpM h) := by
  induction h with
  | zero => intro w; exact ⟨w, rfl, by rw [hpM, one_mulM, mulM_one]⟩
  | succ h ih =>
    intro w
    obtain ⟨v, v1, v2⟩ := ih w
    exact ⟨v.map (!·), by rw [List.length_map]; exact v1, by rw [hpM, mulM_assoc, v2, ← mulM_assoc, hf_mt, mulM_assoc]⟩
theorem nv_mt (w : List Bool) : ∃ v : List Bool, v.length = 2 * w.length ∧ nvM (mtW w) = mulM (mtW v) (hpM (3 * w.length)) := by
  induction w with
  | nil => exact ⟨[], rfl, rfl⟩
  | cons l w ih =>
    obtain ⟨v, v1, v2⟩ := ih
    obtain ⟨u, u1, u2⟩ := hp_mt 3 v
    refine ⟨u ++ [l, !l], by rw [List.length_append, u1, v1, List.length_cons]; show _ + 2 = 2 * (_ + 1); omega, ?_⟩
    show nvM (mulM (mtW w) (gnM l)) = _
    have e1 : mulM (hpM 3) (mulM (mtW v) (hpM (3 * w.length))) = mulM (mtW u) (hpM (3 * (w.length + 1))) := by
      rw [← mulM_assoc, u2, mulM_assoc, hp_add, show 3 + 3 * w.length = 3 * (w.length + 1) by omega]
    have e2 : mtW (u ++ [l, !l]) = mulM (mulM (gnM (!l)) (gnM l)) (mtW u) := by
      rw [mt_app]
      show mulM (mulM (mulM oneZ (gnM (!l))) (gnM l)) (mtW u) = _
      rw [one_mulM]
    rw [nv_mul, v2, nv_gn, mulM_assoc _ (hpM 3), e1, e2, List.length_cons, mulM_assoc, mulM_assoc, mulM_assoc]
theorem Cn.inv {T : Z4} {n : Nat} (h : Cn T n) : ∃ k, Cn (nvM T) k ∧ k ≤ 2 * n + 9 := by
  obtain ⟨w, h, w1, w2, rfl, rfl⟩ := h
  obtain ⟨v, v1, v2⟩ := nv_mt w
  have e : nvM (mulM (hpM h) (mtW w)) = mulM (mtW v) (hpM ((3 * w.length + 3 * h) % 4)) := by rw [nv_mul, v2, nv_hp, mulM_assoc, hp_add, ← hp_mod]
  obtain ⟨j, j1, j2⟩ := Cn.one.hp ((3 * w.length + 3 * h) % 4)
  obtain ⟨k, k1, k2⟩ := j1.behindW v
  rw [mulM_one, ← e] at k1
  exact ⟨k, k1, by omega⟩
theorem AltR.len : ∀ {rs : List Run}, AltR rs → rs.length ≤ cntR rs
  | [], _ => Nat.le_refl _
  | x :: r, h => by
    have := AltR.len h.tail
    have := h.head.2
    rw [cntR_cons, List.length_cons]; omega
theorem AltR.nx {rs : List Run} (h : AltR rs) {i : Nat} {x y : Run} (hx : rs[i]? = some x) (hy : rs[i + 1]? = some y) : x.1 ≠ y.1 := by
  have := h.drop i
  rw [(take_one hx).2, (take_one hy).2] at this
  exact this.2.2.1
noncomputable def Told (T : Z4) (rs : List Run) : Prop := AltR rs ∧ ∃ (w : List Bool) (h : Nat), NF w ∧ h < 4 ∧ T = mulM (hpM h) (mtW w) ∧ expR rs = w ++ expR (hlvR h)
theorem Told.facts {T : Z4} {rs : List Run} {n : Nat} (t : Told T rs) (c : Cn T n) : AltR rs ∧ rowsG 1 rs = T ∧ cntR rs = n := by
  obtain ⟨a, w, h, w1, w2, w3, w4⟩ := t
  have hw := fun x hx => (a.words x hx).1
  refine ⟨a, ?_, ?_⟩
  · rw [rowsG_mt rs hw, w4, mt_app, hlv_mt]; exact w3.symm
  · rw [← expR_len, w4, List.length_append, hlv_len]
    exact (c.uniq ⟨w, h, w1, w2, w3, rfl⟩).symm
theorem rep_head {b : Bool} : ∀ {n m : Nat} {u v : List Bool}, (∀ x, u.head? = some x → x ≠ b) → (∀ x, v.head? = some x → x ≠ b) → List.replicate n b ++ u = List.replicate m b ++ v → n = m ∧ u = v
  | 0, 0, u, v, _, _, e => ⟨rfl, e⟩
  | 0, m + 1, u, v, hu, _, e => by
    have e : u = b :: (List.replicate m b ++ v) := e
    exact absurd rfl (hu b (by rw [e]; rfl))
  | n + 1, 0, u, v, _, hv, e => by
    have e : b :: (List.replicate n b ++ u) = v := e
    exact absurd rfl (hv b (by rw [← e]; rfl))
  | n + 1, m + 1, u, v, hu, hv, e => by
    have e : b :: (List.replicate n b ++ u) = b :: (List.replicate m b ++ v) := e
    injection e with _ e
    obtain ⟨e1, e2⟩ := rep_head hu hv e
    exact ⟨by rw [e1], e2⟩
theorem isG_ne {x y : Run} (hx : x.1 = "gap" ∨ x.1 = "glass") (hy : y.1 = "gap" ∨ y.1 = "glass") (h : x.1 ≠ y.1) : isG y ≠ isG x := by
  unfold isG
  rcases hx with e | e <;> rcases hy with e2 | e2
  · exact absurd (e.trans e2.symm) h
  · rw [e, e2]; decide
  · rw [e, e2]; decide
  · exact absurd (e.trans e2.symm) h
theorem exp_cons (x : Run) (r : List Run) : expR (x :: r) = List.replicate x.2 (isG x) ++ expR r := by rw [← expR_one, ← expR_app]; rfl
theorem alt_head {x : Run} {r : List Run} (h : AltR (x :: r)) : ∀ c, (expR r).head? = some c → c ≠ isG x := by
  intro c hc
  cases r with
  | nil => cases hc
  | cons y r =>
    rw [exp_cons] at hc
    have hy := h.tail.head
    obtain ⟨j, hj⟩ : ∃ j, y.2 = j + 1 := ⟨y.2 - 1, by omega⟩
    rw [hj, List.replicate_succ, List.cons_append] at hc
    rw [← Option.some.inj hc]
    exact isG_ne h.head.1 hy.1 h.2.2.1
theorem isG_word {x y : Run} (hx : x.1 = "gap" ∨ x.1 = "glass") (hy : y.1 = "gap" ∨ y.1 = "glass") (h : isG x = isG y) : x.1 = y.1 := by
  rcases hx with e | e <;> rcases hy with e2 | e2
  · exact e.trans e2.symm
  · unfold isG at h; rw [e, e2] at h; exact absurd h (by decide)
  · unfold isG at h; rw [e, e2] at h; exact absurd h (by decide)
  · exact e.trans e2.symm
theorem alt_inj : ∀ {rs ts : List Run}, AltR rs → AltR ts → expR rs = expR ts → rs = ts
  | [], [], _, _, _ => rfl
  | [], y :: t, _, h, e => by
    have := congrArg List.length e
    rw [expR_len, expR_len, cntR_cons] at this
    have hy := h.head.2
    have : (0 : Nat) = y.2 + cntR t := this
    omega
  | x :: r, [], h, _, e => by
    have := congrArg List.length e
    rw [expR_len, expR_len, cntR_cons] at this
    have hy := h.head.2
    have : x.2 + cntR r = 0 := this
    omega
  | x :: r, y :: t, hr, ht, e => by
    have hx := hr.head
    have hy := ht.head
    rw [exp_cons, exp_cons] at e
    have hb : isG x = isG y := by
      obtain ⟨j, hj⟩ : ∃ j, x.2 = j + 1 := ⟨x.2 - 1, by omega⟩
      obtain ⟨i, hi⟩ : ∃ i, y.2 = i + 1 := ⟨y.2 - 1, by omega⟩
      rw [hj, hi, List.replicate_succ, List.replicate_succ, List.cons_append, List.cons_append] at e
      injection e
    have a1 := alt_head hr
    have a2 := alt_head ht
    rw [← hb] at e a2
    obtain ⟨e1, e2⟩ := rep_head a1 a2 e
    have e3 := alt_inj hr.tail ht.tail e2
    rw [e3, Prod.ext (isG_word hx.1 hy.1 hb) e1]
theorem Told.uniq {T : Z4} {rs ts : List Run} (a : Told T rs) (b : Told T ts) : rs = ts := by
  obtain ⟨a0, w, h, a1, a2, a3, a4⟩ := a
  obtain ⟨b0, v, j, b1, b2, b3, b4⟩ := b
  obtain ⟨e1, e2⟩ := nf_uniq a1 b1 (a3.symm.trans b3)
  rw [Nat.mod_eq_of_lt a2, Nat.mod_eq_of_lt b2] at e2
  subst e1; subst e2
  exact alt_inj a0 b0 (a4.trans b4.symm)
local macro_rules | `(tactic| walk_at "inj") => `(tactic| (rename_i e h; simp only [List.cons.injEq, and_true, true_and, GM.ratD_iff, GM.partD_iff, GM.partsD_iff, GM.lineD_iff, GM.linesD_iff, D.tup.injEq, D.ref.injEq, D.int.injEq, D.str.injEq, D.bl.injEq, D.vl.injEq, Int.natCast_inj, and_assoc] at e; (repeat (obtain ⟨e1, e⟩ := e; subst e1)); subst e; exact h))
local macro_rules | `(tactic| walk_at "injs") => `(tactic| (rename_i e o h; rcases o with o | o <;> (subst o; first | (exfalso; simp only [D.tup.injEq, List.cons.injEq, reduceCtorEq, false_and, and_false] at e; done) | (simp only [List.cons.injEq, and_true, true_and, GM.ratD_iff, GM.partD_iff, GM.partsD_iff, GM.lineD_iff, GM.linesD_iff, D.tup.injEq, D.ref.injEq, D.int.injEq, D.str.injEq, D.bl.injEq, D.vl.injEq, Int.natCast_inj, and_assoc] at e; (repeat (obtain ⟨e1, e⟩ := e; subst e1)); subst e; exact h))))
noncomputable abbrev sJnd50_b (x : D) (M : Mem) (R : DK) (Y : DXK) : Prop := ∃ rs : List Run, x = .vl (rs.map ruD) ∧ (rs.length < 100000 ∧ ∀ x ∈ rs, x.1 = "gap" ∨ x.1 = "glass") ∧ ∀ p, M p = none → R (.ref p) (updM M p (.lst ((joinR rs).map ruD)))
noncomputable abbrev sFew50_b (x : D) (M : Mem) (R : DK) (Y : DXK) : Prop := ∃ (T : Z4) (n : Nat), x = tabI T ∧ (Cn T n ∧ n ≤ 3900 ∧ Bz 2000 T) ∧ ∀ rs, Told T rs → ∀ p, M p = none → R (.tup [.int (n : Int), .ref p]) (updM M p (.lst (rs.map ruD)))
end GM

namespace GM
open PySem PySem.Spec L2 DL
open PyProof.Rows hiding St
noncomputable abbrev ZN := Z4 × Nat
noncomputable def kyZ (t : Z4) : PKey := ([t.1, t.2.1, t.2.2.1, t.2.2.2], [])
noncomputable def zE (x : ZN) : PKey × D × D := (kyZ x.1, fourI x.1, .int (x.2 : Int))
theorem kyZ_inj {t u : Z4} (h : kyZ t = kyZ u) : t = u := by
  have h := congrArg Prod.fst h
  have h : [t.1, t.2.1, t.2.2.1, t.2.2.2] = [u.1, u.2.1, u.2.2.1, u.2.2.2] := h
  injection h with h1 h
  injection h with h2 h
  injection h with h3 h
  injection h with h4 h
  exact ext4z h1 h2 h3 h4
theorem kyZ_iff (t u : Z4) : kyZ t = kyZ u ↔ t = u := ⟨kyZ_inj, fun h => by rw [h]⟩
theorem zE_any (zs : List ZN) (t : Z4) : ((zs.map zE).any fun e => decide (e.1 = kyZ t)) = zs.any fun x => decide (x.1 = t) := by
  rw [List.any_map]
  congr 1
  funext x
  show decide (kyZ x.1 = kyZ t) = decide (x.1 = t)
  rw [decide_eq_decide]; exact kyZ_iff _ _
theorem zE_ok (zs : List ZN) : KeysOk (zs.map zE) := fun e he => by
  obtain ⟨x, _, rfl⟩ := List.mem_map.mp he
  exact ⟨rfl, rfl⟩
theorem zE_find {zs : List ZN} (nd : (zs.map (·.1)).Nodup) {t : Z4} {n : Nat} (h : (t, n) ∈ zs) : ((zs.map zE).find? fun e => decide (e.1 = kyZ t)) = some (kyZ t, fourI t, .int (n : Int)) := by
  induction zs with
  | nil => cases h
  | cons x zs ih =>
    rw [List.map_cons, List.nodup_cons] at nd
    rw [List.map_cons, List.find?_cons]
    show (match decide (kyZ x.1 = kyZ t) with | true => some (zE x) | false => _) = _
    by_cases c : x.1 = t
    · rw [decide_eq_true (by rw [c])]
      rcases List.mem_cons.mp h with e | e
      · rw [← e]; rfl
      · exact absurd (List.mem_map.mpr ⟨_, e, c.symm⟩) nd.1
    · rw [decide_eq_false fun z => c (kyZ_inj z)]
      rcases List.mem_cons.mp h with e | e
      · exact absurd (by rw [← e]) c
      · exact ih nd.2 e
theorem zE_put {zs : List ZN} {t : Z4} {n : Nat} (h : (zs.any fun x => decide (x.1 = t)) = false) : putD (zs.map zE) (kyZ t) (.int (n : Int)) = (zs ++ [(t, n)]).map zE := by
  unfold putD
  rw [zE_any, h, if_neg Bool.false_ne_true, List.map_append]; rfl
noncomputable def addT (c : Nat) (s : List ZN × List Z4) (t : Z4) : List ZN × List Z4 := if (s.1.any fun x => decide (x.1 = t)) = true then s else (s.1 ++ [(t, c)], s.2 ++ [t])
noncomputable def rndT (c : Nat) (s : List ZN × List Z4) (ts : List Z4) : List ZN × List Z4 := ts.foldl (addT c) s
noncomputable def twoT (t : Z4) : List Z4 := [mulM (gnM true) t, mulM (gnM false) t]
theorem any_key {zs : List ZN} {t : Z4} : (zs.any fun x => decide (x.1 = t)) = true ↔ ∃ n, (t, n) ∈ zs := by
  rw [List.any_eq_true]
  refine ⟨fun ⟨x, hx, e⟩ => ⟨x.2, ?_⟩, fun ⟨n, h⟩ => ⟨_, h, decide_eq_true rfl⟩⟩
  rw [← of_decide_eq_true e]; exact hx
structure Rn (c : Nat) (s : List ZN × List Z4) (ts : List Z4) (r : List ZN × List Z4) : Prop where
  all : ∀ x ∈ r.1, x ∈ s.1 ∨ (x.2 = c ∧ x.1 ∈ ts ∧ ∀ n, (x.1, n) ∉ s.1)
  old : ∀ x ∈ s.1, x ∈ r.1
  has : ∀ t ∈ ts, ∃ n, (t, n) ∈ r.1
  new : ∀ t ∈ r.2, t ∈ s.2 ∨ (t ∈ ts ∧ ∀ n, (t, n) ∉ s.1)
  get : ∀ t ∈ ts, (∀ n, (t, n) ∉ s.1) → t ∈ r.2
  keep : ∀ t ∈ s.2, t ∈ r.2
  l1 : r.1.length ≤ s.1.length + ts.length
  l2 : r.2.length ≤ s.2.length + ts.length
  nd : (s.1.map (·.1)).Nodup → (r.1.map (·.1)).Nodup
theorem add_rn (c : Nat) (s : List ZN × List Z4) (t : Z4) : Rn c s [t] (addT c s t) := by
  unfold addT
  by_cases h : (s.1.any fun x => decide (x.1 = t)) = true
  · rw [if_pos h]
    have h := any_key.mp h
    exact ⟨fun x hx => .inl hx, fun x hx => hx, fun u hu => by rw [List.mem_singleton.mp hu]; exact h, fun u hu => .inl hu, fun u hu hn => by
      rw [List.mem_singleton.mp hu] at hn
      obtain ⟨n, h⟩ := h
      exact absurd h (hn n), fun u hu => hu, Nat.le_add_right _ _, Nat.le_add_right _ _, fun z => z⟩
  · rw [if_neg h]
    have hn : ∀ n, (t, n) ∉ s.1 := fun n z => h (any_key.mpr ⟨n, z⟩)
    refine ⟨fun x hx => ?_, fun x hx => List.mem_append_left _ hx, fun u hu => ⟨c, by rw [List.mem_singleton.mp hu]; exact List.mem_append_right _ List.mem_cons_self⟩, fun u hu => ?_, fun u hu _ => by rw [List.mem_singleton.mp hu]; exact List.mem_append_right _ List.mem_cons_self, fun u hu => List.mem_append_left _ hu, by rw [List.length_append]; exact Nat.le_refl _, by rw [List.length_append]; exact Nat.le_refl _, fun z => ?_⟩
    · rcases List.mem_append.mp hx with hx | hx
      · exact .inl hx
      · rw [List.mem_singleton.mp hx]; exact .inr ⟨rfl, List.mem_cons_self, hn⟩
    · rcases List.mem_append.mp hu with hu | hu
      · exact .inl hu
      · rw [List.mem_singleton.mp hu]; exact .inr ⟨List.mem_cons_self, hn⟩
    · rw [List.map_append, List.nodup_append]
      refine ⟨z, by simp, fun a ha b hb e => ?_⟩
      obtain ⟨x, hx, e1⟩ := List.mem_map.mp ha
      have e2 : b = t := by simpa using hb
      exact hn x.2 (by rw [← e2, ← e, ← e1]; exact hx)
theorem rnd_rn (c : Nat) (ts : List Z4) : ∀ s, Rn c s ts (rndT c s ts) := by
  induction ts with
  | nil => intro s; exact ⟨fun x hx => .inl hx, fun x hx => hx, fun t ht => (nomatch ht), fun t ht => .inl ht, fun t ht => (nomatch ht), fun t ht => ht, Nat.le_refl _, Nat.le_refl _, fun z => z⟩
  | cons t ts ih =>
    intro s
    have a := add_rn c s t
    have b := ih (addT c s t)
    show Rn c s (t :: ts) (rndT c (addT c s t) ts)
    refine ⟨fun x hx => ?_, fun x hx => b.old x (a.old x hx), fun u hu => ?_, fun u hu => ?_, fun u hu hn => ?_, fun u hu => b.keep u (a.keep u hu), ?_, ?_, fun z => b.nd (a.nd z)⟩
    · rcases b.all x hx with h | ⟨h1, h2, h3⟩
      · rcases a.all x h with h | ⟨g1, g2, g3⟩
        · exact .inl h
        · exact .inr ⟨g1, by rw [List.mem_singleton.mp g2]; exact List.mem_cons_self, g3⟩
      · exact .inr ⟨h1, .tail _ h2, fun n z => h3 n (a.old _ z)⟩
    · rcases List.mem_cons.mp hu with rfl | hu
      · obtain ⟨n, h⟩ := a.has u List.mem_cons_self
        exact ⟨n, b.old _ h⟩
      · exact b.has u hu
    · rcases b.new u hu with h | ⟨h1, h2⟩
      · rcases a.new u h with h | ⟨g1, g2⟩
        · exact .inl h
        · exact .inr ⟨by rw [List.mem_singleton.mp g1]; exact List.mem_cons_self, g2⟩
      · exact .inr ⟨.tail _ h1, fun n z => h2 n (a.old _ z)⟩
    · rcases List.mem_cons.mp hu with rfl | hu
      · exact b.keep u (a.get u List.mem_cons_self hn)
      · by_cases e : ∃ n, (u, n) ∈ (addT c s t).1
        · obtain ⟨n, e⟩ := e
          rcases a.all _ e with h | ⟨_, h, _⟩
          · exact absurd h (hn n)
          · have h : u = t := List.mem_singleton.mp h
            subst h
            exact b.keep u (a.get u List.mem_cons_self hn)
        · exact b.get u hu fun n z => e ⟨n, z⟩
    · have := a.l1; have := b.l1
      rw [List.length_singleton] at *
      rw [List.length_cons]; omega
    · have := a.l2; have := b.l2
      rw [List.length_singleton] at *
      rw [List.length_cons]; omega
structure Bf (c : Nat) (s : List ZN × List Z4) : Prop where
  ok : ∀ x ∈ s.1, Cn x.1 x.2 ∧ x.2 ≤ c
  all : ∀ T n, Cn T n → n ≤ c → (T, n) ∈ s.1
  ls : ∀ T ∈ s.2, Cn T c
  lall : ∀ T, Cn T c → T ∈ s.2
  l1 : s.1.length ≤ 2 ^ (c + 1) - 1
  l2 : s.2.length ≤ 2 ^ c
  nd : (s.1.map (·.1)).Nodup
theorem Cn.zero {T : Z4} (h : Cn T 0) : T = oneZ := by
  obtain ⟨w, k, _, _, e, n⟩ := h
  have h1 : w.length = 0 := by omega
  have h2 : k = 0 := by omega
  subst h2
  rw [List.length_eq_zero_iff.mp h1] at e
  rw [e]; exact one_mulM _
theorem bf0 : Bf 0 ([(oneZ, 0)], [oneZ]) := by
  refine ⟨fun x hx => ?_, fun T n h hn => ?_, fun T hT => ?_, fun T h => ?_, by decide, by decide, by simp⟩
  · rw [List.mem_singleton.mp hx]; exact ⟨Cn.one, Nat.le_refl _⟩
  · obtain rfl : n = 0 := by omega
    rw [h.zero]; exact List.mem_cons_self
  · rw [List.mem_singleton.mp hT]; exact Cn.one
  · rw [h.zero]; exact List.mem_cons_self
theorem mt_one (l : Bool) : mtW [l] = gnM l := one_mulM _
theorem Cn.cutL {T : Z4} {c : Nat} (h : Cn T (c + 1)) : ∃ U l, T = mulM (gnM l) U ∧ Cn U c := by
  obtain ⟨w, k, nf, hk, e, n⟩ := id h
  have eu : mtW (w ++ expR (hlvR k)) = T := by rw [mt_app, hlv_mt]; exact e.symm
  have lu : (w ++ expR (hlvR k)).length = c + 1 := by rw [List.length_append, hlv_len]; omega
  generalize w ++ expR (hlvR k) = u at eu lu
  have hne : u ≠ [] := fun z => by rw [z] at lu; cases lu
  have es : u = u.dropLast ++ [u.getLast hne] := (List.dropLast_concat_getLast hne).symm
  have lv : u.dropLast.length = c := by rw [List.length_dropLast, lu]; rfl
  rw [es, mt_app, mt_one] at eu
  obtain ⟨k2, h1, h2⟩ := Cn.word u.dropLast
  refine ⟨mtW u.dropLast, u.getLast hne, eu.symm, ?_⟩
  by_cases z : k2 = c
  · rw [← z]; exact h1
  · obtain ⟨k3, g1, g2⟩ := h1.behind (u.getLast hne)
    rw [eu] at g1
    have := g1.uniq h
    omega
theorem two_mem {T : Z4} {ls : List Z4} : T ∈ ls.flatMap twoT ↔ ∃ U ∈ ls, ∃ l, T = mulM (gnM l) U := by
  rw [List.mem_flatMap]
  refine ⟨fun ⟨U, hU, h⟩ => ⟨U, hU, ?_⟩, fun ⟨U, hU, l, e⟩ => ⟨U, hU, ?_⟩⟩
  · unfold twoT at h
    simp only [List.mem_cons, List.not_mem_nil, or_false] at h
    rcases h with h | h
    · exact ⟨true, h⟩
    · exact ⟨false, h⟩
  · subst e
    unfold twoT
    cases l
    · exact .tail _ (.head _)
    · exact .head _
theorem two_len (ls : List Z4) : (ls.flatMap twoT).length = 2 * ls.length := by
  induction ls with
  | nil => rfl
  | cons t ls ih => rw [List.flatMap_cons, List.length_append, ih, List.length_cons]; show 2 + _ = _; omega
theorem Bf.next {c : Nat} {s : List ZN × List Z4} (b : Bf c s) : Bf (c + 1) (rndT (c + 1) (s.1, []) (s.2.flatMap twoT)) := by
  have r := rnd_rn (c + 1) (s.2.flatMap twoT) (s.1, [])
  generalize rndT (c + 1) (s.1, []) (s.2.flatMap twoT) = q at r
  have nw : ∀ T, T ∈ s.2.flatMap twoT → (∀ n, (T, n) ∉ s.1) → Cn T (c + 1) := fun T hT hn => by
    obtain ⟨U, hU, l, rfl⟩ := two_mem.mp hT
    obtain ⟨k, h1, h2⟩ := (b.ls U hU).behind l
    by_cases z : k = c + 1
    · rw [← z]; exact h1
    · exact absurd (b.all _ k h1 (by omega)) (hn k)
  have ok : ∀ x ∈ q.1, Cn x.1 x.2 ∧ x.2 ≤ c + 1 := fun x hx => by
    rcases r.all x hx with h | ⟨h1, h2, h3⟩
    · have := b.ok x h
      exact ⟨this.1, by omega⟩
    · rw [h1]; exact ⟨nw x.1 h2 h3, Nat.le_refl _⟩
  have tl := two_len s.2
  have p2 : 2 ^ (c + 1 + 1) = 2 * 2 ^ (c + 1) := by rw [Nat.pow_succ]; omega
  have p1 : 2 ^ (c + 1) = 2 * 2 ^ c := by rw [Nat.pow_succ]; omega
  have p0 : 0 < 2 ^ c := Nat.two_pow_pos c
  have b1 := b.l1; have b2 := b.l2; have r1 := r.l1; have r2 := r.l2
  rw [List.length_nil] at r2
  refine ⟨ok, fun T n h hn => ?_, fun T hT => ?_, fun T h => ?_, ?_, by omega, r.nd b.nd⟩
  · by_cases z : n ≤ c
    · exact r.old _ (b.all T n h z)
    · obtain rfl : n = c + 1 := by omega
      obtain ⟨U, l, e, hU⟩ := h.cutL
      obtain ⟨n, g⟩ := r.has T (two_mem.mpr ⟨U, b.lall U hU, l, e⟩)
      have := (ok _ g).1.uniq h
      rw [← this]; exact g
  · rcases r.new T hT with h | ⟨h1, h2⟩
    · cases h
    · exact nw T h1 h2
  · obtain ⟨U, l, e, hU⟩ := h.cutL
    refine r.get T (two_mem.mpr ⟨U, b.lall U hU, l, e⟩) fun n z => ?_
    have := b.ok _ z
    have := this.1.uniq h
    have := (b.ok _ z).2
    omega
  · show q.1.length ≤ _
    have : (s.1, ([] : List Z4)).1.length = s.1.length := rfl
    omega
noncomputable def bfT : Nat → List ZN × List Z4
  | 0 => ([(oneZ, 0)], [oneZ])
  | c + 1 => rndT (c + 1) ((bfT c).1, []) ((bfT c).2.flatMap twoT)
theorem bfT_ok : ∀ c, Bf c (bfT c)
  | 0 => bf0
  | c + 1 => (bfT_ok c).next
structure ShOk (zs : List ZN) : Prop where
  ok : ∀ x ∈ zs, Cn x.1 x.2 ∧ x.2 ≤ 8
  nd : (zs.map (·.1)).Nodup
  two : 2 ≤ zs.length
  few : zs.length ≤ 511
theorem bfT_sh {c : Nat} (h1 : 1 ≤ c) (h8 : c ≤ 8) : ShOk (bfT c).1 := by
  have b := bfT_ok c
  have p : 2 ^ (c + 1) ≤ 2 ^ 9 := Nat.pow_le_pow_right (by decide) (by omega)
  refine ⟨fun x hx => ⟨(b.ok x hx).1, by have := (b.ok x hx).2; omega⟩, b.nd, ?_, ?_⟩
  · have a1 := b.all oneZ 0 Cn.one (by omega)
    obtain ⟨k, g1, g2⟩ := Cn.one.behind true
    have a2 := b.all _ k g1 (by omega)
    have ne : (oneZ, 0) ≠ (mulM (gnM true) oneZ, k) := fun z => absurd (show oneZ = mulM (gnM true) oneZ from congrArg Prod.fst z) (by decide)
    match e : (bfT c).1 with
    | [] => rw [e] at a1; cases a1
    | [x] =>
      rw [e] at a1 a2
      exact absurd ((List.mem_singleton.mp a1).trans (List.mem_singleton.mp a2).symm) ne
    | _ :: _ :: _ => simp
  · have := b.l1; omega
theorem rndT_app (c : Nat) (s : List ZN × List Z4) (ts us : List Z4) : rndT c s (ts ++ us) = rndT c (rndT c s ts) us := List.foldl_append
theorem two_take {ls : List Z4} {i : Nat} {t : Z4} (h : ls[i]? = some t) : (ls.take (i + 1)).flatMap twoT = (ls.take i).flatMap twoT ++ twoT t := by
  rw [List.take_add_one, h, List.flatMap_append]
  simp
theorem Cn.mul {T U : Z4} {n k : Nat} (h : Cn T n) (g : Cn U k) : ∃ m, Cn (mulM T U) m ∧ m ≤ n + k := by
  obtain ⟨w, j, nf, hj, e, hn⟩ := id h
  have eu : mtW (w ++ expR (hlvR j)) = T := by rw [mt_app, hlv_mt]; exact e.symm
  have lu : (w ++ expR (hlvR j)).length = n := by rw [List.length_append, hlv_len]; omega
  obtain ⟨m, m1, m2⟩ := g.behindW (w ++ expR (hlvR j))
  rw [eu] at m1
  exact ⟨m, m1, by omega⟩
theorem nv_left {t x : Z4} (h : detM t = 1) : mulM (nvM t) (mulM t x) = x := by
  rw [← mulM_assoc]
  have : mulM (nvM t) t = oneZ := by
    unfold detM at h
    exact ext4z (by unfold mulM nvM oneZ; dsimp only; grind) (by unfold mulM nvM oneZ; dsimp only; grind) (by unfold mulM nvM oneZ; dsimp only; grind) (by unfold mulM nvM oneZ; dsimp only; grind)
  rw [this, one_mulM]
theorem both_ok {t x : Z4} {n k m : Nat} (ht : Cn t n) (hx : Cn x k) (hb : Cn (mulM t x) m) : m ≤ k + n ∧ k ≤ m + 12 * n := by
  obtain ⟨m2, g1, g2⟩ := ht.mul hx
  have := g1.uniq hb
  refine ⟨by omega, ?_⟩
  by_cases z : n = 0
  · subst z
    rw [ht.zero, one_mulM] at hb
    have := hb.uniq hx
    omega
  · obtain ⟨j, j1, j2⟩ := ht.inv
    obtain ⟨q, q1, q2⟩ := j1.mul hb
    rw [nv_left ht.det] at q1
    have := q1.uniq hx
    omega
local macro_rules | `(tactic| walk_at "inj") => `(tactic| (rename_i e h; simp only [List.cons.injEq, and_true, true_and, GM.ratD_iff, GM.partD_iff, GM.partsD_iff, GM.lineD_iff, GM.linesD_iff, D.tup.injEq, D.ref.injEq, D.int.injEq, D.str.injEq, D.bl.injEq, D.vl.injEq, Int.natCast_inj, and_assoc] at e; (repeat (obtain ⟨e1, e⟩ := e; subst e1)); subst e; exact h))
local macro_rules | `(tactic| walk_at "injs") => `(tactic| (rename_i e o h; rcases o with o | o <;> (subst o; first | (exfalso; simp only [D.tup.injEq, List.cons.injEq, reduceCtorEq, false_and, and_false] at e; done) | (simp only [List.cons.injEq, and_true, true_and, GM.ratD_iff, GM.partD_iff, GM.partsD_iff, GM.lineD_iff, GM.linesD_iff, D.tup.injEq, D.ref.injEq, D.int.injEq, D.str.injEq, D.bl.injEq, D.vl.injEq, Int.natCast_inj, and_assoc] at e; (repeat (obtain ⟨e1, e⟩ := e; subst e1)); subst e; exact h))))
noncomputable abbrev sBeh52_b (x y : D) (M : Mem) (R : DK) (Y : DXK) : Prop := ∃ m k : Z4, x = fourI m ∧ y = fourI k ∧ (Bz 800 m ∧ Bz 800 k) ∧ R (fourI (mulM k m)) M
noncomputable def sBeh52 : DSp := fun ds M R Y => ∃ (x y : D), ds = [x, y] ∧ sBeh52_b x y M R Y
theorem z_sBeh52 {x y : D} {M : Mem} {R : DK} {Y : DXK} : sBeh52 [x, y] M R Y = (sBeh52_b x y M R Y) := propext ⟨fun z => by obtain ⟨_, _, _, _⟩ := z; walk_at "inj", fun h => ⟨x, y, rfl, h⟩⟩
noncomputable abbrev sShort_b (n : Int) (M : Mem) (R : DK) (Y : DXK) : Prop := (n = 7 ∨ n = 8) ∧ ∀ (p : Addr) (zs : List ZN), M p = none → ShOk zs → R (.ref p) (updM M p (.dic (thT, none) (zs.map zE)))
noncomputable def sShort : DSp := fun ds M R Y => ∃ (n : Int), ds = [.int n] ∧ sShort_b n M R Y
theorem z_sShort {n : Int} {M : Mem} {R : DK} {Y : DXK} : sShort [.int n] M R Y = (sShort_b n M R Y) := propext ⟨fun z => by obtain ⟨_, _, _⟩ := z; walk_at "inj", fun h => ⟨n, rfl, h⟩⟩
end GM


namespace K52
open PySem PySem.Spec L2 DL GM
open RM (sz)
open PyProof.Rows hiding St
local macro_rules | `(tactic| walk_at "sim") => `(tactic| (try simp only [↓DL.z_C, ↓DL.z_Op, ↓DL.z_Un, ↓DL.z_fI, ↓DL.z_fB, ↓DL.z_fS, ↓DL.z_gI, ↓DL.z_gU, ↓DL.z_Test, ↓DL.z_BlK, ↓DL.z_And, ↓DL.z_Or, ↓DL.z_If, ↓DL.z_IfS, ↓DL.z_Nil, ↓DL.z_Cons, ↓DL.z_Tup, ↓DL.z_Lst, ↓DL.z_Call, ↓DL.z_CB, ↓DL.z_Next, ↓DL.z_Seq, ↓DL.z_Drop, ↓DL.z_Ret, ↓DL.z_Never, ↓DL.z_gName, ↓DL.z_gNil, ↓DL.z_gCons, ↓DL.z_gTup, ↓DL.z_gTupLs, ↓DL.z_Asg, ↓DL.z_Par, ↓DL.z_ParK, ↓DL.z_Abs, ↓DL.z_Max, ↓DL.z_IntB, ↓DL.z_IfT, ↓DL.z_IfF, ↓DL.z_IfK, ↓DL.z_LstV, ↓DL.z_CatV, ↓DL.z_SlV, ↓DL.z_NoPart, ↓DL.z_Part, ↓DL.z_PartK, ↓DL.z_gTupVl, ↓DL.z_gCatVl, ↓DL.z_gSlVl, ↓DL.z_RevL, ↓DL.z_gRevVl, ↓DL.z_gSub, ↓DL.z_gSlVt, ↓DL.z_Frz, ↓DL.z_Fgt, ↓DL.z_CompV, ↓DL.z_Yes, ↓DL.z_diSeq, ↓DL.z_SeqT, ↓DL.z_SeqV, ↓DL.z_diEnum, ↓DL.z_EnumT, ↓DL.z_EnumV, ↓DL.z_diRng, ↓DL.z_RngK, ↓DL.z_diRng2, ↓DL.z_Rng2K, ↓DL.z_For, ↓DL.z_AugK, ↓DL.z_EqC, ↓DL.z_LenV, ↓DL.z_LenT, ↓DL.z_LM, ↓DL.z_AnyV, ↓DL.z_SumV, ↓DL.z_v0, ↓DL.z_v1, ↓DL.z_v2, ↓DL.z_v3, ↓DL.z_v4, ↓DL.z_v5, ↓DL.z_v6, ↓DL.z_v7, ↓DL.z_v8, ↓DL.z_v9, ↓DL.z_v10, ↓DL.z_s0, ↓DL.z_s1, ↓DL.z_s2, ↓DL.z_s3, ↓DL.z_s4, ↓DL.z_s5, ↓DL.z_s6, ↓DL.z_s7, ↓DL.z_s8, ↓DL.z_s9, ↓DL.z_s10, ↓DL.z_a0, ↓DL.z_a1, ↓DL.z_a2, ↓DL.z_a3, ↓DL.z_a4, ↓DL.z_a5, ↓DL.z_a6, ↓DL.z_a7, ↓DL.z_a8, ↓DL.z_a9, ↓DL.z_a10, ↓DL.z_ixT0, ↓DL.z_ixT1, ↓DL.z_ixT2, ↓DL.z_ixT3, ↓DL.z_ixT4, ↓DL.z_ixT5, ↓DL.z_ixT6, ↓DL.z_ixT7, ↓DL.z_ixV0, ↓DL.z_ixV1, ↓DL.z_ixV2, ↓DL.z_ixV3, ↓DL.z_ixV4, ↓DL.z_ixV5, ↓DL.z_ixV6, ↓DL.z_ixV7, ↓DL.z_sz0, ↓DL.z_sz1, ↓DL.z_sz2, ↓DL.z_sz3, ↓DL.z_sz4, ↓DL.z_sz5, ↓DL.z_sz6, ↓DL.z_sz7, ↓DL.z_sz8, ↓DL.z_sz9, ↓GM.z_partL, ↓GM.z_rat0, ↓GM.z_rat1, ↓GM.z_ratG, ↓GM.z_ratL, ↓GM.z_part0, ↓GM.z_part1, ↓GM.z_partG, ↓GM.z_lineG, ↓GM.z_line0, ↓GM.z_line1, ↓GM.z_line2, ↓GM.z_sAbout, ↓GM.z_sAnew, ↓GM.z_sBeh52, ↓GM.z_sFew, ↓GM.z_sGbh, ↓GM.z_sJnd, ↓GM.z_sLed53, ↓GM.z_sRefB, ↓GM.z_sRuns, ↓GM.z_sShort, ↓GM.z_sTold, ↓GM.z_sWhE, ↓GM.z_spNext, ↓GM.z_spPool, ↓GM.sAbout_b, ↓GM.sAnew_b, ↓GM.sBeh52_b, ↓GM.sFew50_b, ↓GM.sFew_b, ↓GM.sGbh_b, ↓GM.sJnd50_b, ↓GM.sJnd_b, ↓GM.sLed53_b, ↓GM.sRefB_b, ↓GM.sRuns_b, ↓GM.sShort_b, ↓GM.sTold_b, ↓GM.sWhE_b, GM.z_partL, GM.z_rat0, GM.z_rat1, GM.z_ratG, GM.z_ratL, GM.z_part0, GM.z_part1, GM.z_partG, GM.z_lineG, GM.z_line0, GM.z_line1, GM.z_line2, GM.z_sAbout, GM.z_sAnew, GM.z_sBeh52, GM.z_sFew, GM.z_sGbh, GM.z_sJnd, GM.z_sLed53, GM.z_sRefB, GM.z_sRuns, GM.z_sShort, GM.z_sTold, GM.z_sWhE, GM.z_spNext, GM.z_spPool, GM.sAbout_b, GM.sAnew_b, GM.sBeh52_b, GM.sFew50_b, GM.sFew_b, GM.sGbh_b, GM.sJnd50_b, GM.sJnd_b, GM.sLed53_b, GM.sRefB_b, GM.sRuns_b, GM.sShort_b, GM.sTold_b, GM.sWhE_b, DL.z_C, DL.z_Op, DL.z_Un, DL.z_fI, DL.z_fB, DL.z_fS, DL.z_gI, DL.z_gU, DL.z_Test, DL.z_BlK, DL.z_And, DL.z_Or, DL.z_If, DL.z_IfS, DL.z_Nil, DL.z_Cons, DL.z_Tup, DL.z_Lst, DL.z_Call, DL.z_CB, DL.z_Next, DL.z_Seq, DL.z_Drop, DL.z_Ret, DL.z_Never, DL.z_gName, DL.z_gNil, DL.z_gCons, DL.z_gTup, DL.z_gTupLs, DL.z_Asg, DL.z_Par, DL.z_ParK, DL.z_Abs, DL.z_Max, DL.z_IntB, DL.z_IfT, DL.z_IfF, DL.z_IfK, DL.z_LstV, DL.z_CatV, DL.z_SlV, DL.z_NoPart, DL.z_Part, DL.z_PartK, DL.z_gTupVl, DL.z_gCatVl, DL.z_gSlVl, DL.z_RevL, DL.z_gRevVl, DL.z_gSub, DL.z_gSlVt, DL.z_Frz, DL.z_Fgt, DL.z_CompV, DL.z_Yes, DL.z_diSeq, DL.z_SeqT, DL.z_SeqV, DL.z_diEnum, DL.z_EnumT, DL.z_EnumV, DL.z_diRng, DL.z_RngK, DL.z_diRng2, DL.z_Rng2K, DL.z_For, DL.z_AugK, DL.z_EqC, DL.z_LenV, DL.z_LenT, DL.z_LM, DL.z_AnyV, DL.z_SumV, DL.z_v0, DL.z_v1, DL.z_v2, DL.z_v3, DL.z_v4, DL.z_v5, DL.z_v6, DL.z_v7, DL.z_v8, DL.z_v9, DL.z_v10, DL.z_s0, DL.z_s1, DL.z_s2, DL.z_s3, DL.z_s4, DL.z_s5, DL.z_s6, DL.z_s7, DL.z_s8, DL.z_s9, DL.z_s10, DL.z_a0, DL.z_a1, DL.z_a2, DL.z_a3, DL.z_a4, DL.z_a5, DL.z_a6, DL.z_a7, DL.z_a8, DL.z_a9, DL.z_a10, DL.z_ixT0, DL.z_ixT1, DL.z_ixT2, DL.z_ixT3, DL.z_ixT4, DL.z_ixT5, DL.z_ixT6, DL.z_ixT7, DL.z_ixV0, DL.z_ixV1, DL.z_ixV2, DL.z_ixV3, DL.z_ixV4, DL.z_ixV5, DL.z_ixV6, DL.z_ixV7, DL.z_sz0, DL.z_sz1, DL.z_sz2, DL.z_sz3, DL.z_sz4, DL.z_sz5, DL.z_sz6, DL.z_sz7, DL.z_sz8, DL.z_sz9, DL.z_clI60, DL.z_clN60, DL.z_clT60, DL.z_clV60, DL.z_clI59, DL.z_clN59, DL.z_clT59, DL.z_clV59, DL.z_clI58, DL.z_clN58, DL.z_clT58, DL.z_clV58, DL.z_clI57, DL.z_clN57, DL.z_clT57, DL.z_clV57, DL.z_clI56, DL.z_clN56, DL.z_clT56, DL.z_clV56, DL.z_clI55, DL.z_clN55, DL.z_clT55, DL.z_clV55, DL.z_cln59, DL.z_clc59, DL.z_cln58, DL.z_clc58, DL.z_cln57, DL.z_clc57, DL.z_cln56, DL.z_clc56, DL.z_cln55, DL.z_clc55, DL.z_cln54, DL.z_clc54, GM.z_clR60, GM.z_clR59, GM.z_clR58, GM.z_clR57, DL.z_szk1, DL.z_szk2, DL.z_szk3, DL.z_szk4, DL.z_szk5, DL.z_szk6, DL.z_szk7, DL.z_szk8, DL.z_szk9, DL.z_szk10, DL.z_szk11, DL.z_szk12, Nat.reduceAdd, Nat.reduceLT, Nat.reduceLeDiff, Nat.zero_add, Int.reduceLT, Int.reduceLE, Int.reduceEq, eq_self, decide_true, decide_false, D.int.injEq, D.str.injEq, beq_self_eq_true, and_self, true_and, and_true, not_true_eq_false, not_false_eq_true, false_implies, true_implies, forall_const, dstart, List.map_cons, List.map_nil, List.cons_append, List.nil_append, List.append_nil, List.length_cons, List.length_nil, List.replicate, capE, List.getElem?_cons_zero, List.getElem?_cons_succ, Option.getD_some, decide_eq_true_eq, decide_eq_false_iff_not, Bool.not_eq_true', Bool.not_eq_false', Bool.and_self, Bool.true_and, Bool.and_true, Bool.xor_false, Bool.false_xor, Bool.true_xor, Bool.not_true, Bool.not_false, Bool.false_eq_true, Bool.true_eq_false, reduceIte, GM.r0, GM.r1, GM.r2, GM.r4, GM.rm1, GM.rm2, GM.ratD_iff, GM.r_line, GM.r_abs, GM.r_neg, GM.r_self]))
local macro_rules | `(tactic| walk_at "len") => `(tactic| (intro ds M R Y h; repeat (first | exact congrArg List.length h.1 | (obtain ⟨_, h⟩ := h))))
local macro_rules | `(tactic| walk_at "size") => `(tactic| first | omega | grind only [RM.sz_mul, RM.sz_add, RM.sz_sub, RM.sz_neg, RM.sz_one, RM.sz_zero, GM.sz_abs])
local macro_rules | `(tactic| walk_at "sc") => `(tactic| exact ⟨rfl, rfl, rfl, by decide +kernel, rfl, by decide +kernel, by decide +kernel⟩)
noncomputable def top (i : Nat) : Stmt := PySem.Challenge.pw_roundglass_k52_whole_all_short_rows.main.body.getD i (.Pass ⟨0, 0, 0, 0⟩)
noncomputable abbrev s_joined : Stmt := top 14
noncomputable abbrev s_refuse_beyond : Stmt := top 10
noncomputable abbrev s_about : Stmt := top 13
noncomputable abbrev s_begun_anew : Stmt := top 12
noncomputable abbrev s_whole_entries : Stmt := top 9
noncomputable abbrev s_gaps_between_halves : Stmt := top 11
noncomputable abbrev s_fewest : Stmt := top 15
noncomputable abbrev s__law_told : Stmt := top 20
noncomputable abbrev s__law_behind : Stmt := top 23
noncomputable abbrev s__law_led : Stmt := top 19
noncomputable abbrev s__law_next : Stmt := top 18
noncomputable abbrev s__law_runs : Stmt := top 21
noncomputable abbrev s__law_pool : Stmt := top 17
noncomputable abbrev s__law_short : Stmt := top 24
noncomputable abbrev s_law : Stmt := top 25
theorem sc_joined : FnScope ["runs", "told", "word", "often"] ["runs"] (defScope s_joined) := by walk_at "sc"
theorem sc_refuse_beyond : FnScope ["count"] ["count"] (defScope s_refuse_beyond) := by walk_at "sc"
theorem sc_about : FnScope ["runs"] ["runs"] (defScope s_about) := by walk_at "sc"
theorem sc_begun_anew : FnScope ["runs", "rest"] ["runs"] (defScope s_begun_anew) := by walk_at "sc"
theorem sc_whole_entries : FnScope ["table"] ["table"] (defScope s_whole_entries) := by walk_at "sc"
theorem sc_gaps_between_halves : FnScope ["table", "d", "b", "c", "a", "gaps", "inner", "often"] ["table"] (defScope s_gaps_between_halves) := by walk_at "sc"
theorem sc_fewest : FnScope ["table", "runs", "sign", "halves", "first", "count", "row"] ["table"] (defScope s_fewest) := by walk_at "sc"
theorem sc__law_told : FnScope ["entries"] ["entries"] (defScope s__law_told) := by walk_at "sc"
theorem sc__law_behind : FnScope ["one", "other", "a", "b", "c", "d", "e", "f", "g", "h"] ["one", "other"] (defScope s__law_behind) := by walk_at "sc"
theorem sc__law_led : FnScope ["runs", "sign", "a", "b", "c", "d", "word", "count", "step"] ["runs", "sign"] (defScope s__law_led) := by walk_at "sc"
theorem sc__law_next : FnScope ["pool", "base", "digit", "near", "stir"] ["pool", "base"] (defScope s__law_next) := by walk_at "sc"
theorem sc__law_runs : FnScope ["pool", "limit", "word", "found", "k", "some", "count"] ["pool", "limit"] (defScope s__law_runs) := by walk_at "sc"
theorem sc__law_pool : FnScope ["cell"] ["cell"] (defScope s__law_pool) := by walk_at "sc"
theorem sc__law_short : FnScope ["longest", "found", "last", "count", "more", "one", "part", "table"] ["longest"] (defScope s__law_short) := by walk_at "sc"
theorem sc_law : FnScope ["script", "short", "table", "some", "cell", "pool", "row", "first", "both", "left"] ["script"] (defScope s_law) := by walk_at "sc"
structure Txt (K : PySem.W.Frag) (mg : Str → Option Value) : Prop where
  b_abs : mg "abs" = none
  b_any : mg "any" = none
  b_enumerate : mg "enumerate" = none
  b_int : mg "int" = none
  b_len : mg "len" = none
  b_list : mg "list" = none
  b_max : mg "max" = none
  b_range : mg "range" = none
  b_reversed : mg "reversed" = none
  b_sorted : mg "sorted" = none
  b_sum : mg "sum" = none
  b_tuple : mg "tuple" = none
  c_HALF : GlD K mg "HALF" (.tup [(.tup [(.str "gap"), (.int 1)]), (.tup [(.str "glass"), (.int 1)]), (.tup [(.str "gap"), (.int 1)])])
  c_HALVES_TO_SELF : GlD K mg "HALVES_TO_SELF" (.int 4)
  c_MOST_COUNT : GlD K mg "MOST_COUNT" (.int 4000)
  c_WORDS : GlD K mg "WORDS" (.tup [(.str "gap"), (.str "glass")])
section
variable {P : Program} {w : World} {K : PySem.W.Frag} {mg : Str → Option Value} {base : Heap}
theorem ok_joined (T : Txt K mg) (d : Df K mg "joined" s_joined ["runs"])  : Fn P w K mg base "joined" 1 ["runs"] sJnd := by
  have sc := sc_joined
  refine fn_by d sc (by walk_at "len") (fun f cdv A outer s H E ds M R Y hr h => ?_)
  have hu := hr.units
  obtain ⟨x, rfl, rs, rfl, ⟨hl, hw⟩, k⟩ := h
  refine ⟨_, (jds_cons (jst 1 sc.nd (jd_lst jda_nil)) (jds_cons (jds_forI PassesOwn.never rfl (jpd_seq (jd_var 0)) (jdg_tup (n := 2) rfl (jdgs_cons (jn 2 sc.nd) (jdgs_cons (jn 3 sc.nd) jdgs_nil))) (jds_one (jds_if (jd_tw (jd_and (jtm o_gt (jd_blt c_len rfl T.b_len bt_len (jda_cons (jd_var 1) jda_nil)) jd_int) (jd_and1 (jtm (o_eqC hu) (jx (jx (jd_var 1) (jd_neg jd_int)) jd_int) (jd_var 2))))) (jds_one (jds_asg (jd_tup (jda_cons (jd_var 2) (jda_cons (jd_op o_add (jx (jx (jd_var 1) (jd_neg jd_int)) jd_int) (jd_var 3)) jda_nil))) (jdg_sub (jd_var 1) (jd_neg jd_int)))) (jds_one (jds_expr (jd_lm PySem.F.slot_list_append PySem.F.type_list_append dm_append (jd_var 1) (jda_cons (jd_tup (jda_cons (jd_var 2) (jda_cons (jd_var 3) jda_nil))) jda_nil))))))) (jds_one (jds_ret (jd_fgt (jd_frz (jd_var 1))))))), ?_⟩
  walk_at "sim"
  refine fun p hp => ForK.by (fun i e M' => ∃ z2 z3 : Option D, e = [some (D.vl (List.map ruD rs)), some (D.ref p), z2, z3] ∧ M' = updM M p (.lst ((joinR (rs.take i)).map ruD))) ⟨_, _, rfl, rfl⟩ (fun _ _ _ _ _ => by simp only [seqD_vl]) ?_ ?_
  · rintro i dd e M' hd ⟨z2, z3, rfl, rfl⟩
    rw [List.getElem?_map] at hd
    cases hx : rs[i]? with
    | none => rw [hx] at hd; cases hd
    | some y =>
      rw [hx] at hd
      obtain rfl : ruD y = dd := Option.some.inj hd
      have hy := hw y (List.mem_of_getElem? hx)
      have jt := jn_take hx
      have jw := jn_words (rs.take i) [] (fun _ z => by cases z) fun x hx => hw x (List.mem_of_mem_take hx)
      have jw : ∀ x ∈ joinR (rs.take i), x.1 = "gap" ∨ x.1 = "glass" := jw
      have jl := jn_len (rs.take i) []
      have jl : (joinR (rs.take i)).length ≤ 0 + (rs.take i).length := jl
      rw [List.length_take] at jl
      obtain ⟨w, c⟩ := y
      have er : ruD (w, c) = .tup [.str w, .int (c : Int)] := rfl
      rw [er, jt]
      generalize joinR (rs.take i) = acc at *
      walk_at "sim"
      rw [z_Len (lenD_lst updM_same)]
      walk_at "sim"
      rw [List.length_map]
      have cw : PyData.canLay0 (.str w) = true := by
        rcases hy with e | e
        · have e : w = _ := e; rw [e]; decide +kernel
        · have e : w = _ := e; rw [e]; decide +kernel
      refine ⟨fun hlt => ?_, fun hge => ?_⟩
      · obtain ⟨v, hv⟩ : ∃ v, acc.getLast? = some v := by
          cases e : acc.getLast? with
          | some v => exact ⟨v, rfl⟩
          | none => rw [List.getLast?_eq_none_iff.mp e] at hlt; exact absurd hlt (by decide)
        have ea := snoc_of hv
        obtain ⟨w2, n2⟩ := v
        have ix : ∀ Q : DK, Q (D.tup [.str w2, .int (n2 : Int)]) (updM M p (MO.lst (List.map ruD acc))) → gIx (D.ref p) (D.int (-1)) (updM M p (MO.lst (List.map ruD acc))) Q := fun Q hQ => by
          refine ⟨_, ixD_lst updM_same (by rw [ea, List.map_append]; exact atI_last), hQ⟩
        refine ix _ ?_
        walk_at "sim"
        have c2 : PyData.canLay0 (.str w2) = true := by
          rcases jw (w2, n2) (by rw [ea]; exact List.mem_append_right _ List.mem_cons_self) with e | e
          · have e : w2 = _ := e; rw [e]; decide +kernel
          · have e : w2 = _ := e; rw [e]; decide +kernel
        refine ⟨c2, cw, fun he => ix _ ?_, fun hne => ?_⟩
        · have ej : jnS acc (w, c) = acc.dropLast ++ [(w, n2 + c)] := by unfold jnS; rw [hv]; exact if_pos he
          rw [ej]
          walk_at "sim"
          have em : List.map ruD acc = acc.dropLast.map ruD ++ [ruD (w2, n2)] := by
            rw [show [ruD (w2, n2)] = [(w2, n2)].map ruD from rfl, ← List.map_append, ← ea]
          refine SetL_last (x := ruD (w2, n2)) (xs := acc.dropLast.map ruD) (by rw [updM_same, em]) ⟨_, _, rfl, ?_⟩
          rw [updM_upd, List.map_append]; rfl
        · have ej : jnS acc (w, c) = acc ++ [(w, c)] := by unfold jnS; rw [hv]; exact if_neg hne
          rw [ej]
          refine LMK_of updM_same (App_ofL updM_same (by rw [List.length_map]; omega) ⟨_, _, rfl, ?_⟩)
          rw [updM_upd, List.map_append]; rfl
      · have ea : acc = [] := by
          cases acc with
          | nil => rfl
          | cons a r => exact absurd (show (0 : Int) < ((a :: r).length : Int) by rw [List.length_cons]; omega) hge
        subst ea
        exact LMK_of updM_same (App_ofL updM_same (by decide) ⟨_, _, rfl, by rw [updM_upd]; rfl⟩)
  · rintro e M' ⟨z2, z3, rfl, rfl⟩
    rw [List.length_map, List.take_length]
    walk_at "sim"
    exact Frz_of hp (Fgt_of (M2 := M) (fun _ _ h => h) k)
theorem ok_refuse_beyond (T : Txt K mg) (d : Df K mg "refuse_beyond" s_refuse_beyond ["count"])  : Fn P w K mg base "refuse_beyond" 1 ["count"] sRefB := by
  have sc := sc_refuse_beyond
  refine fn_by d sc (by walk_at "len") (fun f cdv A outer s H E ds M R Y hr h => ?_)
  have hu := hr.units
  obtain ⟨n, rfl, hn, k⟩ := h
  refine ⟨_, (jds_one (jds_if (jtm o_gt (jd_var 0) (jd_globD rfl T.c_MOST_COUNT)) (jds_one jds_never) jds_nil)), ?_⟩
  walk_at "sim"
  exact ⟨fun z => by omega, fun _ => k⟩
theorem ok_about (T : Txt K mg) (d : Df K mg "about" s_about ["runs"])  : Fn P w K mg base "about" 1 ["runs"] sAbout := by
  have sc := sc_about
  refine fn_by d sc (by walk_at "len") (fun f cdv A outer s H E ds M R Y hr h => ?_)
  have hu := hr.units
  obtain ⟨x, rfl, xs, rfl, k⟩ := h
  refine ⟨_, (jds_one (jds_ret (jd_listRev rfl rfl T.b_list bt_list rfl T.b_reversed bt_reversed (jd_var 0)))), ?_⟩
  walk_at "sim"
  exact k
theorem ok_begun_anew (T : Txt K mg) (d : Df K mg "begun_anew" s_begun_anew ["runs"])  : Fn P w K mg base "begun_anew" 1 ["runs"] sAnew := by
  have sc := sc_begun_anew
  refine fn_by d sc (by walk_at "len") (fun f cdv A outer s H E ds M R Y hr h => ?_)
  have hu := hr.units
  obtain ⟨x, rfl, r, rest, rfl, ⟨hr, hs, hl⟩, k⟩ := h
  refine ⟨_, (jds_cons (jds_if (jtm o_eqI (jx (jd_var 0) jd_int) jd_int) (jds_one (jds_ret (jd_fgt (jd_sliceV (jd_var 0) (jdpo_some jd_int) jdpo_none)))) jds_nil) (jds_cons (jst 1 sc.nd (jd_ifExp (jtm o_gt (jd_blt c_len rfl T.b_len bt_len (jda_cons (jd_var 0) jda_nil)) jd_int) (jd_sliceV (jd_var 0) (jdpo_some jd_int) jdpo_none) (jd_lstV (jda_cons jd_int jda_nil)))) (jds_one (jds_ret (jd_fgt (jd_catV (jd_catV (jd_catV (jd_lstV (jda_cons jd_int jda_nil)) (jd_frz (jd_op o_rep (jd_lst (jda_cons jd_int jda_nil)) (jd_op o_sub (jd_neg (jx (jd_var 0) jd_int)) jd_int)))) (jd_lstV (jda_cons (jd_op o_add (jx (jd_var 1) jd_int) jd_int) jda_nil))) (jd_sliceV (jd_var 1) (jdpo_some jd_int) jdpo_none))))))), ?_⟩
  walk_at "sim"
  have hz : 300000 ≤ sizeLine := by decide
  have hrn : r.natAbs ≤ 100000 := by rw [sAb_cons] at hs; omega
  rw [cut_tl]
  refine ⟨fun e => Fgt_of (M2 := M) (fun _ _ h => h) (by rw [anew_cons, if_pos e] at k; exact k), fun hne => ?_⟩
  rw [anew_cons, if_neg hne] at k
  have en : (-r - 1).toNat = (-r - 1).toNat := rfl
  have rp : ∀ (p : Addr), M p = none → ∀ Q : DK, (∀ M2, (∀ c o, M c = some o → M2 c = some o) → Q (D.vl (List.replicate (-r - 1).toNat (D.int 2))) M2) → gRep (D.ref p) (D.int (-r - 1)) (updM M p (MO.lst [D.int 2])) fun x M1 => FrzK x M1 Q := by
    intro p hp Q hQ
    refine ⟨p, _, _, rfl, rfl, updM_same, by omega, by omega, by show 1 * _ ≤ _; omega, fun p2 hp2 => ?_⟩
    rw [flat_rep]
    refine Frz_of hp2 (hQ _ fun c o hc => ?_)
    rw [updM_ne (fun e => by rw [e, hp] at hc; cases hc)]; exact hc
  refine ⟨fun hlt p hp => rp p hp _ fun M2 hM2 => ?_, fun hge p hp => rp p hp _ fun M2 hM2 => ?_⟩
  · cases rest with
    | nil => exact absurd hlt (by decide)
    | cons x tl =>
      rw [List.headD_cons, List.tail_cons] at k
      rw [List.length_cons] at hl
      simp only [List.map_cons, cut_tl]
      walk_at "sim"
      simp only [List.length_cons, List.length_append, List.length_replicate, List.length_map, List.length_nil]
      refine ⟨by omega, by omega, by omega, Fgt_of hM2 ?_⟩
      simpa using k
  · cases rest with
    | cons x tl => exact absurd (show (1 : Int) < _ by rw [List.map_cons, List.length_cons]; omega) hge
    | nil =>
      rw [cut_tl]
      walk_at "sim"
      simp only [List.length_cons, List.length_append, List.length_replicate, List.length_nil]
      refine ⟨by omega, by omega, by omega, Fgt_of hM2 ?_⟩
      simpa using k
theorem ok_whole_entries (T : Txt K mg) (d : Df K mg "whole_entries" s_whole_entries ["table"])  : Fn P w K mg base "whole_entries" 1 ["table"] sWhE := by
  have sc := sc_whole_entries
  refine fn_by d sc (by walk_at "len") (fun f cdv A outer s H E ds M R Y hr h => ?_)
  have hu := hr.units
  obtain ⟨x, rfl, ⟨a, b, c, d⟩, hx, k⟩ := h
  have hx' : x = .tup [.tup [.int a, .int 1], .tup [.int b, .int 1], .tup [.int c, .int 1], .tup [.int d, .int 1]] := hx
  subst hx'
  refine ⟨_, (jds_cons (jds_if (jd_tval (jd_blt (c_any rfl) rfl T.b_any bt_any (jda_cons (jd_compV [] ["entry"] [] rfl (by decide +kernel) rfl (by decide +kernel) (by decide +kernel) rfl all0 all0 (jpd_seq (jd_var 0)) (fun _ _ _ _ _ _ => (jn 0 (show (["entry"] : List Str).Nodup by decide +kernel))) (fun _ _ _ _ _ _ => jdifs_nil) (fun _ _ _ _ _ _ => (jm o_neI (jx (jd_var 0) jd_int) jd_int))) jda_nil))) (jds_one jds_never) jds_nil) (jds_one (jds_ret (jd_compV [] ["entry"] [] rfl (by decide +kernel) rfl (by decide +kernel) (by decide +kernel) rfl all0 all0 (jpd_seq (jd_var 0)) (fun _ _ _ _ _ _ => (jn 0 (show (["entry"] : List Str).Nodup by decide +kernel))) (fun _ _ _ _ _ _ => jdifs_nil) (fun _ _ _ _ _ _ => (jx (jd_var 0) jd_int)))))), ?_⟩
  walk_at "sim"
  refine compV_map (xs := [a, b, c, d]) (enc := fun n => D.tup [.int n, .int 1]) (fun _ => .bl false) (by show 4 ≤ 1000; decide) (Or.inl rfl) (fun n hn Q hQ => ?_) ?_
  · walk_at "sim"
    exact hQ
  · show gAny [D.vl (([a, b, c, d].map fun _ => false).map D.bl)] M _
    rw [z_AnyV, show ([a, b, c, d].map fun _ => false).any id = false from rfl]
    walk_at "sim"
    refine compV_map (xs := [a, b, c, d]) (enc := fun n => D.tup [.int n, .int 1]) (fun n => .int n) (by show 4 ≤ 1000; decide) (Or.inl rfl) (fun n hn Q hQ => ?_) ?_
    · walk_at "sim"
      exact hQ
    · exact k
theorem ok_gaps_between_halves (T : Txt K mg) (d : Df K mg "gaps_between_halves" s_gaps_between_halves ["table"]) (G_refuse_beyond : Fn P w K mg base "refuse_beyond" 1 ["count"] sRefB) (G_whole_entries : Fn P w K mg base "whole_entries" 1 ["table"] sWhE) : Fn P w K mg base "gaps_between_halves" 2 ["table"] sGbh := by
  have sc := sc_gaps_between_halves
  refine fn_by d sc (by walk_at "len") (fun f cdv A outer s H E ds M R Y hr h => ?_)
  have hu := hr.units
  obtain ⟨x, rfl, m0, rfl, ⟨hd, hb, hs⟩, k⟩ := h
  refine ⟨_, (jds_cons (jds_asg (jc G_whole_entries hr (jda_cons (jd_var 0) jda_nil)) (jdg_tupL (n := 4) rfl (jdgs_cons (jn 1 sc.nd) (jdgs_cons (jn 2 sc.nd) (jdgs_cons (jn 3 sc.nd) (jdgs_cons (jn 4 sc.nd) jdgs_nil)))))) (jds_cons (jst 5 sc.nd (jd_lst jda_nil)) (jds_cons (jst 6 sc.nd jd_int) (jds_cons (jds_while PassesOwn.never (jtm o_neI (jd_var 3) jd_int) (jds_cons (jst 7 sc.nd (jd_neg (jd_op o_fdiv (jd_neg (jd_var 4)) (jd_var 3)))) (jds_cons (jds_if (jtm o_gt (jd_blt c_len rfl T.b_len bt_len (jda_cons (jd_var 5) jda_nil)) jd_int) (jds_one (jds_augI ip_add (i := 6) sc.nd rfl (Or.inl rfl) (jd_var 7))) jds_nil) (jds_cons (jds_expr (jc G_refuse_beyond hr (jda_cons (jd_var 6) jda_nil))) (jds_cons (jds_expr (jd_lm PySem.F.slot_list_append PySem.F.type_list_append dm_append (jd_var 5) (jda_cons (jd_var 7) jda_nil))) (jds_one (jds_asg (jd_tup (jda_cons (jd_neg (jd_var 3)) (jda_cons (jd_neg (jd_var 1)) (jda_cons (jd_op o_sub (jd_var 4) (jd_op o_mul (jd_var 7) (jd_var 3))) (jda_cons (jd_op o_sub (jd_var 2) (jd_op o_mul (jd_var 7) (jd_var 1))) jda_nil))))) (jdg_tup (n := 4) rfl (jdgs_cons (jn 4 sc.nd) (jdgs_cons (jn 2 sc.nd) (jdgs_cons (jn 3 sc.nd) (jdgs_cons (jn 1 sc.nd) jdgs_nil)))))))))))) (jds_cons (jds_expr (jd_lm PySem.F.slot_list_append PySem.F.type_list_append dm_append (jd_var 5) (jda_cons (jd_op o_mul (jd_var 2) (jd_var 1)) jda_nil))) (jds_one (jds_ret (jd_fgt (jd_tup (jda_cons (jd_frz (jd_var 5)) (jda_cons (jd_var 1) jda_nil))))))))))), ?_⟩
  walk_at "sim"
  refine ⟨m0, rfl, fun l hN => ?_⟩
  refine WhileBy (fun m e M' => ∃ (i q : Nat) (t : Z4) (z7 : Option D), m = t.2.2.1.natAbs ∧ e = [some (tabI m0), some (D.int t.1), some (D.int t.2.1), some (D.int t.2.2.1), some (D.int t.2.2.2), some (D.ref l), some (D.int ((gsT m0).take i).tail.sum), z7] ∧ M' = updM M l (.lst (((gsT m0).take i).map D.int)) ∧ (gsT m0).drop i = gOf q t ∧ sgT m0 = sgOf q t ∧ t.2.2.1.natAbs ≤ q ∧ detM t = 1 ∧ Bz 2000 t) m0.2.2.1.natAbs ⟨0, m0.2.2.1.natAbs, m0, none, rfl, rfl, rfl, rfl, rfl, Nat.le_refl _, hd, hb⟩ ?_
  rintro m e M' ⟨i, q, t, z7, rfl, rfl, rfl, h1, h2, h3, h4, h5⟩
  walk_at "sim"
  have lg : t.2.2.1.natAbs.log2 < 9000 := Nat.lt_of_lt_of_le (log_lt h5.2.2.1 (by decide)) (by decide)
  refine ⟨fun hne => ⟨⟨hne, lg⟩, ?_⟩, fun e0 => ?_⟩
  · obtain ⟨q, rfl⟩ : ∃ q', q = q' + 1 := ⟨q - 1, by omega⟩
    rw [gOf, if_neg hne] at h1
    rw [sgOf, if_neg hne] at h2
    have eo : -(-t.2.2.2).fdiv t.2.2.1 = oftT t := rfl
    have il : i < (gsT m0).length := by
      apply Nat.not_le.mp
      intro z
      rw [List.drop_eq_nil_of_le z] at h1
      cases h1
    have gi : (gsT m0)[i]? = some (oftT t) := by
      have := congrArg (fun l => l[0]?) h1
      rw [List.getElem?_drop] at this
      exact this
    have tk : (gsT m0).take (i + 1) = (gsT m0).take i ++ [oftT t] := by rw [List.take_add_one, gi]; rfl
    have dr : (gsT m0).drop (i + 1) = gOf q (stpT t) := by
      have := congrArg List.tail h1
      rw [List.tail_drop] at this
      exact this
    have le4 : ((gsT m0).take (i + 1)).tail.sum ≤ 4000 := by
      have a1 := sum_sAb ((gsT m0).take (i + 1)).tail
      have a2 := sAb_tail ((gsT m0).take (i + 1))
      have a3 := sAb_take (gsT m0) (i + 1)
      omega
    have ll : (gsT m0).length ≤ 4002 := by have := len_sAb (gsT_inn m0); omega
    obtain ⟨s1, s2⟩ := stp_st hne
    have os := oft_small h5 hne
    have mo : ∀ y : Int, y.natAbs < 2 ^ 2000 → IntMulOk (oftT t) y := fun y hy => mulOk 2001 2000 os hy (by decide)
    rw [z_Len (lenD_lst updM_same), eo]
    walk_at "sim"
    have fin : ∀ n : Int, n = ((gsT m0).take (i + 1)).tail.sum → n ≤ 4000 ∧ LMK (D.ref l) (updM M l (MO.lst (List.map D.int (List.take i (gsT m0))))) (gAppend (D.ref l) [D.int (oftT t)] (updM M l (MO.lst (List.map D.int (List.take i (gsT m0))))) fun x M1 => IntMulOk (oftT t) t.2.2.1 ∧ IntMulOk (oftT t) t.1 ∧ ∃ m', m' < t.2.2.1.natAbs ∧ ∃ (i_1 q : Nat) (t_1 : Z4) (z7 : Option D), m' = t_1.2.2.1.natAbs ∧ [some (tabI m0), some (D.int (t.2.1 - oftT t * t.1)), some (D.int (-t.1)), some (D.int (t.2.2.2 - oftT t * t.2.2.1)), some (D.int (-t.2.2.1)), some (D.ref l), some (D.int n), some (D.int (oftT t))] = [some (tabI m0), some (D.int t_1.1), some (D.int t_1.2.1), some (D.int t_1.2.2.1), some (D.int t_1.2.2.2), some (D.ref l), some (D.int ((gsT m0).take i_1).tail.sum), z7] ∧ M1 = updM M l (MO.lst (List.map D.int (List.take i_1 (gsT m0)))) ∧ List.drop i_1 (gsT m0) = gOf q t_1 ∧ sgT m0 = sgOf q t_1 ∧ t_1.2.2.1.natAbs ≤ q ∧ detM t_1 = 1 ∧ Bz 2000 t_1) := by
      intro n en
      refine ⟨by omega, LMK_of updM_same (App_ofL updM_same (by rw [List.length_map, List.length_take]; omega) ⟨mo _ h5.2.2.1, mo _ h5.1, _, s2, i + 1, q, stpT t, _, rfl, by rw [en]; rfl, by rw [updM_upd, tk, List.map_append]; rfl, dr, h2, by omega, by rw [stp_det]; exact h4, stp_bz (by decide) h4 h5 hne⟩)⟩
    rw [List.length_map]
    refine ⟨fun hlt => fin _ ?_, fun hge => fin _ ?_⟩
    · rw [tk]
      cases e : (gsT m0).take i with
      | nil => rw [e] at hlt; exact absurd hlt (by decide)
      | cons a r => rw [List.cons_append, List.tail_cons, List.tail_cons, List.sum_append]; simp
    · rw [tk]
      cases e : (gsT m0).take i with
      | nil => rfl
      | cons a r => rw [e] at hge; exact absurd (show (0 : Int) < ((a :: r).length : Int) by rw [List.length_cons]; omega) hge
  · obtain ⟨g1, g2⟩ := gOf_nil (k := q) e0
    rw [g1] at h1
    rw [g2] at h2
    have ll : (gsT m0).length ≤ 4002 := by have := len_sAb (gsT_inn m0); omega
    have eg : (gsT m0).take i ++ [t.2.1 * t.1] = gsT m0 := by rw [← h1, List.take_append_drop]
    refine LMK_of updM_same ⟨mulOk 2000 2000 h5.2.1 h5.1 (by decide), App_ofL updM_same (by rw [List.length_map, List.length_take]; omega) ?_⟩
    rw [updM_upd]
    refine Frz_of hN (Fgt_of (M2 := M) (fun _ _ h => h) ?_)
    have e2 : List.map D.int ((gsT m0).take i) ++ [D.int (t.2.1 * t.1)] = List.map D.int (gsT m0) := by
      conv => rhs; rw [← eg]
      rw [List.map_append]; rfl
    rw [e2, ← h2]
    exact k
theorem ok_fewest (T : Txt K mg) (d : Df K mg "fewest" s_fewest ["table"]) (G_joined : Fn P w K mg base "joined" 1 ["runs"] sJnd) (G_refuse_beyond : Fn P w K mg base "refuse_beyond" 1 ["count"] sRefB) (G_about : Fn P w K mg base "about" 1 ["runs"] sAbout) (G_begun_anew : Fn P w K mg base "begun_anew" 1 ["runs"] sAnew) (G_gaps_between_halves : Fn P w K mg base "gaps_between_halves" 2 ["table"] sGbh) : Fn P w K mg base "fewest" 3 ["table"] sFew := by
  have sc := sc_fewest
  refine fn_by d sc (by walk_at "len") (fun f cdv A outer s H E ds M R Y hr h => ?_)
  have hu := hr.units
  obtain ⟨x, rfl, m0, n, rfl, ⟨hc, hn, hb⟩, k⟩ := h
  have hdt := hc.det
  obtain ⟨hsg, hm⟩ := gOf_eq m0.2.2.1.natAbs hdt (Nat.le_refl _)
  have hsg : sgT m0 = 1 ∨ sgT m0 = -1 := hsg
  have hm : m0 = mulM (hpZ (((gsT m0).length : Int) - sgT m0)) (arM true (gsT m0)) := hm
  have hi := gsT_inn m0
  have hs : sAb (gsT m0) ≤ n + 1 := gaps_le hi (by rw [← hm]; exact hc)
  refine ⟨_, (jds_cons (jds_asg (jc G_gaps_between_halves hr (jda_cons (jd_var 0) jda_nil)) (jdg_tup (n := 2) rfl (jdgs_cons (jn 1 sc.nd) (jdgs_cons (jn 2 sc.nd) jdgs_nil)))) (jds_cons (jds_expr (jc G_refuse_beyond hr (jda_cons (jd_blt (c_max rfl) rfl T.b_max bt_max (jda_cons (jd_blt c_abs rfl T.b_abs bt_abs (jda_cons (jx (jd_var 1) jd_int) jda_nil)) (jda_cons (jd_blt c_abs rfl T.b_abs bt_abs (jda_cons (jx (jd_var 1) (jd_neg jd_int)) jda_nil)) jda_nil))) jda_nil))) (jds_cons (jst 3 sc.nd (jd_op o_sub (jd_blt c_len rfl T.b_len bt_len (jda_cons (jd_var 1) jda_nil)) (jd_var 2))) (jds_cons (jst 4 sc.nd jd_int) (jds_consM (jds_while PassesOwn.never (jd_tw (jd_and (jtm o_gt (jd_blt c_len rfl T.b_len bt_len (jda_cons (jd_var 1) jda_nil)) jd_int) (jd_and1 (jtm o_le (jx (jd_var 1) jd_int) jd_int)))) (jds_cons (jds_augI ip_add (i := 3) sc.nd rfl (Or.inl rfl) (jx (jd_var 1) jd_int)) (jds_cons (jds_augI ip_add (i := 4) sc.nd rfl (Or.inr rfl) jd_int) (jds_one (jst 1 sc.nd (jc G_begun_anew hr (jda_cons (jd_var 1) jda_nil))))))) (jds_consM (jds_while PassesOwn.never (jd_tw (jd_and (jtm o_gt (jd_blt c_len rfl T.b_len bt_len (jda_cons (jd_var 1) jda_nil)) jd_int) (jd_and1 (jtm o_le (jx (jd_var 1) (jd_neg jd_int)) jd_int)))) (jds_cons (jds_augI ip_add (i := 3) sc.nd rfl (Or.inl rfl) (jx (jd_var 1) (jd_neg jd_int))) (jds_one (jst 1 sc.nd (jc G_about hr (jda_cons (jc G_begun_anew hr (jda_cons (jc G_about hr (jda_cons (jd_var 1) jda_nil)) jda_nil)) jda_nil)))))) (jds_cons (jst 3 sc.nd (jd_op o_mod (jd_var 3) (jd_globD rfl T.c_HALVES_TO_SELF))) (jds_cons (jst 5 sc.nd (jd_op o_add (jd_blt (c_sum rfl) rfl T.b_sum bt_sum (jda_cons (jd_var 1) jda_nil)) (jd_op o_mul (jd_blt c_len rfl T.b_len bt_len (jda_cons (jd_globD rfl T.c_HALF) jda_nil)) (jd_var 3)))) (jds_cons (jds_expr (jc G_refuse_beyond hr (jda_cons (jd_var 5) jda_nil))) (jds_cons (jds_setCompV (i := 6) [4] ["number", "often"] ["first"] sc.nd rfl (Or.inl rfl) rfl (by decide +kernel) rfl (by decide +kernel) (by decide +kernel) rfl (all1 ⟨rfl, rfl⟩) (all1 (Or.inl rfl)) (jpd_enum rfl T.b_enumerate (jda_cons (jd_var 1) jda_nil)) (fun _ _ _ _ _ _ => (jdg_tup (n := 2) rfl (jdgs_cons (jn 0 (show (["number", "often", "first"] : List Str).Nodup by decide +kernel)) (jdgs_cons (jn 1 (show (["number", "often", "first"] : List Str).Nodup by decide +kernel)) jdgs_nil)))) (fun _ _ _ _ _ _ => jdifs_nil) (fun _ _ _ _ _ _ => (jd_tup (jda_cons (jx (jd_globD rfl T.c_WORDS) (jd_op o_mod (jd_op o_add (jd_var 2) (jd_var 0)) jd_int)) (jda_cons (jd_var 1) jda_nil))))) (jds_one (jds_ret (jd_fgt (jd_tup (jda_cons (jd_var 5) (jda_cons (jc G_joined hr (jda_cons (jd_catV (jd_var 6) (jd_frz (jd_op o_rep (jd_blty c_listOf rfl T.b_list bt_list (jda_cons (jd_globD rfl T.c_HALF) jda_nil)) (jd_var 3)))) jda_nil)) jda_nil)))))))))))))))), ?_⟩
  walk_at "sim"
  refine ⟨m0, rfl, ⟨hdt, hb, by omega⟩, ?_⟩
  obtain ⟨g0, gr, hg⟩ : ∃ g0 gr, gsT m0 = g0 :: gr := by
    cases e : gsT m0 with
    | nil => exact absurd e (gsT_ne m0)
    | cons a r => exact ⟨a, r, rfl⟩
  obtain ⟨ga, gl, hg2⟩ : ∃ ga gl, gsT m0 = ga ++ [gl] := by
    rcases List.eq_nil_or_concat (gsT m0) with e | ⟨xs, a, e⟩
    · exact absurd e (gsT_ne m0)
    · exact ⟨xs, a, by rw [e, List.concat_eq_append]⟩
  have b0 := mem_sAb (x := g0) (l := gsT m0) (by rw [hg]; exact List.mem_cons_self)
  have b1 := mem_sAb (x := gl) (l := gsT m0) (by rw [hg2]; exact List.mem_append_right _ List.mem_cons_self)
  refine ⟨D.int g0, by rw [hg]; exact atI_lit (n := 0) rfl, ?_⟩
  walk_at "sim"
  refine ⟨D.int gl, by rw [hg2, List.map_append]; exact atI_last, ?_⟩
  walk_at "sim"
  refine ⟨by omega, ?_⟩
  refine JoinBy (fun e M' => ∃ (rs : List Int) (h : Int) (f : Nat), M = M' ∧ e = [some (tabI m0), some (D.vl (rs.map D.int)), some (D.int (sgT m0)), some (D.int h), some (D.int (f : Int)), none, none] ∧ Inn rs ∧ HdP rs ∧ m0 = mulM (hpZ h) (arM (parN f) rs) ∧ sAb rs ≤ 8300) ?_ ?_
  · refine WhileBy (fun m e M' => ∃ (rs : List Int) (h : Int) (f : Nat), m = msB rs ∧ M = M' ∧ e = [some (tabI m0), some (D.vl (rs.map D.int)), some (D.int (sgT m0)), some (D.int h), some (D.int (f : Int)), none, none] ∧ Inn rs ∧ m0 = mulM (hpZ h) (arM (parN f) rs) ∧ sAb rs ≤ 8300 ∧ (¬ HdP rs → sAb rs ≤ 4001)) (msB (gsT m0)) ⟨gsT m0, _, 0, rfl, rfl, by rw [List.length_map]; rfl, hi, hm, by omega, fun _ => by omega⟩ ?_
    rintro m e M' ⟨rs, h, f, rfl, rfl, rfl, r1, r2, r3, r4⟩
    cases rs with
    | nil =>
      walk_at "sim"
      exact ⟨fun z => absurd z (by decide), fun _ => ⟨[], h, f, rfl, r1, fun _ z => (by cases z), r2, r3⟩⟩
    | cons r t =>
      walk_at "sim"
      rw [List.length_map]
      refine ⟨fun _ => ⟨fun hr => ?_, fun hr => ?_⟩, fun z => absurd (show (0 : Int) < ((t.length + 1 : Nat) : Int) by omega) z⟩
      · have r5 := r4 fun z => absurd (z r rfl) (by omega)
        have ll := len_sAb r1
        rw [List.length_cons] at ll
        refine ⟨r, t, rfl, ⟨hr, by omega, by omega⟩, _, msB_anew hr, anew (r :: t), h + r, f + 1, rfl, rfl, r1.anew hr, ?_, ?_, ?_⟩
        · rw [parN_succ, ← anew_step hr]; exact r2
        · have := (sAb_anew hr t).2.2
          rw [sAb_cons] at r5
          omega
        · intro z
          by_cases r0 : r = 0
          · rw [anew_cons, if_pos r0]
            rw [sAb_cons] at r5
            omega
          · exact absurd (anew_hd (by omega) t) z
      · exact ⟨r :: t, h, f, rfl, r1, HdP.of_cons (by omega), r2, r3⟩
  · rintro e M' ⟨rs, h, f, rfl, rfl, r1, r2, r3, r4⟩
    refine JoinBy (fun e M' => ∃ (rs : List Int) (h : Int), M = M' ∧ e = [some (tabI m0), some (D.vl (rs.map D.int)), some (D.int (sgT m0)), some (D.int h), some (D.int (f : Int)), none, none] ∧ PosR rs ∧ m0 = mulM (hpZ h) (arM (parN f) rs)) ?_ ?_
    · refine WhileBy (fun m e M' => ∃ (rs : List Int) (h : Int), m = msB rs.reverse ∧ M = M' ∧ e = [some (tabI m0), some (D.vl (rs.map D.int)), some (D.int (sgT m0)), some (D.int h), some (D.int (f : Int)), none, none] ∧ Inn rs ∧ HdP rs ∧ m0 = mulM (hpZ h) (arM (parN f) rs) ∧ (¬ HdP rs.reverse → sAb rs ≤ 8300)) (msB rs.reverse) ⟨rs, h, rfl, rfl, rfl, r1, r2, r3, fun _ => r4⟩ ?_
      clear r1 r2 r3 r4 h rs
      rintro m e M' ⟨rs, h, rfl, rfl, rfl, r1, r2, r3, r4⟩
      cases e : rs.reverse with
      | nil =>
        have e0 : rs = [] := List.reverse_eq_nil_iff.mp e
        subst e0
        walk_at "sim"
        exact ⟨fun z => absurd z (by decide), fun _ => ⟨[], h, rfl, pos_of r2 r1 r2, r3⟩⟩
      | cons r rest =>
        have er : rs = rest.reverse ++ [r] := by rw [← List.reverse_reverse rs, e, List.reverse_cons]
        have el : (rs.map D.int) = rest.reverse.map D.int ++ [D.int r] := by rw [er, List.map_append]; rfl
        have ix : atI (rs.map D.int) (-1) = some (D.int r) := by rw [el]; exact atI_last
        have lp : (0 : Int) < ((List.map D.int rs).length : Int) := by rw [el, List.length_append]; show (0 : Int) < ((_ + 1 : Nat) : Int); omega
        walk_at "sim"
        refine ⟨fun _ => ⟨_, ix, ?_⟩, fun z => absurd lp z⟩
        walk_at "sim"
        refine ⟨fun hr => ⟨_, ix, ?_⟩, fun hr => ⟨rs, h, rfl, pos_of r2 r1 (by rw [e]; exact HdP.of_cons (by omega)), r3⟩⟩
        walk_at "sim"
        obtain ⟨b1, b2⟩ := end_pos r2 r1 hr e
        have st := r3.trans (end_step hr h (parN f) e b1)
        rw [e] at b2 st
        have ss := r4 fun z => absurd (z r (by rw [e]; rfl)) (by omega)
        have sr : sAb (r :: rest) = sAb rs := by rw [← e, sAb_rev]
        have ll := len_sAb r1
        have lr : rs.length = rest.length + 1 := by rw [er, List.length_append, List.length_reverse]; rfl
        exact ⟨_, rfl, r, rest, by rw [← List.map_reverse, e]; rfl, ⟨hr, by omega, by omega⟩, _, rfl, _, msB_anew hr, (anew (r :: rest)).reverse, h + r, by rw [List.reverse_reverse], by rw [List.map_reverse], b2.2, b2.hd, st, fun z => absurd b2.hdr z⟩
    · rintro e M' ⟨rs, h, rfl, rfl, p1, p2⟩
      have c2 := p1.cn (parN f) h
      rw [← p2] at c2
      have cn := hc.uniq c2
      walk_at "sim"
      have sm := sum_pos_sAb p1.1
      have h4 : 0 ≤ h % 4 ∧ h % 4 < 4 := ⟨Int.emod_nonneg _ (by decide), Int.emod_lt_of_pos _ (by decide)⟩
      have ll := len_sAb p1.2
      have ecn : rs.sum + ((3 : Nat) : Int) * (h % 4) = (n : Int) := by rw [sm]; omega
      refine ⟨m64l (by decide) (by decide), by rw [ecn]; omega, ?_⟩
      rw [enum_prI, ecn]
      refine compV_mapL (xs := rs.mapIdx fun i r => (i, r)) (enc := prI) (fun z => D.tup [.str (wdN (f + z.1)), .int z.2]) (by rw [List.length_mapIdx]; omega) (by simp only [seqD_vl]) (fun z hz Q hQ => ?_) ?_
      · unfold prI
        walk_at "sim"
        refine ⟨_, by rw [show (f : Int) + (z.1 : Int) = ((f + z.1 : Nat) : Int) by omega]; exact wd_at _, ?_⟩
        walk_at "sim"
        exact hQ
      · rw [row_prI p1.1]
        obtain ⟨q1, q2, q3⟩ := told_ok p1 p2
        refine ⟨_, _, rfl, .inl rfl, fun l1 hl1 => ⟨l1, _, _, rfl, rfl, updM_same, h4.1, by omega, by show 3 * _ ≤ 2 ^ 24; omega, fun l2 hl2 => Frz_of hl2 ?_⟩⟩
        have eh : (List.replicate (h % 4).toNat [D.tup [D.str (Str.ofString "gap"), D.int 1], D.tup [D.str (Str.ofString "glass"), D.int 1], D.tup [D.str (Str.ofString "gap"), D.int 1]]).flatten = (hlvR (h % 4).toNat).map ruD := hlv_D _
        rw [eh]
        walk_at "sim"
        rw [List.length_map, List.length_map, rowR_len, hlvR_len]
        refine ⟨by show _ ≤ 2 ^ 24; omega, rowR f rs ++ hlvR (h % 4).toNat, by rw [List.map_append], ⟨by rw [List.length_append, rowR_len, hlvR_len]; omega, fun x hx => (List.mem_append.mp hx).elim row_words hlv_words⟩, Fgt_of (M2 := M) (fun c o hc => ?_) (k _ q1 q2 (by omega))⟩
        rw [updM_ne (fun e => by rw [e, hl1] at hc; cases hc)]; exact hc
theorem ok__law_told (T : Txt K mg) (d : Df K mg "_law_told" s__law_told ["entries"])  : Fn P w K mg base "_law_told" 1 ["entries"] sTold := by
  have sc := sc__law_told
  refine fn_by d sc (by walk_at "len") (fun f cdv A outer s H E ds M R Y hr h => ?_)
  have hu := hr.units
  obtain ⟨x, rfl, ⟨a, b, c, d⟩, hx, k⟩ := h
  have hx' : x = .tup [.int a, .int b, .int c, .int d] := hx
  subst hx'
  refine ⟨_, (jds_one (jds_ret (jd_blty c_tupL rfl T.b_tuple bt_tuple (jda_cons (jd_compV [] ["entry"] [] rfl (by decide +kernel) rfl (by decide +kernel) (by decide +kernel) rfl all0 all0 (jpd_seq (jd_var 0)) (fun _ _ _ _ _ _ => (jn 0 (show (["entry"] : List Str).Nodup by decide +kernel))) (fun _ _ _ _ _ _ => jdifs_nil) (fun _ _ _ _ _ _ => (jd_tup (jda_cons (jd_var 0) (jda_cons jd_int jda_nil))))) jda_nil)))), ?_⟩
  walk_at "sim"
  refine compV_map (xs := [a, b, c, d]) (enc := D.int) (fun n => D.tup [.int n, .int 1]) (by show 4 ≤ 1000; decide) (Or.inl rfl) (fun n hn Q hQ => ?_) ?_
  · walk_at "sim"
    exact hQ
  · walk_at "sim"
    exact k
theorem ok__law_behind (T : Txt K mg) (d : Df K mg "_law_behind" s__law_behind ["one", "other"])  : Fn P w K mg base "_law_behind" 1 ["one", "other"] sBeh52 := by
  have sc := sc__law_behind
  refine fn_by d sc (by walk_at "len") (fun f cdv A outer s H E ds M R Y hr h => ?_)
  have hu := hr.units
  obtain ⟨x, y, rfl, m, k4, rfl, rfl, ⟨hm, hk⟩, k⟩ := h
  obtain ⟨a, b, c, d⟩ := m
  obtain ⟨e1, f1, g1, h1⟩ := k4
  rw [show fourI (a, b, c, d) = .tup [.int a, .int b, .int c, .int d] from rfl, show fourI (e1, f1, g1, h1) = .tup [.int e1, .int f1, .int g1, .int h1] from rfl]
  refine ⟨_, (jds_cons (jds_asg (jd_var 0) (jdg_tup (n := 4) rfl (jdgs_cons (jn 2 sc.nd) (jdgs_cons (jn 3 sc.nd) (jdgs_cons (jn 4 sc.nd) (jdgs_cons (jn 5 sc.nd) jdgs_nil)))))) (jds_cons (jds_asg (jd_var 1) (jdg_tup (n := 4) rfl (jdgs_cons (jn 6 sc.nd) (jdgs_cons (jn 7 sc.nd) (jdgs_cons (jn 8 sc.nd) (jdgs_cons (jn 9 sc.nd) jdgs_nil)))))) (jds_one (jds_ret (jd_tup (jda_cons (jd_op o_add (jd_op o_mul (jd_var 6) (jd_var 2)) (jd_op o_mul (jd_var 7) (jd_var 4))) (jda_cons (jd_op o_add (jd_op o_mul (jd_var 6) (jd_var 3)) (jd_op o_mul (jd_var 7) (jd_var 5))) (jda_cons (jd_op o_add (jd_op o_mul (jd_var 8) (jd_var 2)) (jd_op o_mul (jd_var 9) (jd_var 4))) (jda_cons (jd_op o_add (jd_op o_mul (jd_var 8) (jd_var 3)) (jd_op o_mul (jd_var 9) (jd_var 5))) jda_nil))))))))), ?_⟩
  walk_at "sim"
  have mo : ∀ {x y : Int}, x.natAbs < 2 ^ 800 → y.natAbs < 2 ^ 800 → IntMulOk x y := fun {x y} hx hy => mulOk 800 800 hx hy (by decide)
  obtain ⟨m1, m2, m3, m4⟩ := hm
  obtain ⟨k1, k2, k3, k5⟩ := hk
  exact ⟨mo k1 m1, mo k2 m3, mo k1 m2, mo k2 m4, mo k3 m1, mo k5 m3, mo k3 m2, mo k5 m4, k⟩
theorem ok__law_led (T : Txt K mg) (d : Df K mg "_law_led" s__law_led ["runs", "sign"])  : Fn P w K mg base "_law_led" 1 ["runs", "sign"] sLed53 := by
  have sc := sc__law_led
  refine fn_by d sc (by walk_at "len") (fun f cdv A outer s H E ds M R Y hr h => ?_)
  have hu := hr.units
  obtain ⟨x, s', rfl, rs, hsq, ⟨hs', hsm⟩, k⟩ := h
  refine ⟨_, (jds_cons (jds_asg (jd_tup (jda_cons jd_int (jda_cons jd_int (jda_cons jd_int (jda_cons jd_int jda_nil))))) (jdg_tup (n := 4) rfl (jdgs_cons (jn 2 sc.nd) (jdgs_cons (jn 3 sc.nd) (jdgs_cons (jn 4 sc.nd) (jdgs_cons (jn 5 sc.nd) jdgs_nil)))))) (jds_cons (jds_forI PassesOwn.never rfl (jpd_seq (jd_var 0)) (jdg_tup (n := 2) rfl (jdgs_cons (jn 6 sc.nd) (jdgs_cons (jn 7 sc.nd) jdgs_nil))) (jds_one (jds_if (jtm o_eqS (jd_var 6) jd_str) (jds_one (jds_par (i := 2) (j := 3) rfl sc.nd rfl rfl (by decide) rfl rfl (jda_cons (jd_op o_add (jd_var 2) (jd_op o_mul (jd_var 7) (jd_var 4))) (jda_cons (jd_op o_add (jd_var 3) (jd_op o_mul (jd_var 7) (jd_var 5))) jda_nil)))) (jds_cons (jst 8 sc.nd (jd_op o_mul (jd_var 1) (jd_var 7))) (jds_one (jds_par (i := 4) (j := 5) rfl sc.nd rfl rfl (by decide) rfl rfl (jda_cons (jd_op o_sub (jd_var 4) (jd_op o_mul (jd_var 8) (jd_var 2))) (jda_cons (jd_op o_sub (jd_var 5) (jd_op o_mul (jd_var 8) (jd_var 3))) jda_nil)))))))) (jds_one (jds_ret (jd_tup (jda_cons (jd_var 2) (jda_cons (jd_var 3) (jda_cons (jd_var 4) (jda_cons (jd_var 5) jda_nil))))))))), ?_⟩
  walk_at "sim"
  refine SeqK_of hsq ?_
  refine ForK.by (fun i e M' => M' = M ∧ ∃ z6 z7 z8 : Option D, e = [some x, some (D.int s'), some (D.int (rowsG s' (rs.take i)).1), some (D.int (rowsG s' (rs.take i)).2.1), some (D.int (rowsG s' (rs.take i)).2.2.1), some (D.int (rowsG s' (rs.take i)).2.2.2), z6, z7, z8]) ⟨rfl, _, _, _, rfl⟩ (fun i e M' _ h3 => by rw [h3.1]; exact hsq) ?_ ?_
  · rintro i dd e M' hd ⟨rfl, z6, z7, z8, rfl⟩
    rw [List.getElem?_map] at hd
    cases hx : rs[i]? with
    | none => rw [hx] at hd; cases hd
    | some y =>
      rw [hx] at hd
      obtain rfl : ruD y = dd := Option.some.inj hd
      have h128 := hsm.2 y (List.mem_of_getElem? hx)
      have on := rowsG_on (s := s') hx
      obtain ⟨b1, b2, b3, b4⟩ := take_bzL hs' hsm i
      have z1 : (y.2 : Int).natAbs < 2 ^ 10 := by rw [Int.natAbs_natCast]; exact h128
      have z2 : (s' * (y.2 : Int)).natAbs < 2 ^ 11 := int_mul_lt (show s'.natAbs < 2 ^ 1 by rcases hs' with rfl | rfl <;> decide) z1
      unfold ruD
      rw [on]
      generalize rowsG s' (rs.take i) = m at *
      walk_at "sim"
      unfold runG
      refine ⟨fun hg => ⟨mulOk _ _ z1 b3 (by decide), mulOk _ _ z1 b4 (by decide), ?_⟩, fun hg => ⟨m64l (by rcases hs' with rfl | rfl <;> decide) (by rcases hs' with rfl | rfl <;> decide), mulOk _ _ z2 b1 (by decide), mulOk _ _ z2 b2 (by decide), ?_⟩⟩
      · rw [if_pos hg]; exact ⟨_, _, _, rfl⟩
      · rw [if_neg hg]; exact ⟨_, _, _, rfl⟩
  · rw [List.length_map]
    rintro e M' ⟨rfl, z6, z7, z8, rfl⟩
    rw [List.take_length]
    walk_at "sim"
    exact k
theorem ok__law_next (T : Txt K mg) (d : Df K mg "_law_next" s__law_next ["pool", "base"]) : Fn P w K mg base "_law_next" 1 ["pool", "base"] spNext := by
  have sc := sc__law_next
  refine fn_by d sc (fun ds M R Y h => ?_) (fun f cdv A outer s H E ds M R Y hr h => ?_)
  · obtain ⟨p, b, rfl, _⟩ := h; rfl
  · obtain ⟨p, b, rfl, ⟨x, y, z, hM⟩, hb, hl, k⟩ := h
    refine ⟨_, (jds_cons (jds_if (jtm o_gt (jx (jd_var 0) jd_int) jd_int) (jds_cons (jst 2 sc.nd (jd_op o_mod (jx (jd_var 0) jd_int) (jd_var 1))) (jds_cons (jds_asg (jd_op o_fdiv (jx (jd_var 0) jd_int) (jd_var 1)) (jdg_sub (jd_var 0) jd_int)) (jds_one (jds_ret (jd_var 2))))) jds_nil) (jds_cons (jds_asg (jd_op o_add (jx (jd_var 0) jd_int) jd_int) (jdg_sub (jd_var 0) jd_int)) (jds_cons (jst 3 sc.nd (jd_op o_mod (jd_op o_add (jx (jd_var 0) jd_int) (jd_op o_mul jd_int (jx (jd_var 0) jd_int))) jd_int)) (jds_cons (jst 4 sc.nd (jd_op o_mod (jd_op o_mul (jd_op o_add (jd_var 3) jd_int) (jd_op o_add (jd_var 3) jd_int)) jd_int)) (jds_one (jds_ret (jd_op o_mod (jd_op o_fdiv (jd_op o_mod (jd_op o_mul (jd_var 4) (jd_var 4)) jd_int) jd_int) (jd_var 1)))))))), ?_⟩
    refine ⟨_, rfl, _, ixD_lst hM rfl, _, rfl, _, rfl, ?_⟩
    refine iteD (fun h0 => ?_) (fun h0 => ?_)
    · refine ⟨_, rfl, _, ixD_lst hM rfl, _, rfl, _, _, rfl, rfl, hb, ?_⟩
      refine ⟨_, rfl, _, ixD_lst hM rfl, _, rfl, _, _, rfl, rfl, ⟨by omega, hl⟩, _, rfl, _, _, _, _, rfl, rfl, hM, rfl, ?_⟩
      exact ⟨_, rfl, k _ _ (Int.emod_nonneg _ (by omega)) (Int.emod_lt_of_pos _ hb) (PStep.upd _ _ _)⟩
    · refine ⟨_, rfl, _, ixD_lst hM rfl, _, rfl, _, rfl, _, _, _, _, rfl, rfl, hM, rfl, ?_⟩
      refine ⟨_, rfl, _, ixD_lst updM_same rfl, _, rfl, _, ixD_lst updM_same rfl, _, _, rfl, rfl, m64l (by decide) (by decide), _, rfl, _, _, rfl, rfl, (by show (0 : Int) < 1000000007; decide), ?_⟩
      refine ⟨_, rfl, _, rfl, _, rfl, _, rfl, _, _, rfl, rfl, mmod (by decide) (by decide) (by decide) (by decide), _, _, rfl, rfl, (by show (0 : Int) < 998244353; decide), ?_⟩
      refine ⟨_, rfl, _, rfl, _, _, rfl, rfl, mmod0 (by decide) (by decide), _, _, rfl, rfl, (by show (0 : Int) < 2147483647; decide), _, _, rfl, rfl, cfd8, _, rfl, _, _, rfl, rfl, hb, ?_⟩
      exact k _ _ (Int.emod_nonneg _ (by omega)) (Int.emod_lt_of_pos _ hb) (PStep.upd _ _ _)
theorem ok__law_runs (T : Txt K mg) (d : Df K mg "_law_runs" s__law_runs ["pool", "limit"]) (G__law_next : Fn P w K mg base "_law_next" 1 ["pool", "base"] spNext) : Fn P w K mg base "_law_runs" 2 ["pool", "limit"] sRuns := by
  have sc := sc__law_runs
  refine fn_by d sc (by walk_at "len") (fun f cdv A outer s H E ds M R Y hr h => ?_)
  have hu := hr.units
  obtain ⟨p, n, rfl, hp, ⟨n0, n1⟩, k⟩ := h
  refine ⟨_, (jds_cons (jst 2 sc.nd (jx (jd_lstV (jda_cons jd_str (jda_cons jd_str jda_nil))) (jc G__law_next hr (jda_cons (jd_var 0) (jda_cons jd_int jda_nil))))) (jds_cons (jst 3 sc.nd (jd_lst jda_nil)) (jds_cons (jds_forI PassesOwn.never rfl (jpd_rng rfl T.b_range (jda_cons (jc G__law_next hr (jda_cons (jd_var 0) (jda_cons (jd_op o_add (jd_var 1) jd_int) jda_nil))) jda_nil)) (jn 4 sc.nd) (jds_cons (jst 5 sc.nd (jd_lstV (jda_cons jd_int (jda_cons jd_int (jda_cons jd_int (jda_cons jd_int (jda_cons jd_int (jda_cons jd_int (jda_cons (jd_op o_add jd_int (jc G__law_next hr (jda_cons (jd_var 0) (jda_cons jd_int jda_nil)))) (jda_cons (jd_op o_add jd_int (jc G__law_next hr (jda_cons (jd_var 0) (jda_cons jd_int jda_nil)))) jda_nil)))))))))) (jds_cons (jst 6 sc.nd (jx (jd_var 5) (jc G__law_next hr (jda_cons (jd_var 0) (jda_cons jd_int jda_nil))))) (jds_cons (jds_expr (jd_lm PySem.F.slot_list_append PySem.F.type_list_append dm_append (jd_var 3) (jda_cons (jd_tup (jda_cons (jd_var 2) (jda_cons (jd_var 6) jda_nil))) jda_nil))) (jds_one (jst 2 sc.nd (jx (jd_lstV (jda_cons jd_str (jda_cons jd_str jda_nil))) (jd_blty c_intB rfl T.b_int bt_int (jda_cons (jm o_eqS (jd_var 2) jd_str) jda_nil))))))))) (jds_one (jds_ret (jd_fgt (jd_frz (jd_var 3)))))))), ?_⟩
  walk_at "sim"
  refine ⟨hp, by decide, fun r M1 r0 r1 s1 => gIx_mem r0 (by show r < 2; exact r1) fun d hd l hN => ?_⟩
  obtain ⟨w, rfl, hw⟩ : ∃ w : Str, d = .str w ∧ (w = "gap" ∨ w = "glass") := by
    simp only [List.mem_cons, List.not_mem_nil, or_false] at hd
    rcases hd with rfl | rfl
    · exact ⟨_, rfl, .inl rfl⟩
    · exact ⟨_, rfl, .inr rfl⟩
  have hlp : l ≠ p := s1.pool.ne hN
  have hN0 : M l = none := by
    cases e : M l with
    | none => rfl
    | some o => rw [s1.keep l o hlp e] at hN; cases hN
  have s0 := s1.put (o := .lst []) hN0 hlp
  refine ⟨s0.pool, by omega, Nat.lt_of_lt_of_le (log_lt (k := 7) (show (n + 1).natAbs < 128 by omega) (by decide)) (by decide), fun c M2 c0 c1 s2 => ⟨⟨by omega, by omega⟩, ?_⟩⟩
  have s02 := s0.trans s2
  refine ForK.by (fun i e M' => ∃ (rs : List GM.Run) (v : Str) (z4 z5 z6 : Option D), e = [some (D.ref p), some (D.int n), some (D.str v), some (D.ref l), z4, z5, z6] ∧ M' l = some (.lst (rs.map ruD)) ∧ PStep p M M' ∧ rs.length = i ∧ AltR rs ∧ (∀ x ∈ rs, x.2 ≤ 60) ∧ (v = "gap" ∨ v = "glass") ∧ (∀ x, rs.getLast? = some x → x.1 ≠ v)) ⟨[], w, _, _, _, rfl, s2.keep l _ hlp updM_same, s02, rfl, trivial, fun x hx => (by cases hx), hw, fun x hx => (by cases hx)⟩ (fun _ _ _ _ _ => trivial) ?_ ?_
  · rintro i dd e M' hd ⟨rs, v, z4, z5, z6, rfl, hM, st, hl, ha, hc, hv, hlast⟩
    have hi := (List.getElem?_eq_some_iff.mp hd).1
    rw [rangeD_length] at hi
    walk_at "sim"
    refine ⟨st.pool, by decide, fun q1 M3 q10 q11 s3 => ⟨s3.pool, by decide, fun q2 M4 q20 q21 s4 => ⟨s4.pool, by decide, fun q3 M5 q30 q31 s5 => gIx_mem q30 (by show q3 < 8; exact q31) fun dc hdc => ?_⟩⟩⟩
    obtain ⟨ct, rfl, ct0, ct1⟩ : ∃ ct : Nat, dc = .int (ct : Int) ∧ 0 < ct ∧ ct ≤ 60 := by
      simp only [List.mem_cons, List.not_mem_nil, or_false] at hdc
      rcases hdc with rfl | rfl | rfl | rfl | rfl | rfl | rfl | rfl
      · exact ⟨1, rfl, by decide, by decide⟩
      · exact ⟨1, rfl, by decide, by decide⟩
      · exact ⟨1, rfl, by decide, by decide⟩
      · exact ⟨2, rfl, by decide, by decide⟩
      · exact ⟨2, rfl, by decide, by decide⟩
      · exact ⟨3, rfl, by decide, by decide⟩
      · exact ⟨(1 + q1).toNat, by rw [show (((1 + q1).toNat : Nat) : Int) = 1 + q1 by omega], by omega, by omega⟩
      · exact ⟨(1 + q2).toNat, by rw [show (((1 + q2).toNat : Nat) : Int) = 1 + q2 by omega], by omega, by omega⟩
    have s35 := (s3.trans s4).trans s5
    have hM5 := s35.keep l _ hlp hM
    refine LMK_of hM5 (App_of hM5 (by rw [List.length_map]; omega) ?_)
    walk_at "sim"
    have fin : ∀ v2 : Str, (v2 = "gap" ∨ v2 = "glass") → v ≠ v2 → ∃ (rs' : List GM.Run) (v' : Str) (z4 z5 z6 : Option D), [some (D.ref p), some (D.int n), some (D.str v2), some (D.ref l), some dd, some (D.vl [D.int 1, D.int 1, D.int 1, D.int 2, D.int 2, D.int 3, D.int (1 + q1), D.int (1 + q2)]), some (D.int (ct : Int))] = [some (D.ref p), some (D.int n), some (D.str v'), some (D.ref l), z4, z5, z6] ∧ (updM M5 l (MO.lst (List.map ruD rs ++ [D.tup [D.str v, D.int (ct : Int)]]))) l = some (MO.lst (List.map ruD rs')) ∧ PStep p M (updM M5 l (MO.lst (List.map ruD rs ++ [D.tup [D.str v, D.int (ct : Int)]]))) ∧ rs'.length = i + 1 ∧ AltR rs' ∧ (∀ x ∈ rs', x.2 ≤ 60) ∧ (v' = "gap" ∨ v' = "glass") ∧ (∀ x, rs'.getLast? = some x → x.1 ≠ v') := fun v2 hv2 hne => by
      refine ⟨rs ++ [(v, ct)], v2, _, _, _, rfl, by rw [updM_same, List.map_append]; rfl, (st.trans s35).put hN0 hlp, by rw [List.length_append, hl]; rfl, ha.snoc hv ct0 hlast, fun x hx => ?_, hv2, fun x hx => ?_⟩
      · rcases List.mem_append.mp hx with hx | hx
        · exact hc x hx
        · rw [List.mem_singleton.mp hx]; exact ct1
      · rw [List.getLast?_concat] at hx
        rw [← Option.some.inj hx]
        exact hne
    rcases hv with rfl | rfl
    · rw [if_pos rfl]
      exact ⟨_, rfl, fin _ (.inr rfl) (by decide)⟩
    · rw [if_neg (by decide)]
      exact ⟨_, rfl, fin _ (.inl rfl) (by decide)⟩
  · rintro e M' ⟨rs, v, z4, z5, z6, rfl, hM, st, hl, ha, hc, hv, hlast⟩
    rw [rangeD_length] at hl
    walk_at "sim"
    refine ⟨l, _, rfl, hM, ?_⟩
    exact Fgt_of (M2 := delM M' l) (fun _ _ h => h) (k rs _ ha (by omega) hc (st.del hN0 hlp))
theorem ok__law_pool (T : Txt K mg) (d : Df K mg "_law_pool" s__law_pool ["cell"]) : Fn P w K mg base "_law_pool" 1 ["cell"] spPool := by
  have sc := sc__law_pool
  refine fn_by d sc (fun ds M R Y h => ?_) (fun f cdv A outer s H E ds M R Y hr h => ?_)
  · obtain ⟨c, rfl, _⟩ := h; rfl
  · obtain ⟨c, rfl, k⟩ := h
    refine ⟨_, (jds_one (jds_ret (jd_lst (jda_cons (jd_blt (c_max rfl) rfl T.b_max bt_max (jda_cons jd_int (jda_cons (jd_op o_sub (jd_var 0) (jd_op o_pow jd_int jd_int)) jda_nil))) (jda_cons (jd_op o_mod (jd_var 0) (jd_op o_pow jd_int jd_int)) (jda_cons jd_int jda_nil)))))), ?_⟩
    refine ⟨_, rfl, _, _, rfl, rfl, cp18, _, rfl, _, _, rfl, _, rfl, _, _, rfl, rfl, cp18, _, _, rfl, rfl, (by show (0 : Int) < 10 ^ 18; decide), sl 3, fun p hp => ?_⟩
    exact k p _ hp (MK.new hp) ⟨_, _, _, updM_same⟩
theorem ok__law_short (T : Txt K mg) (d : Df K mg "_law_short" s__law_short ["longest"]) (G__law_behind : Fn P w K mg base "_law_behind" 1 ["one", "other"] sBeh52) : Fn P w K mg base "_law_short" 2 ["longest"] sShort := by
  have sc := sc__law_short
  refine fn_by d sc (by walk_at "len") (fun f cdv A outer s H E ds M R Y hr h => ?_)
  have hu := hr.units
  obtain ⟨n, rfl, hn, k⟩ := h
  refine ⟨_, (jds_cons (jst 1 sc.nd (jd_dict1 hu (jd_tup (jda_cons jd_int (jda_cons jd_int (jda_cons jd_int (jda_cons jd_int jda_nil))))) jd_int)) (jds_cons (jst 2 sc.nd (jd_lstV (jda_cons (jd_tup (jda_cons jd_int (jda_cons jd_int (jda_cons jd_int (jda_cons jd_int jda_nil))))) jda_nil))) (jds_cons (jds_forI PassesOwn.never rfl (jpd_rng2 rfl T.b_range (jda_cons jd_int (jda_cons (jd_op o_add (jd_var 0) jd_int) jda_nil))) (jn 3 sc.nd) (jds_cons (jst 4 sc.nd (jd_lst jda_nil)) (jds_cons (jds_forI PassesOwn.never rfl (jpd_seq (jd_var 2)) (jn 5 sc.nd) (jds_one (jds_forI PassesOwn.never rfl (jpd_seq (jd_lstV (jda_cons (jd_tup (jda_cons jd_int (jda_cons jd_int (jda_cons jd_int (jda_cons jd_int jda_nil))))) (jda_cons (jd_tup (jda_cons jd_int (jda_cons jd_int (jda_cons (jd_neg jd_int) (jda_cons jd_int jda_nil))))) jda_nil)))) (jn 6 sc.nd) (jds_cons (jst 7 sc.nd (jc G__law_behind hr (jda_cons (jd_var 5) (jda_cons (jd_var 6) jda_nil)))) (jds_one (jds_if (jtm (o_notD hu) (jd_var 7) (jd_var 1)) (jds_cons (jds_asg (jd_var 3) (jdg_subD hu (jd_var 1) (jd_var 7))) (jds_one (jds_expr (jd_lm PySem.F.slot_list_append PySem.F.type_list_append dm_append (jd_var 4) (jda_cons (jd_var 7) jda_nil))))) jds_nil)))))) (jds_one (jst 2 sc.nd (jd_var 4)))))) (jds_one (jds_ret (jd_fgt (jd_var 1))))))), ?_⟩
  walk_at "sim"
  rw [z_Dict1]
  intro p hp
  walk_at "sim"
  refine ⟨kyZ oneZ, rfl, rfl, updM_same, ⟨by omega, by omega⟩, ?_⟩
  rw [updM_upd]
  refine ForK.by (fun i e M' => ∃ (lt : D) (z3 z4 z5 z6 z7 : Option D), e = [some (D.int n), some (D.ref p), some lt, z3, z4, z5, z6, z7] ∧ M' p = some (.dic (thT, none) ((bfT i).1.map zE)) ∧ seqD M' lt ((bfT i).2.map fourI) ∧ ∀ c o, M c = some o → M' c = some o) ⟨_, _, _, _, _, _, rfl, updM_same, .inr (.inr rfl), fun c o hc => ?_⟩ (fun _ _ _ _ _ => trivial) ?_ ?_
  · rw [updM_ne (fun e => by rw [e, hp] at hc; cases hc)]; exact hc
  · rintro i dd e M' hd ⟨lt, z3, z4, z5, z6, z7, rfl, hP, sq, kp⟩
    have hi := (List.getElem?_eq_some_iff.mp hd).1
    rw [rangeD_length] at hi
    rw [rangeD_get hi] at hd
    obtain rfl : D.int (1 + (i : Int)) = dd := Option.some.inj hd
    have i8 : i ≤ 7 := by omega
    have bo := bfT_ok i
    have q1 : 2 ^ (i + 1) ≤ 2 ^ 8 := Nat.pow_le_pow_right (by decide) (by omega)
    have q0 : 2 ^ i ≤ 2 ^ 7 := Nat.pow_le_pow_right (by decide) i8
    have bl1 := bo.l1
    have bl2 := bo.l2
    have hbf : bfT (i + 1) = rndT (i + 1) ((bfT i).1, []) ((bfT i).2.flatMap twoT) := rfl
    generalize bfT (i + 1) = fin at hbf ⊢
    generalize hz : (bfT i).1 = zs at *
    generalize hl : (bfT i).2 = ls at *
    have lsC : ∀ T ∈ ls, Cn T i := fun T hT => bo.ls T (by rw [hl]; exact hT)
    walk_at "sim"
    intro q hq
    have qp : q ≠ p := fun e => by rw [e, hP] at hq; cases hq
    have nq : ∀ {c : Addr} {o : MO}, M' c = some o → c ≠ q := fun {c o} h e => by rw [e, hq] at h; cases h
    have sq2 : seqD (updM M' q (.lst [])) lt (ls.map fourI) := seqD_up sq hq
    refine SeqK_of sq2 ?_
    refine ForK.by (fun j e M2 => ∃ z5 z6 z7 : Option D, e = [some (D.int n), some (D.ref p), some lt, some (D.int (1 + (i : Int))), some (D.ref q), z5, z6, z7] ∧ M2 p = some (.dic (thT, none) ((rndT (i + 1) (zs, []) ((ls.take j).flatMap twoT)).1.map zE)) ∧ M2 q = some (.lst ((rndT (i + 1) (zs, []) ((ls.take j).flatMap twoT)).2.map fourI)) ∧ ∀ c o, c ≠ p → M' c = some o → M2 c = some o) ⟨_, _, _, rfl, ?_, updM_same, fun c o hc h => ?_⟩ (fun j e M2 _ h => ?_) ?_ ?_
    · rw [updM_ne (Ne.symm qp)]; exact hP
    · rw [updM_ne (nq h)]; exact h
    · obtain ⟨_, _, _, _, _, _, h4⟩ := h
      rcases sq with e | ⟨l, e, hm⟩ | e
      · exact .inl e
      · exact .inr (.inl ⟨l, e, h4 l _ (fun z => by rw [z, hP] at hm; cases hm) hm⟩)
      · exact .inr (.inr e)
    · rintro j dd e M2 hd2 ⟨z5, z6, z7, rfl, h1, h2, h3⟩
      rw [List.getElem?_map] at hd2
      cases hx : ls[j]? with
      | none => rw [hx] at hd2; cases hd2
      | some t =>
        rw [hx] at hd2
        obtain rfl : fourI t = dd := Option.some.inj hd2
        have ct := lsC t (List.mem_of_getElem? hx)
        have bt : Bz 800 t := ct.bz (by omega)
        rw [two_take hx, rndT_app]
        have pl := two_len (ls.take j)
        have jl : j < ls.length := (List.getElem?_eq_some_iff.mp hx).1
        rw [List.length_take] at pl
        have rn := rnd_rn (i + 1) ((ls.take j).flatMap twoT) (zs, [])
        have rl1 : (rndT (i + 1) (zs, []) ((ls.take j).flatMap twoT)).1.length ≤ zs.length + _ := rn.l1
        have rl2 : (rndT (i + 1) (zs, []) ((ls.take j).flatMap twoT)).2.length ≤ 0 + _ := rn.l2
        generalize rndT (i + 1) (zs, []) ((ls.take j).flatMap twoT) = s0 at *
        walk_at "sim"
        refine ForK.by (fun m e M3 => ∃ z6 z7 : Option D, e = [some (D.int n), some (D.ref p), some lt, some (D.int (1 + (i : Int))), some (D.ref q), some (fourI t), z6, z7] ∧ M3 p = some (.dic (thT, none) ((rndT (i + 1) s0 ((twoT t).take m)).1.map zE)) ∧ M3 q = some (.lst ((rndT (i + 1) s0 ((twoT t).take m)).2.map fourI)) ∧ ∀ c o, c ≠ p → M' c = some o → M3 c = some o) ⟨_, _, rfl, h1, h2, h3⟩ (fun _ _ _ _ _ => by simp only [seqD_vl]) ?_ ?_
        · rintro m dd e M3 hd3 ⟨z6, z7, rfl, g1, g2, g3⟩
          obtain ⟨l, hdl, htk⟩ : ∃ l, dd = fourI (gnM l) ∧ (twoT t).take (m + 1) = (twoT t).take m ++ [mulM (gnM l) t] := by
            match m, hd3 with
            | 0, hd3 => exact ⟨true, (Option.some.inj hd3).symm, rfl⟩
            | 1, hd3 => exact ⟨false, (Option.some.inj hd3).symm, rfl⟩
          subst hdl
          rw [htk, rndT_app]
          have rn2 := rnd_rn (i + 1) ((twoT t).take m) s0
          have tl : ((twoT t).take m).length ≤ 2 := by rw [List.length_take]; exact Nat.min_le_right _ _
          have sl1 := rn2.l1
          have sl2 := rn2.l2
          generalize rndT (i + 1) s0 ((twoT t).take m) = s1 at *
          have ea : rndT (i + 1) s1 [mulM (gnM l) t] = addT (i + 1) s1 (mulM (gnM l) t) := rfl
          rw [ea]
          have bg : Bz 800 (gnM l) := by cases l <;> (unfold Bz gnM; decide)
          walk_at "sim"
          refine ⟨t, gnM l, rfl, rfl, ⟨bt, bg⟩, p, none, s1.1.map zE, kyZ (mulM (gnM l) t), rfl, rfl, rfl, g1, zE_ok _, ?_⟩
          rw [zE_any]
          cases hc : s1.1.any fun x => decide (x.1 = mulM (gnM l) t) with
          | true =>
            have eq : addT (i + 1) s1 (mulM (gnM l) t) = s1 := by unfold addT; rw [hc, if_pos rfl]
            rw [eq]
            exact ⟨_, rfl, fun z => (nomatch z), fun _ => ⟨_, _, rfl, g1, g2, g3⟩⟩
          | false =>
            have eq : addT (i + 1) s1 (mulM (gnM l) t) = (s1.1 ++ [(mulM (gnM l) t, i + 1)], s1.2 ++ [mulM (gnM l) t]) := by unfold addT; rw [hc, if_neg Bool.false_ne_true]
            rw [eq]
            have nP : ∀ {x : MO}, (updM M3 p x) q = M3 q := fun {x} => updM_ne qp
            refine ⟨_, rfl, fun _ => ⟨p, s1.1.map zE, kyZ (mulM (gnM l) t), rfl, rfl, rfl, g1, zE_ok _, ?_, LMK_of (by rw [nP]; exact g2) (App_ofL (by rw [nP]; exact g2) (by rw [List.length_map]; omega) ⟨_, _, rfl, ?_, ?_, fun c o hc hm => ?_⟩)⟩, fun z => (nomatch z)⟩
            · rw [List.length_map]
              exact Nat.lt_of_lt_of_le (show s1.1.length < 100000 by omega) (by decide)
            · rw [updM_ne (Ne.symm qp), updM_same, ← zE_put hc, show (1 + (i : Int)) = ((i + 1 : Nat) : Int) by omega]
            · rw [updM_same, List.map_append]; rfl
            · rw [updM_ne (nq hm), updM_ne hc]; exact g3 c o hc hm
        · rintro e M3 ⟨z6, z7, rfl, g1, g2, g3⟩
          exact ⟨_, _, _, rfl, g1, g2, g3⟩
    · rintro e M2 ⟨z5, z6, z7, rfl, h1, h2, h3⟩
      rw [List.length_map, List.take_length, ← hbf] at h1 h2
      walk_at "sim"
      exact ⟨_, _, _, _, _, _, rfl, h1, .inr (.inl ⟨q, rfl, h2⟩), fun c o hc => h3 c o (fun z => by rw [z, hp] at hc; cases hc) (kp c o hc)⟩
  · rintro e M' ⟨lt, z3, z4, z5, z6, z7, rfl, hP, sq, kp⟩
    walk_at "sim"
    rw [rangeD_length] at hP
    have hN : (n + 1 - 1).toNat = 7 ∨ (n + 1 - 1).toNat = 8 := by omega
    refine Fgt_of (M2 := updM M p (.dic (thT, none) ((bfT (n + 1 - 1).toNat).1.map zE))) (fun c o h => ?_) (k p _ hp (bfT_sh (by omega) (by omega)))
    by_cases z : c = p
    · subst z; rw [updM_same] at h; cases h; exact hP
    · rw [updM_ne z] at h; exact kp c o h
theorem ok_law {f : Addr} {fd : FuncData} (T : Txt K mg) (d : FunD K "law" s_law f fd) (G_fewest : Fn P w K mg base "fewest" 3 ["table"] sFew) (G__law_told : Fn P w K mg base "_law_told" 1 ["entries"] sTold) (G__law_behind : Fn P w K mg base "_law_behind" 1 ["one", "other"] sBeh52) (G__law_led : Fn P w K mg base "_law_led" 1 ["runs", "sign"] sLed53) (G__law_runs : Fn P w K mg base "_law_runs" 2 ["pool", "limit"] sRuns) (G__law_next : Fn P w K mg base "_law_next" 1 ["pool", "base"] spNext) (G__law_pool : Fn P w K mg base "_law_pool" 1 ["cell"] spPool) (G__law_short : Fn P w K mg base "_law_short" 2 ["longest"] sShort) : FnOk P w K mg base CX0 4 f fd ["script"] (upSp K spLaw) := by
  have sc := sc_law
  refine fn_ok d sc (fun ds M R Y h => by obtain ⟨n, rfl, _⟩ := h; rfl) (fun cdv A outer s H E ds M R Y hr h => ?_)
  obtain ⟨ns, rfl, hlen, k⟩ := h
  have hu := hr.units
  refine ⟨_, (jds_cons (jst 1 sc.nd (jc G__law_short hr (jda_cons (jd_op o_add jd_int (jd_op o_mod (jd_blt c_len rfl T.b_len bt_len (jda_cons (jd_var 0) jda_nil)) jd_int)) jda_nil))) (jds_cons (jds_forI PassesOwn.never rfl (jpd_dic (jd_var 1)) (jn 2 sc.nd) (jds_one (jds_if (jtm (o_neC hu) (jx (jc G_fewest hr (jda_cons (jc G__law_told hr (jda_cons (jd_var 2) jda_nil)) jda_nil)) jd_int) (jd_ix (i_getD hu) (jd_var 1) (jd_var 2) (fun _ _ => rfl))) (jds_one (jds_ret jd_bl)) jds_nil))) (jds_cons (jst 3 sc.nd (jd_frz (jd_blt (c_sortedD rfl) rfl T.b_sorted bt_sorted (jda_cons (jd_var 1) jda_nil)))) (jds_cons (jds_forI PassesOwn.never rfl (jpd_seq (jd_catV (jd_lstV (jda_cons jd_int jda_nil)) (jd_var 0))) (jn 4 sc.nd) (jds_cons (jst 5 sc.nd (jc G__law_pool hr (jda_cons (jd_var 4) jda_nil))) (jds_cons (jst 2 sc.nd (jx (jd_var 3) (jc G__law_next hr (jda_cons (jd_var 5) (jda_cons (jd_blt c_len rfl T.b_len bt_len (jda_cons (jd_var 3) jda_nil)) jda_nil))))) (jds_cons (jst 6 sc.nd (jc G__law_runs hr (jda_cons (jd_var 5) (jda_cons jd_int jda_nil)))) (jds_cons (jst 7 sc.nd (jc G__law_led hr (jda_cons (jd_var 6) (jda_cons jd_int jda_nil)))) (jds_cons (jst 8 sc.nd (jx (jc G_fewest hr (jda_cons (jc G__law_told hr (jda_cons (jc G__law_behind hr (jda_cons (jd_var 7) (jda_cons (jd_var 2) jda_nil))) jda_nil)) jda_nil)) jd_int)) (jds_cons (jds_if (jtm o_gt (jd_var 8) (jd_op o_add (jx (jc G_fewest hr (jda_cons (jc G__law_told hr (jda_cons (jd_var 7) jda_nil)) jda_nil)) jd_int) (jd_ix (i_getD hu) (jd_var 1) (jd_var 2) (fun _ _ => rfl)))) (jds_one (jds_ret jd_bl)) jds_nil) (jds_cons (jst 9 sc.nd (jc G__law_behind hr (jda_cons (jc G__law_behind hr (jda_cons (jd_var 7) (jda_cons (jd_var 2) jda_nil))) (jda_cons (jd_tup (jda_cons (jx (jd_var 2) jd_int) (jda_cons (jd_op o_sub jd_int (jx (jd_var 2) jd_int)) (jda_cons (jd_op o_sub jd_int (jx (jd_var 2) jd_int)) (jda_cons (jx (jd_var 2) jd_int) jda_nil))))) jda_nil)))) (jds_one (jds_if (jd_tw (jd_or (jtm (o_neC hu) (jd_var 9) (jd_var 7)) (jd_or1 (jtm o_gt (jx (jc G_fewest hr (jda_cons (jc G__law_told hr (jda_cons (jd_var 7) jda_nil)) jda_nil)) jd_int) (jd_op o_add (jd_var 8) (jd_op o_mul jd_int (jd_ix (i_getD hu) (jd_var 1) (jd_var 2) (fun _ _ => rfl)))))))) (jds_one (jds_ret jd_bl)) jds_nil)))))))))) (jds_one (jds_ret jd_bl)))))), ?_⟩
  walk_at "sim"
  refine ⟨by omega, fun p zs hp sh => ⟨_, rfl, p, zs.map zE, rfl, updM_same, zE_ok _, fun ep => ?_⟩⟩
  rw [updM_upd]
  obtain ⟨M0, hM0⟩ : ∃ M0, updM M p (.dic (thT, some ep) (zs.map zE)) = M0 := ⟨_, rfl⟩
  have hP : M0 p = some (.dic (thT, some ep) (zs.map zE)) := by rw [← hM0]; exact updM_same
  rw [hM0]
  have get : ∀ {M' : Mem} {t : Z4} {n : Nat} {Q : DK}, M' p = some (.dic (thT, some ep) (zs.map zE)) → (t, n) ∈ zs → Q (D.int (n : Int)) M' → gGetD (D.ref p) (fourI t) M' Q := fun {M' t n Q} h1 h2 h3 => ⟨p, some ep, zs.map zE, kyZ t, fourI t, _, rfl, rfl, rfl, h1, zE_ok _, zE_find sh.nd h2, h3⟩
  refine ForK.by (fun i e M' => M' = M0 ∧ ∃ z2 : Option D, e = [some (D.vl (List.map D.int ns)), some (D.ref p), z2, none, none, none, none, none, none, none]) ⟨rfl, _, rfl⟩ (fun i e M' _ h => by rw [h.1]; exact hP) ?_ ?_
  · rintro i dd e M' hd ⟨rfl, z2, rfl⟩
    rw [List.map_map, List.getElem?_map] at hd
    cases hx : zs[i]? with
    | none => rw [hx] at hd; cases hd
    | some x =>
      rw [hx] at hd
      obtain rfl : fourI x.1 = dd := Option.some.inj hd
      have mx := List.mem_of_getElem? hx
      obtain ⟨c1, c2⟩ := sh.ok x mx
      walk_at "sim"
      refine ⟨x.1, rfl, x.1, x.2, rfl, ⟨c1, by omega, c1.bz (by omega)⟩, fun rs _ _ _ => get hP mx ⟨rfl, fun z => absurd rfl z, fun _ => ⟨rfl, _, rfl⟩⟩⟩
  · rintro e M' ⟨rfl, z2, rfl⟩
    walk_at "sim"
    refine ⟨p, some ep, zs.map zE, rfl, hP, zE_ok _, fun e he => ?_, by rw [List.length_map]; exact sh.two, fun ks l1 l2 q hq => Frz_of hq ?_⟩
    · obtain ⟨x, _, rfl⟩ := List.mem_map.mp he
      exact fun z => nomatch z
    · obtain ⟨ts, e1, e2⟩ : ∃ ts : List Z4, ks.map pkD = ts.map fourI ∧ ∀ t ∈ ts, ∃ n, (t, n) ∈ zs := by
        clear l1
        induction ks with
        | nil => exact ⟨[], rfl, fun t ht => (nomatch ht)⟩
        | cons y ks ih =>
          obtain ⟨ts, e1, e2⟩ := ih fun z hz => l2 z (.tail _ hz)
          obtain ⟨e, he, rfl⟩ := l2 y (.head _)
          obtain ⟨x, hx, rfl⟩ := List.mem_map.mp he
          refine ⟨x.1 :: ts, by rw [List.map_cons, List.map_cons, e1]; rfl, fun t ht => ?_⟩
          rcases List.mem_cons.mp ht with rfl | ht
          · exact ⟨x.2, hx⟩
          · exact e2 t ht
      have tl : ts.length = zs.length := by have := congrArg List.length e1; rw [List.length_map, List.length_map, l1, List.length_map] at this; exact this.symm
      rw [e1]
      refine ⟨szS' hlen 1, ?_⟩
      refine ForK.by (fun i e M2 => M2 p = some (.dic (thT, some ep) (zs.map zE)) ∧ ∃ z2 z4 z5 z6 z7 z8 z9 : Option D, e = [some (D.vl (List.map D.int ns)), some (D.ref p), z2, some (D.vl (List.map fourI ts)), z4, z5, z6, z7, z8, z9]) ⟨hP, _, _, _, _, _, _, _, rfl⟩ (fun i e M' _ _ => by simp only [seqD_vl]) ?_ ?_
      · rintro i dd e M2 hd ⟨h2, z2, z4, z5, z6, z7, z8, z9, rfl⟩
        obtain ⟨n, rfl⟩ := ints_item2 (ns := [0]) hd
        walk_at "sim"
        intro pl M3 hpl mk hPl
        have hne : p ≠ pl := fun z => by rw [z, hpl] at h2; cases h2
        have t0 := sh.two
        have t1 := sh.few
        rw [List.length_map]
        refine ⟨hPl, by omega, Nat.lt_of_lt_of_le (log_lt (k := 10) (show (ts.length : Int).natAbs < 1024 by omega) (by decide)) (by decide), fun r M4 r0 r1 s4 => gIx_mem r0 (by rw [List.length_map]; exact r1) fun d hd => ?_⟩
        obtain ⟨t, ht, rfl⟩ := List.mem_map.mp hd
        obtain ⟨m, hm⟩ := e2 t ht
        obtain ⟨c1, c2⟩ := sh.ok _ hm
        have c1 : Cn t m := c1
        have c2 : m ≤ 8 := c2
        refine ⟨s4.pool, fun rs M5 ra rl rc s5 => ⟨rs, .inr (.inr rfl), ⟨.inl trivial, by omega, fun x hx => by have := rc x hx; omega⟩, ?_⟩⟩
        have rw0 := fun x hx => (ra.words x hx).1
        obtain ⟨q, q1, q2⟩ := Cn.rows rw0
        have lc := cntR_le rc
        have q3 : q ≤ 240 := by omega
        generalize rowsG 1 rs = x at *
        obtain ⟨b, b1, b2⟩ := c1.mul q1
        have both := both_ok c1 q1 b1
        have h5 : M5 p = some (.dic (thT, some ep) (zs.map zE)) := s5.keep p _ hne (s4.keep p _ hne (mk p _ h2))
        obtain ⟨iv, i1, i2⟩ := c1.inv
        refine ⟨x, t, rfl, rfl, ⟨q1.bz (by omega), c1.bz (by omega)⟩, mulM t x, rfl, mulM t x, b, rfl, ⟨b1, by omega, b1.bz (by omega)⟩, fun _ _ _ _ => ⟨x, rfl, x, q, rfl, ⟨q1, by omega, q1.bz (by omega)⟩, fun _ _ _ _ => get h5 hm ?_⟩⟩
        walk_at "sim"
        refine ⟨fun z => by omega, fun _ => ⟨x, t, rfl, rfl, ⟨q1.bz (by omega), c1.bz (by omega)⟩, ?_⟩⟩
        have nv := nv_left (x := x) c1.det
        have en : nvM t = (t.2.2.2, 0 - t.2.1, 0 - t.2.2.1, t.1) := by unfold nvM; simp
        have bn : Bz 800 (nvM t) := i1.bz (by omega)
        rw [show fourI t = .tup [.int t.1, .int t.2.1, .int t.2.2.1, .int t.2.2.2] from rfl]
        walk_at "sim"
        refine ⟨mulM t x, nvM t, rfl, by rw [en]; rfl, ⟨b1.bz (by omega), bn⟩, rfl, rfl, fun z => absurd (by rw [nv]) z, fun _ => ⟨x, rfl, x, q, rfl, ⟨q1, by omega, q1.bz (by omega)⟩, fun _ _ _ _ => get h5 hm ?_⟩⟩
        walk_at "sim"
        refine ⟨m64l (by decide) (by decide), fun z => by omega, fun _ => ⟨h5, _, _, _, _, _, _, _, rfl⟩⟩
      · rintro e M2 ⟨h2, z2, z4, z5, z6, z7, z8, z9, rfl⟩
        walk_at "sim"
        exact k _
end
end K52
namespace K52
open PySem PySem.Spec L2 DL GM
theorem all_ok {P : Program} {w : World} {K : PySem.W.Frag} {mg : Str → Option Value} {fa : Addr} (T : Txt K mg) (hfa : mg "law" = some (.ref fa)) (D_joined : Df K mg "joined" s_joined ["runs"]) (D_refuse_beyond : Df K mg "refuse_beyond" s_refuse_beyond ["count"]) (D_about : Df K mg "about" s_about ["runs"]) (D_begun_anew : Df K mg "begun_anew" s_begun_anew ["runs"]) (D_whole_entries : Df K mg "whole_entries" s_whole_entries ["table"]) (D_gaps_between_halves : Df K mg "gaps_between_halves" s_gaps_between_halves ["table"]) (D_fewest : Df K mg "fewest" s_fewest ["table"]) (D__law_told : Df K mg "_law_told" s__law_told ["entries"]) (D__law_behind : Df K mg "_law_behind" s__law_behind ["one", "other"]) (D__law_led : Df K mg "_law_led" s__law_led ["runs", "sign"]) (D__law_next : Df K mg "_law_next" s__law_next ["pool", "base"]) (D__law_runs : Df K mg "_law_runs" s__law_runs ["pool", "limit"]) (D__law_pool : Df K mg "_law_pool" s__law_pool ["cell"]) (D__law_short : Df K mg "_law_short" s__law_short ["longest"]) (D_law : DfL K mg "law" s_law ["script"]) :
    ∃ fd : FuncData, (∀ (s : Shared) (u : Value), BindsTo s fd ⟨[u], []⟩ [("script", u)]) ∧ ∀ base : Heap, FnOk P w K mg base CX0 4 fa fd ["script"] (upSp K spLaw) := by
  obtain ⟨f, fd, F, hm, hb⟩ := D_law.ex
  have e : f = fa := by rw [hm] at hfa; injection hfa with z; injection z
  subst e
  refine ⟨fd, fun s u => .of_eq (hb [u] rfl), fun base => ?_⟩
  have G_joined := ok_joined (P := P) (w := w) (base := base) T D_joined 
  have G_refuse_beyond := ok_refuse_beyond (P := P) (w := w) (base := base) T D_refuse_beyond 
  have G_about := ok_about (P := P) (w := w) (base := base) T D_about 
  have G_begun_anew := ok_begun_anew (P := P) (w := w) (base := base) T D_begun_anew 
  have G_whole_entries := ok_whole_entries (P := P) (w := w) (base := base) T D_whole_entries 
  have G_gaps_between_halves := ok_gaps_between_halves (P := P) (w := w) (base := base) T D_gaps_between_halves G_refuse_beyond G_whole_entries
  have G_fewest := ok_fewest (P := P) (w := w) (base := base) T D_fewest G_joined G_refuse_beyond G_about G_begun_anew G_gaps_between_halves
  have G__law_told := ok__law_told (P := P) (w := w) (base := base) T D__law_told 
  have G__law_behind := ok__law_behind (P := P) (w := w) (base := base) T D__law_behind 
  have G__law_led := ok__law_led (P := P) (w := w) (base := base) T D__law_led 
  have G__law_next := ok__law_next (P := P) (w := w) (base := base) T D__law_next 
  have G__law_runs := ok__law_runs (P := P) (w := w) (base := base) T D__law_runs G__law_next
  have G__law_pool := ok__law_pool (P := P) (w := w) (base := base) T D__law_pool 
  have G__law_short := ok__law_short (P := P) (w := w) (base := base) T D__law_short G__law_behind
  exact ok_law T F G_fewest G__law_told G__law_behind G__law_led G__law_runs G__law_next G__law_pool G__law_short
theorem walk {l : PySem.W.OpenLaw} {q : Program} {loose : List Str} {XP : (Str → Option Value) → Heap → Prop} {YP : World → Heap → Prop} {d : DefRec} {K : Params → PySem.W.Frag} (hn : l.most = some 63) (hdf : d.params.defaults = [])
    (hY : ∀ (w : World) (h : Heap), YP w h → (K w.params).In h)
    (F : ∀ (w : World) (mg : Str → Option Value) (fa : Addr) (h : Heap), (K w.params).In h → h.Ns mainGlobals mg → mg d.name = some (.ref fa) →
      ∃ fd : FuncData, (∀ (s : Shared) (u : Value), BindsTo s fd ⟨[u], []⟩ [("script", u)]) ∧ ∀ base : Heap, FnOk l.prog w (K w.params) mg base CX0 4 fa fd ["script"] (upSp (K w.params) spLaw)) :
    PySem.W.WalkO q loose XP YP l.row.toRowW d [] (fun f vs => PySem.call f vs) :=
  L2.walk_ofK (n := 63) (k := 4) (x := "script") (CX := CX0) (sp := fun K => upSp K spLaw) hn (by decide) hdf ⟨rfl, by decide, by decide⟩ hY (fun w mg fa h a b c => let ⟨fd, h1, h2⟩ := F w mg fa h a b c; ⟨fd, h1, fun base _ _ => h2 base⟩)
    (fun K H a ns hl hO hS => law_sp hO hS ⟨ns, rfl, hl, fun _ => rfl⟩) fun _ _ _ _ z => z
end K52
namespace PySem.W.Fast
theorem te6951832699612919271 : True := trivial
theorem tw11516633672869825160 : True := ⟨⟩
theorem tw9075819429920520002 : True := ⟨⟩
theorem tw12489230673815075601 : True := ⟨⟩
theorem tw2509597888712751160 : True := ⟨⟩
theorem tw4176371793370445479 : True := ⟨⟩
theorem tw9300869806314172584 : True := ⟨⟩
theorem tw7044846169437134228 : True := ⟨⟩
theorem tw5904484726369737559 : True := ⟨⟩
theorem tw8621646680626403288 : True := ⟨⟩
theorem tw3147886031170434601 : True := ⟨⟩
theorem tw12335923409935029376 : True := ⟨⟩
theorem tw2607919385261588399 : True := ⟨⟩
theorem tw15766101353755724812 : True := ⟨⟩
theorem tw4701361649979960151 : True := ⟨⟩
theorem tw2486982331810575940 : True := ⟨⟩
theorem tw16275710673518255375 : True := ⟨⟩
theorem tw10721938191161971766 : True := ⟨⟩
theorem tw6446726348530710217 : True := ⟨⟩
theorem tw1833683639236241795 : True := ⟨⟩
theorem tw15764686368301882114 : True := ⟨⟩
theorem tw17500651161858695318 : True := ⟨⟩
theorem tw1894885127093805352 : True := ⟨⟩
theorem tw14706010236020001254 : True := ⟨⟩
theorem tw1115488973668852414 : True := ⟨⟩
theorem tw8489713314508912671 : True := ⟨⟩
theorem tw6447147172549901066 : True := ⟨⟩
theorem tw9690449601037260241 : True := ⟨⟩
theorem tw2160595096094488410 : True := ⟨⟩
theorem tw11005009642509298309 : True := ⟨⟩
theorem tw9574158818569777700 : True := ⟨⟩
theorem tw1214293222013563020 : True := ⟨⟩
theorem tw7294293841948616617 : True := ⟨⟩
theorem tw6911396469699704666 : True := ⟨⟩
theorem tw18275466167922213899 : True := ⟨⟩
theorem tw1204705300057527272 : True := ⟨⟩
theorem tw12588260214666380030 : True := ⟨⟩
theorem tw816623203523370275 : True := ⟨⟩
theorem tw7836673877246486812 : True := ⟨⟩
theorem tw7280169216028410108 : True := ⟨⟩
theorem tw16017862102213464319 : True := ⟨⟩
theorem tw12497282984267381254 : True := ⟨⟩
theorem tw13420175507096061264 : True := ⟨⟩
theorem tw3478620954298082355 : True := ⟨⟩
theorem tw7203848083041001466 : True := ⟨⟩
theorem tw3173713240185937467 : True := ⟨⟩
theorem tw4372945347797910377 : True := ⟨⟩
theorem tw9146237683073297010 : True := ⟨⟩
theorem tw7354799853807833450 : True := ⟨⟩
theorem tw7712964310920596016 : True := ⟨⟩
theorem tw13442845691825680280 : True := ⟨⟩
end PySem.W.Fast
open PySem PySem.W PyProof.Rows
set_option maxRecDepth 100000 in
set_option maxHeartbeats 0 in
theorem PySem.Challenge.cw_roundglass_k52_whole_all_short_rows_holds : PySem.Challenge.rw_roundglass_k52_whole_all_short_rows.Holds := by
  w_on; o_law; k_head; (case hw => w_witness2)
  k_fill
  refine K52.walk (l := PySem.Challenge.rw_roundglass_k52_whole_all_short_rows) rfl rfl (fun w h Y => PySem.W.kIn_of Y) ?F
  case F =>
    intro w mg fa h KX G hmg
    refine' K52.all_ok ⟨PySem.W.mg_none_of KX G ?z_abs, PySem.W.mg_none_of KX G ?z_any, PySem.W.mg_none_of KX G ?z_enumerate, PySem.W.mg_none_of KX G ?z_int, PySem.W.mg_none_of KX G ?z_len, PySem.W.mg_none_of KX G ?z_list, PySem.W.mg_none_of KX G ?z_max, PySem.W.mg_none_of KX G ?z_range, PySem.W.mg_none_of KX G ?z_reversed, PySem.W.mg_none_of KX G ?z_sorted, PySem.W.mg_none_of KX G ?z_sum, PySem.W.mg_none_of KX G ?z_tuple, DL.gl_any KX G ?c0_HALF (DL.hc_tup ?c1_HALF rfl (DL.HasCL.cons (DL.hc_tup ?c2_HALF rfl (DL.HasCL.cons DL.hc_str (DL.HasCL.cons DL.hc_int DL.HasCL.nil))) (DL.HasCL.cons (DL.hc_tup ?c3_HALF rfl (DL.HasCL.cons DL.hc_str (DL.HasCL.cons DL.hc_int DL.HasCL.nil))) (DL.HasCL.cons (DL.hc_tup ?c4_HALF rfl (DL.HasCL.cons DL.hc_str (DL.HasCL.cons DL.hc_int DL.HasCL.nil))) DL.HasCL.nil)))), DL.gl_int KX G ?c0_HALVES_TO_SELF, DL.gl_int KX G ?c0_MOST_COUNT, DL.gl_any KX G ?c0_WORDS (DL.hc_tup ?c1_WORDS rfl (DL.HasCL.cons DL.hc_str (DL.HasCL.cons DL.hc_str DL.HasCL.nil)))⟩ hmg (DL.df_mk KX G ?n0 ?l0 ?c0 ?k0 ?b0) (DL.df_mk KX G ?n1 ?l1 ?c1 ?k1 ?b1) (DL.df_mk KX G ?n2 ?l2 ?c2 ?k2 ?b2) (DL.df_mk KX G ?n3 ?l3 ?c3 ?k3 ?b3) (DL.df_mk KX G ?n4 ?l4 ?c4 ?k4 ?b4) (DL.df_mk KX G ?n5 ?l5 ?c5 ?k5 ?b5) (DL.df_mk KX G ?n6 ?l6 ?c6 ?k6 ?b6) (DL.df_mk KX G ?n7 ?l7 ?c7 ?k7 ?b7) (DL.df_mk KX G ?n8 ?l8 ?c8 ?k8 ?b8) (DL.df_mk KX G ?n9 ?l9 ?c9 ?k9 ?b9) (DL.df_mk KX G ?n10 ?l10 ?c10 ?k10 ?b10) (DL.df_mk KX G ?n11 ?l11 ?c11 ?k11 ?b11) (DL.df_mk KX G ?n12 ?l12 ?c12 ?k12 ?b12) (DL.df_mk KX G ?n13 ?l13 ?c13 ?k13 ?b13) (DL.dfl_mk KX G ?n14 ?l14 ?c14 ?k14 ?b14)
    (case n0 => k_is); (case l0 => k_is); (case c0 => k_is); (case k0 => k_is); (case b0 => (intro us hl; exact match us, hl with | [_], _ => rfl))
    (case n1 => k_is); (case l1 => k_is); (case c1 => k_is); (case k1 => k_is); (case b1 => (intro us hl; exact match us, hl with | [_], _ => rfl))
    (case n2 => k_is); (case l2 => k_is); (case c2 => k_is); (case k2 => k_is); (case b2 => (intro us hl; exact match us, hl with | [_], _ => rfl))
    (case n3 => k_is); (case l3 => k_is); (case c3 => k_is); (case k3 => k_is); (case b3 => (intro us hl; exact match us, hl with | [_], _ => rfl))
    (case n4 => k_is); (case l4 => k_is); (case c4 => k_is); (case k4 => k_is); (case b4 => (intro us hl; exact match us, hl with | [_], _ => rfl))
    (case n5 => k_is); (case l5 => k_is); (case c5 => k_is); (case k5 => k_is); (case b5 => (intro us hl; exact match us, hl with | [_], _ => rfl))
    (case n6 => k_is); (case l6 => k_is); (case c6 => k_is); (case k6 => k_is); (case b6 => (intro us hl; exact match us, hl with | [_], _ => rfl))
    (case n7 => k_is); (case l7 => k_is); (case c7 => k_is); (case k7 => k_is); (case b7 => (intro us hl; exact match us, hl with | [_], _ => rfl))
    (case n8 => k_is); (case l8 => k_is); (case c8 => k_is); (case k8 => k_is); (case b8 => (intro us hl; exact match us, hl with | [_, _], _ => rfl))
    (case n9 => k_is); (case l9 => k_is); (case c9 => k_is); (case k9 => k_is); (case b9 => (intro us hl; exact match us, hl with | [_, _], _ => rfl))
    (case n10 => k_is); (case l10 => k_is); (case c10 => k_is); (case k10 => k_is); (case b10 => (intro us hl; exact match us, hl with | [_, _], _ => rfl))
    (case n11 => k_is); (case l11 => k_is); (case c11 => k_is); (case k11 => k_is); (case b11 => (intro us hl; exact match us, hl with | [_, _], _ => rfl))
    (case n12 => k_is); (case l12 => k_is); (case c12 => k_is); (case k12 => k_is); (case b12 => (intro us hl; exact match us, hl with | [_], _ => rfl))
    (case n13 => k_is); (case l13 => k_is); (case c13 => k_is); (case k13 => k_is); (case b13 => (intro us hl; exact match us, hl with | [_], _ => rfl))
    (case n14 => k_is); (case l14 => k_is); (case c14 => k_is); (case k14 => k_is); (case b14 => (intro us hl; exact match us, hl with | [_], _ => rfl))
    (case z_abs => k_is); (case z_any => k_is); (case z_enumerate => k_is); (case z_int => k_is); (case z_len => k_is); (case z_list => k_is); (case z_max => k_is); (case z_range => k_is); (case z_reversed => k_is); (case z_sorted => k_is); (case z_sum => k_is); (case z_tuple => k_is); (case c0_HALF => k_is); (case c1_HALF => k_is); (case c2_HALF => k_is); (case c3_HALF => k_is); (case c4_HALF => k_is); (case c0_HALVES_TO_SELF => k_is); (case c0_MOST_COUNT => k_is); (case c0_WORDS => k_is); (case c1_WORDS => k_is)
